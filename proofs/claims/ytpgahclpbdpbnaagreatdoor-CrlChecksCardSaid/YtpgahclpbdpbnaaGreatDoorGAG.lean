import Derived.Test.YtpgahclpbdpbnaaGreatDoorGAF
import Derived.Test.YtpgahclpbdpbnaaGreatDoorGAE
import Derived.Test.YtpgahclpbdpbnaaGreatDoorGAC
import Derived.Test.YtpgahclpbdpbnaaGreatDoorGAA
import Derived.Handy
set_option maxHeartbeats 4000000
set_option maxRecDepth 100000
namespace Go.Proofs.YtpgahclpbdpbnaaGreatDoor.Clk
open Go.RowKit
theorem rread_any (t:ByteArray) (long:Bool) (w:World):Calls Tryz.prog 101 #[.string t,.bool long] w (zaZ w (readD (zae t) long)):=by
 have NL:=zwd (zaK t)
 cases long
 · by_cases h1:t.size=13
   · by_cases h2:nth t 12=90
     · exact zl7 t w h1 h2
     · have RD:Hid (readD (zae t) false=none):=by
        unfold Hid readD
        rw[if_neg (fun h=>h2 h.2)]
       have hi:=zd3 t 12 (by omega) 12 rfl
       have h1':(t.size:Int)=13:=by omega
       generalize nth t 12=c at hi h2
       have t2:(c !=90)=true:=by simpa using h2
       clear h1
       go_enter Tryz.func101,Tryz.ntmps101
       go_wp2
       go_ret2
       exact zaZ.bad RD.out (Below.refl _ _)
   · have RD:Hid (readD (zae t) false=none):=by
      unfold Hid readD
      rw[if_neg (fun h=>h1 (by have:=h.1;rw[NL.out]at this;exact this))]
     have t1:((t.size:Int) !=13)=true:=by simp;omega
     go_enter Tryz.func101,Tryz.ntmps101
     go_wp2
     go_ret2
     exact zaZ.bad RD.out (Below.refl _ _)
 · by_cases h1:t.size=15
   · by_cases h2:nth t 14=90
     · exact zor t w h1 h2
     · have RD:Hid (readD (zae t) true=none):=by
        unfold Hid readD
        rw[if_neg (fun h=>h2 h.2)]
       have hi:=zd3 t 14 (by omega) 14 rfl
       have h1':(t.size:Int)=15:=by omega
       generalize nth t 14=c at hi h2
       have t2:(c !=90)=true:=by simpa using h2
       clear h1
       go_enter Tryz.func101,Tryz.ntmps101
       go_wp2
       go_ret2
       exact zaZ.bad RD.out (Below.refl _ _)
   · have RD:Hid (readD (zae t) true=none):=by
      unfold Hid readD
      rw[if_neg (fun h=>h1 (by have:=h.1;rw[NL.out]at this;exact this))]
     have t1:((t.size:Int) !=15)=true:=by simp;omega
     go_enter Tryz.func101,Tryz.ntmps101
     go_wp2
     go_ret2
     exact zaZ.bad RD.out (Below.refl _ _)
end Go.Proofs.YtpgahclpbdpbnaaGreatDoor.Clk
namespace Go.Proofs.YtpgahclpbdpbnaaGreatDoor
open Go.RowKit
set_option linter.unusedVariables false
def zb4 (S:ByteArray) (ok:Bool):T×Int:=if ok=true then(.node (if S.size=13 then 23 else 24) (zae S) [],0)else(zbz,1)
def zb5 (s:Int) (w:World) (e:Ending) (w':World):Prop:=∃S ok,Clk.TextR s S ok/\ zaQ (zb4 S ok) w e w'
theorem zb5.post {s:Int} {S:ByteArray} {ok:Bool} {w W:World} {a:Act} {fn:Func} (h:Clk.TextR s S ok) (hp:bodyPost Tryz.prog fn (zaQ (zb4 S ok) w) .ret a W):bodyPost Tryz.prog fn (zb5 s w) .ret a W:=by
 obtain⟨hd,v,hr,hR⟩:=hp
 exact⟨hd,v,hr,⟨S,ok,h,hR⟩⟩
theorem zkN {s:Int} {S:ByteArray} {ok:Bool} (h:Clk.TextR s S ok):S.size<=15:=by
 rcases h with⟨_,h⟩|⟨_,h⟩
 · rcases h with⟨_,a,_,_,rfl⟩|⟨h,_⟩
   · rw[strOfNums_size];simp[Clk.D6.long,Clk.D6.txt,Clk.digs_length]
   · cases h
 · rcases h with⟨_,a,_,rfl⟩|⟨_,rfl,_⟩
   · rw[strOfNums_size];simp[Clk.D6.long,Clk.D6.txt,Clk.digs_length]
   · exact Nat.zero_le _
theorem zed (s:Int) (w:World):Calls Tryz.prog 27 #[.int .i64 s] w (zb5 s w):=by
 have S0:=zwd (RB.start w)
 go_enter Tryz.func27,Tryz.ntmps27
 go_wp2_with fail
 generalize hw0:w.alloc (.cells #[.int .i64 0,.slice none 0 0,.slice none 0 0] 30)=w0 at*
 clear hw0
 refine(Clk.rtext_any s w0).mono ?_
 rintro e w1 ⟨S,ok,hR,rfl,hb⟩
 have S1:=zwd (S0.out.go hb)
 have hsz:=zkN hR
 have TR:=zwd hR
 clear hR hb S0
 cases ok
 · have F:Hid (zb4 S false=(.node 0 [] [],1)):=rfl
   have RN:=zwd (Row.nil w1)
   obtain⟨p0,p1,p2,q0,q1,q2⟩:=S1.out.box.six
   go_wp2_with fail
   exact zb5.post TR.out (zah (zs:=[]) (c:=0) F.out rfl rfl rfl S1.out (RN.out _) (fun h=>absurd h (by simp)) ⟨fun _=>rfl,Nat.le_refl _⟩ rfl (by simp))
 · obtain⟨cap,W1,hrun,hrow,hb1,hcap⟩:=Clk.bytes_of S w1
   have S2:=zwd (S1.out.go hb1)
   have R2:=zwd hrow
   obtain⟨p0,p1,p2,q0,q1,q2⟩:=S2.out.box.six
   have hlt0:w.heap.size<w1.heap.size:=S1.out.box.lt
   have NL:=zaK S
   clear hrow hb1
   by_cases h13:S.size=13
   · have F:Hid (zb4 S true=(.node 23 (zae S) [],0)):=by simp[Hid,zb4,h13]
     have t1:((S.size:Int) !=13)=false:=by simp;omega
     go_wp2_with fail
     rw[show(13:Nat)=(zae S).length by omega]
     exact zb5.post TR.out (zah (zs:=zae S) (c:=cap) F.out rfl rfl rfl S2.out (by rw[NL];exact R2.out) (fun _=>⟨_,_,rfl,hlt0⟩) ⟨fun e=>(by cases e),by rw[NL];exact hcap⟩ rfl (by omega))
   · have F:Hid (zb4 S true=(.node 24 (zae S) [],0)):=by simp[Hid,zb4,h13]
     have t1:((S.size:Int) !=13)=true:=by simp;omega
     go_wp2_with fail
     rw[<-NL]
     exact zb5.post TR.out (zah (zs:=zae S) (c:=cap) F.out rfl rfl rfl S2.out (by rw[NL];exact R2.out) (fun _=>⟨_,_,rfl,hlt0⟩) ⟨fun e=>(by cases e),by rw[NL];exact hcap⟩ rfl (by omega))
def zgD (t:T) (x:Int×Int):Prop:=∃S ok,Clk.TextR (Clk.readV (Clk.readD (zae (strOfNums t.body)) (t.tag==24))) S ok/\
 x=if Clk.readB (Clk.readD (zae (strOfNums t.body)) (t.tag==24))=true/\ (zb4 S ok).2=0/\ zaW (zb4 S ok).1 t=true then(Clk.readV (Clk.readD (zae (strOfNums t.body)) (t.tag==24)),0)else(0,2)
theorem zgD.eq {t:T} {x y:Int×Int} (h:zgD t x) (k:zgD t y):x=y:=by
 obtain⟨S,ok,h1,rfl⟩:=h
 obtain⟨S',ok',k1,rfl⟩:=k
 obtain⟨rfl,rfl⟩:=h1.eq k1
 rfl
def zkO (t:T) (w:World) (e:Ending) (w':World):Prop:=∃x,zgD t x/\ e= .returned (.tuple #[.int .i64 x.1,.int .i64 x.2])/\ Below w.heap.size w w'
theorem zsZ (S:ByteArray) (ok:Bool):(zb4 S ok).2=0 \/(zb4 S ok).2=1:=by
 unfold zb4
 split
 · exact .inl rfl
 · exact .inr rfl
theorem zkP (t:T) (v:Value) (w:World) (hin:t.In w v):Calls Tryz.prog 63 #[v] w (zkO t w):=by
 obtain⟨A,n,c,K,m,d,rfl,hw,hr,hn,hc,hm,hm',hks⟩:=hin.open
 have B2:=zwd (Box.start hin)
 have hcv:=zbx c (hr.below B2.out.below)
 have WR:Hid (∀x,zgD t x↔zgD t x):=fun _=>Iff.rfl
 have WD:Hid (∀S ok x,Clk.TextR (Clk.readV (Clk.readD (zae (strOfNums t.body)) (t.tag==24))) S ok->(x=if Clk.readB (Clk.readD (zae (strOfNums t.body)) (t.tag==24))=true/\ (zb4 S ok).2=0/\ zaW (zb4 S ok).1 t=true then(Clk.readV (Clk.readD (zae (strOfNums t.body)) (t.tag==24)),0)else(0,2))->zgD t x):=fun S ok x h e=>⟨S,ok,h,e⟩
 have CR:=zwd (fun W=>Clk.rread_any (strOfNums t.body) (t.tag==24) W)
 obtain⟨g0,g1,g2⟩:=B2.out.cells
 clear hr hks hc hin hm hm' hw hn WR
 generalize Clk.readD (zae (strOfNums t.body)) (t.tag==24)=R at*
 generalize strOfNums t.body=S0 at*
 go_enter Tryz.func63,Tryz.ntmps63
 generalize hw2:w.alloc (.cells #[.int .i64 t.tag,.slice A n c,.slice K m d] 30)=w2 at*
 go_wp2_with fail
 refine(CR.out _).mono ?_
 rintro e w3 ⟨rfl,hb3⟩
 have B3:=zwd (B2.out.go hb3)
 clear hw2 CR B2 hb3 hcv g0 g1 g2
 generalize Clk.readV R=V at*
 generalize Clk.readB R=rb at*
 go_wp2_with fail
 refine(zed V w3).mono ?_
 rintro e w4 ⟨S,ok,hR,A3,n3,c3,K3,m3,d3,rfl,hin3,hb3⟩
 have WX:=zwd (fun x=>WD.out S ok x hR)
 have HE:=zsZ S ok
 clear hR WD
 generalize zb4 S ok=X at*
 have B4:=zwd ((B3.out.go hb3).go ((Below.refl w4.heap.size w4).alloc (Nat.le_refl _) (.cells #[.int .i64 X.1.tag,.slice A3 n3 c3,.slice K3 m3 d3] 30)))
 have X4:=zwd (T.In.below ((Below.refl w4.heap.size w4).alloc (Nat.le_refl _) (.cells #[.int .i64 X.1.tag,.slice A3 n3 c3,.slice K3 m3 d3] 30)) X.1 (T.InP.in _ hin3))
 clear hin3 hb3 B3
 obtain⟨g0,g1,g2⟩:=B4.out.cells
 obtain⟨xt,xe⟩:=X
 cases rb
 · have F:=zwd (WX.out (0,2) (by simp))
   clear WX
   go_wp2_with fail
   go_ret2
   exact⟨_,F.out,rfl,B4.out.below⟩
 rcases HE with rfl|rfl
 · have CS:=zwd (zdR xt t _ _ _ X4.out B4.out.has)
   clear X4
   go_wp2_with fail
   refine CS.out.mono ?_
   rintro e w5 ⟨rfl,hb5⟩
   have B5:=zwd (B4.out.go hb5)
   clear hb5 CS B4 g0 g1 g2
   cases hs:zaW xt t
   · have F:=zwd (WX.out (0,2) (by simp[hs]))
     clear WX
     go_wp2_with fail
     go_ret2
     exact⟨_,F.out,rfl,B5.out.below⟩
   · have F:=zwd (WX.out (V,0) (by simp[hs]))
     clear WX
     go_wp2_with fail
     go_ret2
     exact⟨_,F.out,rfl,B5.out.below⟩
 · have F:=zwd (WX.out (0,2) (by simp))
   clear WX
   go_wp2_with fail
   go_ret2
   exact⟨_,F.out,rfl,B4.out.below⟩
end Go.Proofs.YtpgahclpbdpbnaaGreatDoor
namespace Go.Proofs.YtpgahclpbdpbnaaGreatDoor
open Go.RowKit
mutual
def wt:T->Int
 | .node _ b ks=>1+b.length+za2 ks
def za2:List T->Int
 | []=>0
 |x::r=>wt x+za2 r
end
mutual
def dp:T->Int
 | .node _ _ ks=>1+zos ks
def zos:List T->Int
 | []=>0
 |x::r=>if zos r<dp x then dp x else zos r
end
theorem zdc (t:T):wt t=1+t.body.length+za2 t.kids:=by
 obtain⟨tag,b,ks⟩:=t
 rw[wt]
 rfl
theorem znh (ks:List T) (h:∀k∈ks,1<=wt k):0<=za2 ks:=by
 induction ks with
 |nil=>rw[za2];omega
 |cons k r ih=>
   rw[za2]
   have:=h k (by simp)
   have:=ih (fun x hx=>h x (by simp[hx]))
   omega
theorem zkQ (t:T):1<=wt t:=by
 refine T.each (p:=fun t=>1<=wt t) ?_ t
 intro t ih
 have:=znh t.kids ih
 rw[zdc]
 omega
theorem zbq (ks:List T):0<=za2 ks:=znh ks (fun k _=>zkQ k)
theorem zqq {ks:List T} {k:T} (h:k∈ks):wt k<=za2 ks:=by
 induction ks with
 |nil=>simp at h
 |cons x r ih=>
   rw[za2]
   rcases List.mem_cons.1 h with rfl|h
   · have:=zbq r
     omega
   · have:=ih h
     have:=zkQ x
     omega
theorem zs0 (ks:List T):0<=zos ks:=by
 induction ks with
 |nil=>rw[zos];omega
 |cons x r ih=>
   rw[zos]
   split<;>omega
def zav (z:Int):Bool:=(z.tdiv 32).tmod 2==1
def tagB (z:Int):Bool:=decide (0<=z)&&(decide (z<256)&&(z%32 !=31))
def zfw (c:Int):Int:=if c<128 then 1 else if c<256 then 2 else 3
def lenB (c:Int):List Int:=if c<128 then [c]else if c<256 then [129,c]else [130,c/256%256,c%256]
theorem zch (c:Int):((lenB c).length:Int)=zfw c:=by
 unfold lenB zfw
 split
 · rfl
 · split<;>rfl
theorem zkR {c:Int} (h0:0<=c):∀x∈lenB c,0<=x/\ x<=255:=by
 intro x hx
 unfold lenB at hx
 split at hx
 · have:x=c:=by simpa using hx
   omega
 · split at hx
   · have:x=129 \/x=c:=by simpa using hx
     omega
   · have:x=130 \/x=c/256%256 \/x=c%256:=by simpa using hx
     omega
theorem zbO (c:Int):1<=zfw c/\ zfw c<=3:=by
 unfold zfw
 split
 · omega
 · split<;>omega
mutual
def zaT:T->Int
 | .node t b ks=>(if zav t then zaq ks else b.length)+1+zfw (if zav t then zaq ks else b.length)
def zaq:List T->Int
 | []=>0
 |x::r=>zaT x+zaq r
end
mutual
def zeS:T->Int
 | .node t _ ks=>1+(if zav t then za7 ks else 0)
def za7:List T->Int
 | []=>0
 |x::r=>zeS x+za7 r
end
mutual
def zaP:T->Int
 | .node t _ ks=>(if zav t then zas ks else 0)+1
def zas:List T->Int
 | []=>0
 |x::r=>if zas r<zaP x then zaP x else zas r
end
def inT (t:T):Int:=if zav t.tag then zaq t.kids else t.body.length
theorem zcK (t:T):zaT t=inT t+1+zfw (inT t):=by
 obtain⟨tag,b,ks⟩:=t
 rw[zaT]
 rfl
theorem zjs (t:T):zeS t=1+(if zav t.tag then za7 t.kids else 0):=by
 obtain⟨tag,b,ks⟩:=t
 rw[zeS]
 rfl
theorem zfx (t:T):zaP t=(if zav t.tag then zas t.kids else 0)+1:=by
 obtain⟨tag,b,ks⟩:=t
 rw[zaP]
 rfl
theorem zci (t:T):2<=zaT t/\ zaT t<=5*wt t/\ 1<=zeS t/\ zeS t<=wt t/\ 1<=zaP t/\ zaP t<=wt t:=by
 refine T.each (p:=fun t=>2<=zaT t/\ zaT t<=5*wt t/\ 1<=zeS t/\ zeS t<=wt t/\ 1<=zaP t/\ zaP t<=wt t) ?_ t
 intro t ih
 have key:∀ks:List T,(∀t∈ks,2<=zaT t/\ zaT t<=5*wt t/\ 1<=zeS t/\ zeS t<=wt t/\ 1<=zaP t/\ zaP t<=wt t)->
  0<=zaq ks/\ zaq ks<=5*za2 ks/\ 0<=za7 ks/\ za7 ks<=za2 ks/\ 0<=zas ks/\ zas ks<=za2 ks:=by
  intro ks
  induction ks with
  |nil=>intro _;simp only[zaq,za7,zas,za2];omega
  |cons k r ihr=>
    intro h
    have h1:=h k (by simp)
    have h2:=ihr (fun x hx=>h x (by simp[hx]))
    simp only[zaq,za7,zas,za2]
    have h3:=zkQ k
    refine⟨by omega,by omega,by omega,by omega,?_,?_⟩<;>split<;>omega
 have h:=key t.kids ih
 have hl:=zbO (inT t)
 have hi:0<=inT t/\ inT t<=t.body.length+5*za2 t.kids:=by
  unfold inT
  split<;>omega
 have hp:=zbq t.kids
 rw[zcK,zjs,zfx,zdc]
 refine⟨by omega,by omega,?_,?_,?_,?_⟩<;>(try split)<;>omega
theorem zbJ (ks:List T):0<=zaq ks/\ zaq ks<=5*za2 ks/\ 0<=za7 ks/\ za7 ks<=za2 ks/\ 0<=zas ks/\ zas ks<=za2 ks:=by
 induction ks with
 |nil=>simp only[zaq,za7,zas,za2];omega
 |cons k r ih=>
   have h1:=zci k
   simp only[zaq,za7,zas,za2]
   refine⟨by omega,by omega,by omega,by omega,?_,?_⟩<;>split<;>omega
theorem zkS (t:T):0<=inT t/\ inT t<=5*wt t:=by
 have h:=zbJ t.kids
 have:=zbq t.kids
 rw[zdc]
 unfold inT
 split<;>omega
end Go.Proofs.YtpgahclpbdpbnaaGreatDoor
namespace Go.Proofs.YtpgahclpbdpbnaaGreatDoor
open Go.RowKit
theorem zbZ (z:Int) (w:World) (hz:(Lit.int .i64 z).wf=true):Calls Tryz.prog 137 #[.int .i64 z] w fun e w'=>e= .returned (.bool (zav z))/\ w=w':=by
 have hb:=bounds_i64 hz
 go_enter Tryz.func137,Tryz.ntmps137
 go_wp2_with fail
 go_ret
 exact⟨rfl,rfl⟩
theorem zjt (z:Int) (w:World) (hz:(Lit.int .i64 z).wf=true):Calls Tryz.prog 136 #[.int .i64 z] w fun e w'=>e= .returned (.bool (tagB z))/\ w=w':=by
 have hb:=bounds_i64 hz
 by_cases h0:0<=z
 · by_cases h1:z<256
   · have F:Hid (tagB z=(z%32 !=31)):=by simp[tagB,h0,h1,Hid]
     go_enter Tryz.func136,Tryz.ntmps136
     go_wp2_with fail
     go_ret
     exact⟨zaj F.out.symm,rfl⟩
   · have F:Hid (tagB z=false):=by simp[tagB,h1,Hid]
     go_enter Tryz.func136,Tryz.ntmps136
     go_wp2_with fail
     go_ret
     exact⟨zaj F.out.symm,rfl⟩
 · have F:Hid (tagB z=false):=by simp[tagB,h0,Hid]
   go_enter Tryz.func136,Tryz.ntmps136
   go_wp2_with fail
   go_ret
   exact⟨zaj F.out.symm,rfl⟩
def zju (z:Int) (w:World) (e:Ending) (w':World):Prop:=
 ∃a c,e= .returned (.slice (some a) (lenB z).length c)/\ Row w' (some a) (lenB z).length (lenB z)/\ Below w.heap.size w w'
theorem zdv {z:Int} {w:World} {zs:List Int} {n:Nat} (hz:lenB z=zs) (h0:0<=z) (hn:n=zs.length):zju z w (.returned (.slice (some ⟨w.heap.size,0,none⟩) n n)) (w.alloc (.cells (zs.map (Value.int .u8)).toArray 5 (0,0))):=by
 subst hz
 subst hn
 exact⟨_,_,rfl,zaY w (lenB z) (0,0) (zkR h0),(Below.refl _ _).alloc (Nat.le_refl _) _⟩
theorem zeH (z:Int) (w:World) (h0:0<=z) (h1:z<=1000000):Calls Tryz.prog 138 #[.int .i64 z] w (zju z w):=by
 by_cases c1:z<128
 · go_enter Tryz.func138,Tryz.ntmps138
   go_wp2_with fail
   go_ret
   exact zdv (zs:=[z]) (by simp[lenB,c1]) h0 rfl
 by_cases c2:z<256
 · go_enter Tryz.func138,Tryz.ntmps138
   go_wp2_with fail
   go_ret
   exact zdv (zs:=[129,z]) (by rw[lenB,if_neg (by omega),if_pos c2]) h0 rfl
 · have F:Hid (lenB z=[130,z/256%256,z%256]):=by simp[lenB,c1,c2,Hid]
   go_enter Tryz.func138,Tryz.ntmps138
   go_wp2_with fail
   go_ret
   exact zdv (zs:=[130,z/256%256,z%256]) F.out h0 rfl
def zee (t:T) (w:World) (e:Ending) (w':World):Prop:=
 e= .returned (.tuple #[.int .i64 (zaT t),.int .i64 (zeS t),.int .i64 (zaP t)])/\ Below w.heap.size w w'
theorem zs1 {ks:List T} {i:Nat} {k:T} (h:ks[i]?=some k):zaq (ks.drop i)=zaT k+zaq (ks.drop (i+1))/\ za7 (ks.drop i)=zeS k+za7 (ks.drop (i+1)):=by
 obtain⟨hi,rfl⟩:=List.getElem?_eq_some_iff.1 h
 rw[List.drop_eq_getElem_cons hi,zaq,za7]
 exact⟨rfl,rfl⟩
theorem zs2 {ks:List T} {i:Nat} {k:T} (h:ks[i]?=some k):zas (ks.drop i)=if zas (ks.drop (i+1))<zaP k then zaP k else zas (ks.drop (i+1)):=by
 obtain⟨hi,rfl⟩:=List.getElem?_eq_some_iff.1 h
 rw[List.drop_eq_getElem_cons hi,zas]
theorem zs3 {ks:List T} {i:Nat} (h:ks.length<=i):zaq (ks.drop i)=0/\ za7 (ks.drop i)=0/\ zas (ks.drop i)=0:=by
 rw[List.drop_of_length_le h,zaq,za7,zas]
 exact⟨rfl,rfl,rfl⟩
def zdd (t:T) (k:Nat) (a b z:Int):Prop:=
 a+zaq (t.kids.drop k)=zaq t.kids/\ b+za7 (t.kids.drop k)=1+za7 t.kids/\ 0<=a/\ 0<=b/\ 0<=z/\
 (zas (t.kids.drop k)<=z->zas t.kids=z)/\ (z<=zas (t.kids.drop k)->zas t.kids=zas (t.kids.drop k))
theorem zni (t:T):zdd t 0 0 1 0:=by
 have:=zs0 t.kids
 have h:=zbJ t.kids
 unfold zdd
 rw[List.drop_zero]
 omega
theorem zeI (t:T) (k:Nat):0<=zaq (t.kids.drop k)/\ 0<=za7 (t.kids.drop k)/\ 0<=zas (t.kids.drop k):=by
 have h:=zbJ (t.kids.drop k)
 omega
theorem zqr {t x:T} {k:Nat} {a b z z':Int} (h:zdd t k a b z) (hx:t.kids[k]?=some x) (hz:(z'=z/\ zaP x<=z) \/(z'=zaP x/\ z<=zaP x)):zdd t (k+1) (a+zaT x) (b+zeS x) z':=by
 obtain⟨h1,h2,h3,h4,h5,h6,h7⟩:=h
 obtain⟨e1,e2⟩:=zs1 hx
 have e3:=zs2 hx
 have hr:=zeI t (k+1)
 have hx:=zci x
 rw[e1]at h1
 rw[e2]at h2
 rw[e3]at h6 h7
 unfold zdd
 refine⟨by omega,by omega,by omega,by omega,by omega,?_,?_⟩
 · intro h
   split at h6
   · split at h7<;>omega
   · split at h7<;>omega
 · intro h
   split at h6
   · split at h7<;>omega
   · split at h7<;>omega
theorem zt7 {t:T} {k:Nat} {a b z:Int} (h:zdd t k a b z) (hk:t.kids.length<=k):a=zaq t.kids/\ b=1+za7 t.kids/\ z=zas t.kids:=by
 obtain⟨h1,h2,h3,h4,h5,h6,h7⟩:=h
 obtain⟨e1,e2,e3⟩:=zs3 hk
 omega
theorem zs4 {t:T} {k:Nat} {a b z:Int} (h:zdd t k a b z) (hw:wt t<40000):a<=200000/\ b<=40000/\ z<=40000/\ 0<=a/\ 0<=b/\ 0<=z:=by
 obtain⟨h1,h2,h3,h4,h5,h6,h7⟩:=h
 have hr:=zeI t k
 have h8:=zbJ t.kids
 have:=zdc t
 omega
theorem zcx {t x:T} (hx:x∈t.kids):wt x<wt t:=by
 have:=zqq hx
 have:=zdc t
 omega
theorem zcB (c:Int):(lenB c).length<=3:=by
 have:=zch c
 have:=zbO c
 omega
theorem zeJ {t:T} {w w':World} {a b z:Int} (h1:a=zaT t) (h2:b=zeS t) (h3:z=zaP t) (hb:Below w.heap.size w w'):zee t w (.returned (.tuple #[.int .i64 a,.int .i64 b,.int .i64 z])) w':=by
 subst h1
 subst h2
 subst h3
 exact⟨rfl,hb⟩
theorem zqs (t:T):∀(v:Value) (w:World),t.In w v->wt t<40000->Calls Tryz.prog 89 #[v] w (zee t w):=by
 refine T.each (p:=fun t=>∀(v:Value) (w:World),t.In w v->wt t<40000->Calls Tryz.prog 89 #[v] w (zee t w)) ?_ t
 clear t
 intro t ih v w hin hwt
 obtain⟨A,n,c,K,m,d,rfl,hw,hr,hn,hc,hm,hm',hks⟩:=hin.open
 have BX:=zwd (Box.start hin)
 have IH:=zwd ih
 have HM:=zwd hm
 have BL:=zwd hr.1
 have EB:=zwd (zcK t)
 have EM:=zwd (zjs t)
 have ED:=zwd (zfx t)
 have hir:=zkS t
 clear hin ih hr hc hm hks
 unfold maxLen at hn hm'
 cases hwi:zav t.tag
 · have HI:Hid (inT t=n):=by rw[inT,hwi,BL.out];simp[Hid]
   rw[HI.out]at hir EB
   rw[hwi]at EM ED
   have WI:=zwd hwi
   clear hwi
   go_enter Tryz.func89,Tryz.ntmps89
   go_wp2_with fail
   refine(zbZ t.tag _ hw).mono ?_
   rintro e w2 ⟨rfl,rfl⟩
   rw[WI.out]
   go_wp2_with fail
   refine(zeH _ _ (by omega) (by omega)).mono ?_
   rintro e w2 ⟨a2,cc2,rfl,hrow,hb2⟩
   have B2:=zwd (Below.step BX.out.below hb2)
   have LL:=zwd (zch (n:Int))
   have hl3:=zcB (n:Int)
   clear hrow hb2
   generalize(lenB (n:Int)).length=L at LL hl3
   go_wp2_with fail
   go_ret3
   exact zeJ (by rw[EB.out,LL.out]) (by rw[EM.out];rfl) (by rw[ED.out];rfl) B2.out
 · have HI:Hid (inT t=zaq t.kids):=by rw[inT,hwi];simp[Hid]
   rw[HI.out]at hir EB
   rw[hwi]at EM ED
   have WI:=zwd hwi
   clear hwi
   go_enter Tryz.func89,Tryz.ntmps89
   go_wp2_with fail
   refine(zbZ t.tag _ hw).mono ?_
   rintro e w2 ⟨rfl,rfl⟩
   rw[WI.out]
   go_wp2_with fail
   go_loopw [5,6,7,8] (fun a b z i wr=>∃(k:Nat) (a' b' z':Int),k<=m/\ i= .int .i64 (k:Int)/\ a= .int .i64 a'/\ b= .int .i64 b'/\ z= .int .i64 z'/\ zdd t k a' b' z'/\ Box w wr w.heap.size t A n c K m d) (fun _ _ _ i _=>m-(intOf i).toNat)
   case atStart=>exact⟨0,_,_,_,by omega,rfl,rfl,rfl,rfl,zni t,BX.out⟩
   case round=>
    obtain⟨k,a,b,z,hk,rfl,rfl,rfl,rfl,hsr,hbox⟩:=hrel
    have SR:=zwd hsr
    have HB:=zwd hbox
    have hbd:=zs4 hsr hwt
    obtain⟨g0,g1,g2⟩:=hbox.cells
    clear hsr hbox BX
    by_cases hlt:k<m
    · obtain⟨x,bb,off,zz,A',n',c',K',m',d',hx,rfl,c0,c1,c2,hxin⟩:=HB.out.kid k hlt
      have hxm:=List.mem_of_getElem? hx
      have hwx:=zcx hxm
      have hsx:=zci x
      have ST:=zwd (fun z' hz'=>zqr (z':=z') SR.out hx hz')
      have CI:=zwd (IH.out x hxm _ wr hxin (by omega))
      clear hx hxin hxm
      go_wp2_with fail
      refine CI.out.mono ?_
      rintro e w2 ⟨rfl,hb2⟩
      have HB2:=zwd (HB.out.go hb2)
      clear hb2
      go_wp2_with fail
      all_goals
       go_roundw
       case rel=>exact⟨k+1,_,_,_,by omega,by go_num,rfl,rfl,rfl,ST.out _ (by omega),HB2.out⟩
       case measure=>simp[intOf];omega
    · have SE:=zwd (zt7 SR.out (by rw[HM.out];omega))
      have hle:=SE.out
      obtain⟨rfl,rfl,rfl⟩:=hle
      clear SR SE
      go_wp2_with fail
      refine(zeH _ _ (by omega) (by omega)).mono ?_
      rintro e w2 ⟨a2,cc2,rfl,hrow,hb2⟩
      have B2:=zwd (Below.step HB.out.below hb2)
      have LL:=zwd (zch (zaq t.kids))
      have hl3:=zcB (zaq t.kids)
      clear hrow hb2
      generalize(lenB (zaq t.kids)).length=L at LL hl3
      go_wp2_with fail
      go_ret3
      exact zeJ (by rw[EB.out,LL.out]) (by rw[EM.out];rfl) (by rw[ED.out];rfl) B2.out
end Go.Proofs.YtpgahclpbdpbnaaGreatDoor
namespace Go.Proofs.YtpgahclpbdpbnaaGreatDoor
open Go.RowKit
mutual
def zar:T->Bool
 | .node t b ks=>tagB t&&(!(zav t&&decide (0<b.length))&&(!(!zav t&&decide (0<ks.length))&&zaF ks))
def zaF:List T->Bool
 | []=>true
 |x::r=>zar x&&zaF r
end
theorem zhw (t:T):zar t=(tagB t.tag&&(!(zav t.tag&&decide (0<t.body.length))&&(!(!zav t.tag&&decide (0<t.kids.length))&&zaF t.kids))):=by
 obtain⟨tag,b,ks⟩:=t
 rw[zar]
 rfl
theorem zkT {ks:List T} {i:Nat} {k:T} (h:ks[i]?=some k):zaF (ks.drop i)=(zar k&&zaF (ks.drop (i+1))):=by
 obtain⟨hi,rfl⟩:=List.getElem?_eq_some_iff.1 h
 rw[List.drop_eq_getElem_cons hi,zaF]
theorem zhx {ks:List T} {i:Nat} (h:ks.length<=i):zaF (ks.drop i)=true:=by
 rw[List.drop_of_length_le h,zaF]
theorem zqt {ks:List T} (h:zaF ks=true):∀k∈ks,zar k=true:=by
 induction ks with
 |nil=>intro k hk;simp at hk
 |cons x r ih=>
   rw[zaF,Bool.and_eq_true]at h
   intro k hk
   rcases List.mem_cons.1 hk with rfl|hk
   · exact h.1
   · exact ih h.2 k hk
theorem zbb {t:T} (h:zar t=true):tagB t.tag=true/\ (zav t.tag=true->t.body=[])/\ (zav t.tag=false->t.kids=[])/\ ∀k∈t.kids,zar k=true:=by
 rw[zhw]at h
 simp only[Bool.and_eq_true,Bool.not_eq_true',Bool.and_eq_false_iff]at h
 obtain⟨h1,h2,h3,h4⟩:=h
 refine⟨h1,fun e=> ?_,fun e=> ?_,zqt h4⟩
 · rcases h2 with h2|h2
   · rw[e]at h2
     cases h2
   · simpa using h2
 · rcases h3 with h3|h3
   · rw[e]at h3
     cases h3
   · simpa using h3
theorem zkU (t:T):∀(v:Value) (w:World),t.In w v->Calls Tryz.prog 88 #[v] w fun e w'=>e= .returned (.bool (zar t))/\ Below w.heap.size w w':=by
 refine T.each (p:=fun t=>∀(v:Value) (w:World),t.In w v->Calls Tryz.prog 88 #[v] w fun e w'=>e= .returned (.bool (zar t))/\ Below w.heap.size w w') ?_ t
 clear t
 intro t ih v w hin
 obtain⟨A,n,c,K,m,d,rfl,hw,hr,hn,hc,hm,hm',hks⟩:=hin.open
 have BX:=zwd (Box.start hin)
 have IH:=zwd ih
 have HM:=zwd hm
 have BL:=zwd hr.1
 have ER:=zwd (zhw t)
 clear hin ih hr hc hm hks
 unfold maxLen at hn hm'
 cases htg:tagB t.tag
 · have TG:=zwd htg
   have F:Hid (zar t=false):=by rw[ER.out,htg];rfl
   clear htg
   go_enter Tryz.func88,Tryz.ntmps88
   go_wp2_with fail
   refine(zjt t.tag _ hw).mono ?_
   rintro e w2 ⟨rfl,rfl⟩
   rw[TG.out]
   go_wp2_with fail
   go_ret
   exact⟨zaj F.out.symm,BX.out.below⟩
 have TG:=zwd htg
 have key:(zav t.tag=true/\ 0<n) \/(zav t.tag=false/\ 0<m) \/(zav t.tag=true/\ n=0) \/(zav t.tag=false/\ m=0):=by
  cases zav t.tag
  · rcases Nat.eq_zero_or_pos m with h|h
    · exact .inr (.inr (.inr ⟨rfl,h⟩))
    · exact .inr (.inl ⟨rfl,h⟩)
  · rcases Nat.eq_zero_or_pos n with h|h
    · exact .inr (.inr (.inl ⟨rfl,h⟩))
    · exact .inl ⟨rfl,h⟩
 rcases key with⟨hwi,h0⟩|⟨hwi,h0⟩|⟨hwi,h0⟩|⟨hwi,h0⟩
 · have F:Hid (zar t=false):=by rw[ER.out,hwi,BL.out];simp[h0,Hid]
   have WI:=zwd hwi
   clear htg hwi
   go_enter Tryz.func88,Tryz.ntmps88
   go_wp2_with fail
   refine(zjt t.tag _ hw).mono ?_
   rintro e w2 ⟨rfl,rfl⟩
   rw[TG.out]
   go_wp2_with fail
   refine(zbZ t.tag _ hw).mono ?_
   rintro e w2 ⟨rfl,rfl⟩
   rw[WI.out]
   go_wp2_with fail
   go_ret
   exact⟨zaj F.out.symm,BX.out.below⟩
 · have F:Hid (zar t=false):=by rw[ER.out,hwi,HM.out];simp[h0,Hid]
   have WI:=zwd hwi
   clear htg hwi
   go_enter Tryz.func88,Tryz.ntmps88
   go_wp2_with fail
   refine(zjt t.tag _ hw).mono ?_
   rintro e w2 ⟨rfl,rfl⟩
   rw[TG.out]
   go_wp2_with fail
   refine(zbZ t.tag _ hw).mono ?_
   rintro e w2 ⟨rfl,rfl⟩
   rw[WI.out]
   go_wp2_with fail
   refine(zbZ t.tag _ hw).mono ?_
   rintro e w2 ⟨rfl,rfl⟩
   rw[WI.out]
   go_wp2_with fail
   go_ret
   exact⟨zaj F.out.symm,BX.out.below⟩
 all_goals
  have SA:Hid (zar t=zaF t.kids):=by rw[ER.out,hwi,htg,BL.out,HM.out,h0];simp[Hid]
  have WI:=zwd hwi
  have H0:=zwd h0
  clear htg hwi h0
  obtain rfl:=H0.out
  clear H0
  go_enter Tryz.func88,Tryz.ntmps88
  go_wp2_with fail
  refine(zjt t.tag _ hw).mono ?_
  rintro e w2 ⟨rfl,rfl⟩
  rw[TG.out]
  go_wp2_with fail
  refine(zbZ t.tag _ hw).mono ?_
  rintro e w2 ⟨rfl,rfl⟩
  rw[WI.out]
  go_wp2_with fail
  refine(zbZ t.tag _ hw).mono ?_
  rintro e w2 ⟨rfl,rfl⟩
  rw[WI.out]
  go_wp2_with fail
 · go_loopw [3] (fun i wr=>∃k:Nat,k<=m/\ i= .int .i64 (k:Int)/\ zar t=zaF (t.kids.drop k)/\ Box w wr w.heap.size t A 0 c K m d) (fun i _=>m-(intOf i).toNat)
   case atStart=>exact⟨0,by omega,rfl,SA.out,BX.out⟩
   case round=>
    obtain⟨k,hk,rfl,hs,hbox⟩:=hrel
    have HS:=zwd hs
    have HB:=zwd hbox
    obtain⟨g0,g1,g2⟩:=hbox.cells
    clear hs hbox BX SA
    by_cases hlt:k<m
    · obtain⟨x,bb,off,zz,A',n',c',K',m',d',hx,rfl,c0,c1,c2,hxin⟩:=HB.out.kid k hlt
      have ST:=zwd (HS.out.trans (zkT hx))
      have CI:=zwd (IH.out x (List.mem_of_getElem? hx) _ wr hxin)
      clear hx hxin HS
      cases hxr:zar x
      · have F:Hid (zar t=false):=by rw[ST.out,hxr];rfl
        rw[hxr]at CI
        clear hxr ST
        go_wp2_with fail
        refine CI.out.mono ?_
        rintro e w2 ⟨rfl,hb2⟩
        have B2:=zwd (Below.step HB.out.below hb2)
        clear hb2
        go_wp2_with fail
        go_ret
        exact⟨zaj F.out.symm,B2.out⟩
      · have N:Hid (zar t=zaF (t.kids.drop (k+1))):=by rw[ST.out,hxr];simp[Hid]
        rw[hxr]at CI
        clear hxr ST
        go_wp2_with fail
        refine CI.out.mono ?_
        rintro e w2 ⟨rfl,hb2⟩
        have HB2:=zwd (HB.out.go hb2)
        clear hb2
        go_wp2_with fail
        go_roundw
        case rel=>exact⟨k+1,by omega,by go_num,N.out,HB2.out⟩
        case measure=>simp[intOf];omega
    · have F:Hid (zar t=true):=by rw[HS.out,zhx (by rw[HM.out];omega)];exact zwd rfl
      clear HS
      go_wp2_with fail
      go_ret
      exact⟨zaj F.out.symm,HB.out.below⟩
 · have F:Hid (zar t=true):=by
    have h:=SA.out
    rw[<-List.drop_zero (l:=t.kids),zhx (by rw[HM.out];omega)]at h
    exact zwd h
   have B2:=zwd BX.out.below
   clear SA
   refine wp_loop_rounds 1 ?_
   rw[rounds_succ]
   go_wp2_with fail
   go_ret
   exact⟨zaj F.out.symm,B2.out⟩
end Go.Proofs.YtpgahclpbdpbnaaGreatDoor
namespace Go.Proofs.YtpgahclpbdpbnaaGreatDoor.Clk
open Go.RowKit
theorem short_read {a:D6} (h:a.ok) (hy:a.y<2050):readD (a.long.drop 2) false=some a:=by
 obtain⟨h1,h2,h3,h4,h5,h6,h7,h8,h9,h10,h11,h12⟩:=h
 have hl:=zd5 a.y a.m
 have ef:zdp (a.y%100)=a.y:=by unfold zdp;split<;>omega
 have ey:digs 2 a.y=digs 2 (a.y%100):=by rw[<-zoo (a.y%100),ef]
 have e:=znf a
 rw[ey]at e
 have e0:a.long.drop 2=[]++(digs 2 (a.y%100)++(digs 2 a.m++digs 2 a.d++digs 2 a.h++digs 2 a.i++digs 2 a.s++[90])):=by simp[e]
 have e1:a.long.drop 2=digs 2 (a.y%100)++(digs 2 a.m++(digs 2 a.d++digs 2 a.h++digs 2 a.i++digs 2 a.s++[90])):=by simp[e]
 have e2:a.long.drop 2=(digs 2 (a.y%100)++digs 2 a.m)++(digs 2 a.d++(digs 2 a.h++digs 2 a.i++digs 2 a.s++[90])):=by simp[e]
 have e3:a.long.drop 2=(digs 2 (a.y%100)++digs 2 a.m++digs 2 a.d)++(digs 2 a.h++(digs 2 a.i++digs 2 a.s++[90])):=by simp[e]
 have e4:a.long.drop 2=(digs 2 (a.y%100)++digs 2 a.m++digs 2 a.d++digs 2 a.h)++(digs 2 a.i++(digs 2 a.s++[90])):=by simp[e]
 have e5:a.long.drop 2=(digs 2 (a.y%100)++digs 2 a.m++digs 2 a.d++digs 2 a.h++digs 2 a.i)++(digs 2 a.s++[90]):=by simp[e]
 have p:Pref (a.long.drop 2) 2 6 {a with y:=a.y%100}:=by
  refine⟨fun _=> ?_,fun _=> ?_,fun _=> ?_,fun _=> ?_,fun _=> ?_,fun _=> ?_⟩
  · rw[zgC (at_:=0) e0 rfl (digs_length 2 _)];exact zcA 2 _ (by show 0<=a.y%100;omega) (by show a.y%100<100;omega)
  · rw[zgC e1 (digs_length 2 _) (digs_length 2 _)];exact zcA 2 _ (by omega) (by show a.m<100;omega)
  · rw[zgC e2 (by simp[digs_length]) (digs_length 2 _)];exact zcA 2 _ (by omega) (by show a.d<100;omega)
  · rw[zgC e3 (by simp[digs_length]) (digs_length 2 _)];exact zcA 2 _ (by omega) (by show a.h<100;omega)
  · rw[zgC e4 (by simp[digs_length]) (digs_length 2 _)];exact zcA 2 _ (by omega) (by show a.i<100;omega)
  · rw[zgC e5 (by simp[digs_length]) (digs_length 2 _)];exact zcA 2 _ (by omega) (by show a.s<100;omega)
 rw[zhr]
 have h12:(a.long.drop 2)[12]?.getD 0=90:=by
  rw[e5,<-List.append_assoc,List.getElem?_append_right (by simp[digs_length])]
  simp[digs_length]
 have hlen:(a.long.drop 2).length=13:=by rw[e5];simp[digs_length]
 rw[if_pos ⟨hlen,h12⟩,zeG p]
 simp only[Option.map_some,ef]
theorem long_byte (a:D6):∀x∈a.long,0<=x/\ x<=255:=by
 intro x hx
 unfold D6.long D6.txt at hx
 simp only[List.mem_append,List.mem_singleton]at hx
 rcases hx with(((((h|h)|h)|h)|h)|h)|rfl
 all_goals first|(have:=zkB _ _ _ h;omega)|omega
end Go.Proofs.YtpgahclpbdpbnaaGreatDoor.Clk
namespace Go.Proofs.YtpgahclpbdpbnaaGreatDoor
open Go.RowKit
set_option linter.unusedVariables false
set_option linter.unusedSimpArgs false
theorem zjv {s:ByteArray} (h:(zaX s).2=0):zaX s=(.node 22 (zae s) [],0)/\ s.size<=200:=by
 unfold zaX at h⊢
 split at h
 · rename_i f
   refine⟨if_pos f,?_⟩
   rcases Nat.eq_zero_or_pos s.size with h0|h0
   · omega
   · exact(f 0 h0).1
 · simp at h
theorem zot {s:ByteArray} (h:(zaX s).2=0):za1 (zaX s).1=(s,0):=by
 have e:=(zjv h).1
 unfold za1
 rw[e]
 simp only[T.body,zsd,e,zb1,and_self,if_true]
noncomputable def momZ (s:Int):T×Int:= @dite _ (∃S,Clk.TextR s S true) (Classical.propDecidable _) (fun h=>zb4 h.choose true) (fun _=>(zbz,1))
theorem zeU {s:Int} {S:ByteArray} {ok:Bool} (h:Clk.TextR s S ok):zb4 S ok=momZ s:=by
 unfold momZ
 cases ok
 · rw[dif_neg]
   · rfl
   · rintro⟨S',h'⟩
     exact absurd (h.eq h').2 (by simp)
 · have e:∃S,Clk.TextR s S true:=⟨S,h⟩
   rw[dif_pos e,(h.eq e.choose_spec).1]
theorem zjw (s:Int):momZ s=(zbz,1) \/∃a,Clk.IsDate s a/\ (a.y<2050/\ momZ s=(.node 23 (a.long.drop 2) [],0) \/momZ s=(.node 24 a.long [],0)):=by
 by_cases h:∃S,Clk.TextR s S true
 · obtain⟨S,h⟩:=h
   have e:=zeU h
   right
   rcases h with⟨_,h⟩|⟨_,h⟩
   · rcases h with⟨_,a,ha,hy,rfl⟩|⟨h,_⟩
     · refine⟨a,ha,.inl ⟨hy,?_⟩⟩
       have hb:∀x∈a.long.drop 2,0<=x/\ x<=255:=fun x hx=>Clk.long_byte a x (List.mem_of_mem_drop hx)
       rw[<-e]
       unfold zb4
       rw[if_pos rfl,strOfNums_size,zcG _ hb,if_pos (by simp[Clk.D6.long,Clk.D6.txt,Clk.digs_length])]
     · cases h
   · rcases h with⟨_,a,ha,rfl⟩|⟨h,_⟩
     · refine⟨a,ha,.inr ?_⟩
       rw[<-e]
       unfold zb4
       rw[if_pos rfl,strOfNums_size,zcG _ (Clk.long_byte a),if_neg (by simp[Clk.D6.long,Clk.D6.txt,Clk.digs_length])]
     · cases h
 · left
   unfold momZ
   rw[dif_neg h]
noncomputable def whenZ (t:T):Int×Int:=
 if Clk.readB (Clk.readD (zae (strOfNums t.body)) (t.tag==24))=true/\ (momZ (Clk.readV (Clk.readD (zae (strOfNums t.body)) (t.tag==24)))).2=0/\ zaW (momZ (Clk.readV (Clk.readD (zae (strOfNums t.body)) (t.tag==24)))).1 t=true then(Clk.readV (Clk.readD (zae (strOfNums t.body)) (t.tag==24)),0)else(0,2)
theorem zjx {t:T} {x:Int×Int} (h:zgD t x):x=whenZ t:=by
 obtain⟨S,ok,h,rfl⟩:=h
 unfold whenZ
 rw[zeU h]
theorem znj {s:Int} (h:(momZ s).2=0):whenZ (momZ s).1=(s,0):=by
 have q:∀a,Clk.IsDate s a->Clk.readV (some a)=s/\ Clk.readB (some a)=true:=fun a ha=>by
  have hk:Clk.okB a=true:=Clk.okB_true ha.1
  refine⟨?_,hk⟩
  show Clk.secsR a=s
  unfold Clk.secsR
  rw[if_pos hk]
  exact ha.2
 rcases zjw s with e|⟨a,ha,⟨hy,e⟩|e⟩
 · rw[e]at h
   cases h
 · obtain⟨q1,q2⟩:=q a ha
   have hb:∀x∈a.long.drop 2,0<=x/\ x<=255:=fun x hx=>Clk.long_byte a x (List.mem_of_mem_drop hx)
   have er:Clk.readD (zae (strOfNums (momZ s).1.body)) ((momZ s).1.tag==24)=some a:=by
    rw[e]
    show Clk.readD (zae (strOfNums (a.long.drop 2))) false=some a
    rw[zcG _ hb]
    exact Clk.short_read ha.1 hy
   unfold whenZ
   rw[er,q1,if_pos ⟨q2,h,zb1 _⟩]
 · obtain⟨q1,q2⟩:=q a ha
   have er:Clk.readD (zae (strOfNums (momZ s).1.body)) ((momZ s).1.tag==24)=some a:=by
    rw[e]
    show Clk.readD (zae (strOfNums a.long)) true=some a
    rw[zcG _ (Clk.long_byte a)]
    exact Clk.long_read ha.1
   unfold whenZ
   rw[er,q1,if_pos ⟨q2,h,zb1 _⟩]
theorem znk (s:Int):wt (momZ s).1<=16:=by
 rcases zjw s with e|⟨a,ha,⟨hy,e⟩|e⟩<;>rw[e]<;>simp[wt,za2,zbz,Clk.D6.long,Clk.D6.txt,Clk.digs_length]
theorem zqu (s:ByteArray):wt (zaX s).1<=201:=by
 by_cases h:(zaX s).2=0
 · have:=zjv h
   rw[this.1]
   simp[wt,za2,zaK]
   omega
 · unfold zaX at h⊢
   split
   · rename_i f
     rw[if_pos f]at h
     exact absurd rfl h
   · simp[wt,za2,zbz]
theorem zkV (s:Int) (h:(momZ s).2=0):zar (momZ s).1=true/\ zaP (momZ s).1=1:=by
 rcases zjw s with e|⟨a,ha,⟨hy,e⟩|e⟩
 · rw[e]at h
   cases h
 all_goals
  rw[e]
  simp[zar,zaF,tagB,zav,zaP]
theorem zou {s:ByteArray} (h:(zaX s).2=0):zar (zaX s).1=true/\ zaP (zaX s).1=1:=by
 rw[(zjv h).1]
 simp[zar,zaF,tagB,zav,zaP]
theorem zgm (n:Int):zar (intT n)=true/\ zaP (intT n)=1:=by
 unfold intT bigT
 simp[zar,zaF,tagB,zav,zaP]
theorem zhy (e:Int):wt (intT e)<=10:=by
 have h1:(zft e).length<=8:=by
  unfold zft
  rw[zbH]
  exact zhp e
 have h2:=zjn (zft e)
 have h3:(bigZ (zft e)).length<=9:=by
  unfold bigZ
  split
  · rw[List.length_cons];omega
  · omega
 unfold intT bigT
 simp only[wt,za2]
 omega
theorem znl {s:ByteArray} (h:s.size=0):s.toList=[]:=by
 rw[Lib.toList_data]
 obtain⟨⟨l⟩⟩:=s
 exact List.eq_nil_of_length_eq_zero h
theorem znm {s:ByteArray} (h:¬s.size=0):¬s.toList=[]/\ s.toList.isEmpty=false:=by
 have e:¬s.toList=[]:=fun e=>h (by
  rw[Lib.toList_data]at e
  obtain⟨⟨l⟩⟩:=s
  show l.length=0
  rw[show l=[]from e]
  rfl)
 exact⟨e,by simpa using e⟩
end Go.Proofs.YtpgahclpbdpbnaaGreatDoor
