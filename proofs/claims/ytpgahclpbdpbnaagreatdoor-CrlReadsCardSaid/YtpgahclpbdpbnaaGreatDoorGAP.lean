import Derived.Test.YtpgahclpbdpbnaaGreatDoorGAC
import Derived.Test.YtpgahclpbdpbnaaGreatDoorGAH
import Derived.Test.YtpgahclpbdpbnaaGreatDoorGAL
set_option maxHeartbeats 4000000
set_option maxRecDepth 100000
namespace Go.Proofs.YtpgahclpbdpbnaaGreatDoor
open Go.RowKit
set_option linter.unusedVariables false
def zb8 (zs:List Int) (w:World) (e:Ending) (w':World):Prop:=
 ∃a c,e= .returned (.slice a zs.length c)/\ Row w a zs.length zs/\ (a=none->c=0)/\ zs.length<=c/\ w'=w
theorem zb8.of {zs:List Int} {a:Option Addr} {m c:Nat} {w:World} (hr:Row w a m zs) (hnil:a=none->c=0) (hc:m<=c):zb8 zs w (.returned (.slice a m c)) w:=by
 obtain rfl:=hr.1
 exact⟨a,c,rfl,hr,hnil,hc,rfl⟩
theorem zlc {zs:List Int} {k:Nat} (h:zaS (zs.drop k)=zaS zs) (hk:zs.length<=k):zaS zs=[]:=by
 rw[<-h,List.drop_of_length_le hk]
 rfl
def lenV:Value->Nat
 | .slice _ m _=>m
 |_=>0
theorem zld (a:Option Addr) (n ca:Nat) (zs:List Int) (w:World) (hr:Row w a n zs) (hnc:n<=ca) (hn:n<=1000000) (hnil:a=none->ca=0):Calls Tryz.prog 174 #[.slice a n ca,.int .u8 0] w (zb8 (zaS zs) w):=by
 have R0:=zwd hr
 have NI:=zwd hnil
 have HL:=zwd hr.1
 clear hr hnil
 go_enter Tryz.func174,Tryz.ntmps174
 go_wp2_with fail
 go_loopw [0] (fun s wr=>∃(k m:Nat) (b:Option Addr) (c:Nat),k+m=n/\ s= .slice b m c/\ wr=w/\ Row w b m (zs.drop k)/\ m<=c/\ (b=none->c=0)/\ zaS (zs.drop k)=zaS zs) (fun s _=>lenV s)
 case atStart=>exact⟨0,n,a,ca,by omega,rfl,rfl,by simpa using R0.out,hnc,NI.out,by simp⟩
 case round=>
  obtain⟨k,m,b,c,hk,rfl,rfl,hrb,hcb,hnb,hb⟩:=hrel
  have HB:=zwd hb
  have RB:=zwd hrb
  have NB:=zwd hnb
  clear hb hrb hnb
  have hkm:k+m<=n/\ n<=k+m:=by omega
  have HK:=zwd hk
  clear hk
  by_cases hlt:0<m
  · obtain⟨bb,off,rfl,hbl,hc⟩:=RB.out.2.2 hlt
    have c0:=hc 0 hlt
    rw[Nat.add_zero]at c0
    have z0:=RB.out.byte 0
    have e0:(zs.drop k)[0]?.getD 0=zs[k]?.getD 0:=by rw[List.getElem?_drop,Nat.add_zero]
    rw[e0]at c0 z0
    have BD:=zwd (zkD (zs:=zs) (k:=k) (by rw[HL.out];omega))
    have RW:=zwd (RB.out.rest 1 c (by omega) hcb)
    clear hc e0
    by_cases hz:zs[k]?.getD 0=0
    · have N:Hid (zaS (zs.drop (k+1))=zaS zs):=by
       rw[<-HB.out,BD.out,if_pos hz]
       exact zwd rfl
      have RX:Hid (Row wr (if c=1 then some ⟨bb,off,none⟩else some ⟨bb,off+1,none⟩) (m-1) (zs.drop (k+1))):=by
       have h:=RW.out
       rw[List.drop_drop,Option.map_some,Addr.add_lit]at h
       exact zwd h
      rw[hz]at c0
      clear BD HB hz z0 RW
      by_cases hc1:c=1
      · subst hc1
        obtain rfl:m=1:=by omega
        have R1:Hid (Row wr (some ⟨bb,off,none⟩) 0 (zs.drop (k+1))):=zwd (by simpa using RX.out)
        clear RX
        go_wp2_with fail
        go_roundw
        case rel=>exact⟨k+1,0,_,_,by omega,by first|rfl|simp,trivial,R1.out,by omega,(fun h=>by cases h),N.out⟩
        case measure=>simp[lenV]
      · have R1:Hid (Row wr (some ⟨bb,off+1,none⟩) (m-1) (zs.drop (k+1))):=zwd (by have:=RX.out;rwa[if_neg hc1]at this)
        clear RX
        go_wp2_with fail
        go_roundw
        case rel=>exact⟨k+1,m-1,_,_,by omega,by first|rfl|simp,trivial,R1.out,by omega,(fun h=>by cases h),N.out⟩
        case measure=>simp[lenV];omega
    · have F:Hid (zaS zs=zs.drop k):=by
       rw[<-HB.out,BD.out,if_neg hz]
       exact zwd rfl
      have t0:(zs[k]?.getD 0==0)=false:=by simpa using hz
      have t1:((m:Int)==0)=false:=by simp;omega
      generalize zs[k]?.getD 0=x at c0 z0 t0
      clear BD HB hz RW
      go_wp2_with fail
      go_ret
      rw[F.out]
      exact zb8.of RB.out NB.out hcb
  · obtain rfl:m=0:=by omega
    have F:Hid (zaS zs=[]):=zlc HB.out (by rw[HL.out];omega)
    clear HB
    go_wp2_with fail
    go_ret
    rw[F.out]
    exact zb8.of (Row.nil _ _) (fun _=>rfl) (Nat.le_refl _)
theorem ztn (a:Option Addr) (n ca:Nat) (zs:List Int) (w:World) (hr:Row w a n zs) (hnc:n<=ca) (hn:n<=1000000) (hnil:a=none->ca=0):Calls Tryz.prog 125 #[.slice a n ca,.string ⟨#[0]⟩] w (zb8 (zaS zs) w):=by
 have R0:=zwd hr
 have CT:=zwd (zld a n ca zs w hr hnc hn hnil)
 have HL:=zwd hr.1
 clear hr hnil
 go_enter Tryz.func125,Tryz.ntmps125
 by_cases h0:n=0
 · subst h0
   have F:Hid (zaS zs=[]):=by rw[List.eq_nil_of_length_eq_zero HL.out];exact zwd rfl
   clear CT HL
   go_wp2_with fail
   go_ret
   rw[F.out]
   exact zb8.of (Row.nil _ _) (fun _=>rfl) (Nat.le_refl _)
 have t0:((n:Int)==0)=false:=by simp;omega
 go_wp2_with fail
 refine CT.out.mono ?_
 rintro e w2 ⟨b,c,rfl,hr2,hn2,hc2,rfl⟩
 have G2:=zwd (zb8.of hr2 hn2 hc2)
 clear hr2 hn2 hc2 CT
 go_wp2_with fail
 go_ret
 exact G2.out
theorem zqZ (a:Option Addr) (n ca:Nat) (zs:List Int) (w:World) (hr:Row w a n zs) (hnc:n<=ca) (hn:n<=1000000) (hnil:a=none->ca=0):Calls Tryz.prog 76 #[.slice a n ca] w (zb8 (zaS zs) w):=by
 have CT:=zwd (ztn a n ca zs w hr hnc hn hnil)
 clear hr hnil
 go_enter Tryz.func76,Tryz.ntmps76
 go_wp2_with fail
 refine CT.out.mono ?_
 rintro e w2 ⟨b,c,rfl,hr2,hn2,hc2,rfl⟩
 have G2:=zwd (zb8.of hr2 hn2 hc2)
 clear hr2 hn2 hc2 CT
 go_wp2_with fail
 go_ret
 exact G2.out
theorem zmf {xs ys:List Int} (hx:∀x∈xs,0<=x/\ x<=255) (hy:∀x∈ys,0<=x/\ x<=255):((strOfNums xs).toList==(strOfNums ys).toList)=decide (xs=ys):=by
 by_cases h:xs=ys
 · rw[h,decide_eq_true rfl]
   exact beq_self_eq_true _
 · rw[decide_eq_false h]
   have:(strOfNums xs).toList≠(strOfNums ys).toList:=fun e=>h (by rw[<-zcG xs hx,<-zcG ys hy,zgX e])
   exact beq_false_of_ne this
theorem zdA (a1 a2:Option Addr) (n1 n2 c1 c2:Nat) (xs ys:List Int) (w:World) (hx:Row w a1 n1 xs) (hy:Row w a2 n2 ys):Calls Tryz.prog 58 #[.slice a1 n1 c1,.slice a2 n2 c2] w fun e w'=>e= .returned (.bool (decide (xs=ys)))/\ w'=w:=by
 have cv1:=zbx c1 hx
 have cv2:=zbx c2 hy
 have E:=zwd (zmf hx.2.1 hy.2.1)
 clear hx hy
 go_enter Tryz.func58,Tryz.ntmps58
 go_wp2_with fail
 go_ret
 exact⟨zaj E.out,rfl⟩
def zem (zs:List Int) (w:World) (e:Ending) (w':World):Prop:=
 ∃a c,e= .returned (.slice a zs.length c)/\ Row w' a zs.length zs/\ (a=none->c=0)/\ zs.length<=c/\ Below w.heap.size w w'
theorem zem.of {zs:List Int} {a:Option Addr} {m c:Nat} {w w':World} (hr:Row w' a m zs) (hnil:a=none->c=0) (hc:m<=c) (hb:Below w.heap.size w w'):zem zs w (.returned (.slice a m c)) w':=by
 obtain rfl:=hr.1
 exact⟨a,c,rfl,hr,hnil,hc,hb⟩
theorem Out.gives {w w':World} {V:Value} {zs:List Int} (h:Out w w' V zs) (hb:∀x∈zs,0<=x/\ x<=255):zem zs w (.returned V) w':=by
 have h2:=h.2
 obtain⟨a,c,rfl,hr⟩:=h.row hb
 exact⟨a,c,rfl,hr,h.nilc,zaJ h.1,h2⟩
theorem zq0 (a:Option Addr) (n ca:Nat) (zs:List Int) (w:World) (hr:Row w a n zs) (hnc:n<=ca) (hn:n<=1000000) (hnil:a=none->ca=0):Calls Tryz.prog 214 #[.slice a n ca] w (zem zs w):=by
 have q22:∀(w:World) (a:Option Addr) (n c n' c':Nat),(binOp .eql 26 (.slice a n c) (.slice none n' c')).run Tryz.prog w= .ok (.bool a.isNone) w:=fun w a n c n' c'=>Lib.run_eql_slice_nil w _ _ a n c n' c' Tryz.underlying26
 have HB:=zwd hr.2.1
 have RX:=zwd (hr.below ((Below.refl w.heap.size w).alloc (Nat.le_refl _) (.cells #[] 5)))
 have hl:=hr.1
 have R0:=zwd hr
 clear hr
 go_enter Tryz.func214,Tryz.ntmps214
 cases a with
 |none=>
   obtain rfl:=hnil rfl
   obtain rfl:n=0:=by omega
   clear hl hnil
   go_wp2_with fail
   go_ret
   exact zem.of R0.out (fun _=>rfl) (Nat.le_refl _) (Below.refl _ _)
 |some b=>
   clear hl hnil
   go_wp2_with (at_builtin;go_must (refine zag (W0:=w) (L:=[]) (zs:=zs) rfl _ _ rfl rfl (zdJ w) rfl RX.out (fun e=>by cases e) (by simp;omega) ?_;intro V1 w1 ho1;rw[List.nil_append]at ho1;have HO:=zwd ho1;clear ho1))
   go_ret
   exact HO.out.gives HB.out
theorem zuT (a:Option Addr) (n ca:Nat) (zs:List Int) (w:World) (hr:Row w a n zs) (hnc:n<=ca) (hn:n<=100000) (hnil:a=none->ca=0):Calls Tryz.prog 46 #[.slice a n ca] w (zb2 (bigT zs) w):=by
 have hby:=hr.2.1
 have hbb:∀x∈zaS zs,0<=x/\ x<=255:=fun x hx=>hby x (zgM hx)
 have hle:=zjn zs
 have hl:=hr.1
 have S0:=zwd (RB.start w)
 have CI:=zwd (zqZ a n ca zs _ (hr.below S0.out.below) hnc (by omega) hnil)
 have GB:=zwd (zne hby)
 have GL:=zwd (zt5 zs)
 have HBB:=zwd hbb
 clear hr hnil hby hbb
 go_enter Tryz.func46,Tryz.ntmps46
 go_wp2_with fail
 refine CI.out.mono ?_
 rintro e w2 ⟨b2,c2,rfl,hr2,hn2,hc2,rfl⟩
 have W2:Hid (w.heap.size<(w.alloc (.cells #[.int .i64 0,.slice none 0 0,.slice none 0 0] 30)).heap.size):=by simp[Hid]
 generalize w.alloc (.cells #[.int .i64 0,.slice none 0 0,.slice none 0 0] 30)=w2 at*
 have R2:=zwd hr2
 have N2:=zwd hn2
 clear hr2 hn2 CI
 by_cases h0:zaS zs=[]
 · have F:Hid (bigZ zs=[0]++zaS zs):=if_pos (.inl h0)
   have L0:Hid ((zaS zs).length=0):=by rw[h0];exact zwd rfl
   have t0:(((zaS zs).length:Int)==0)=true:=by rw[L0.out];rfl
   have O0:=zwd (zgZ (w2.alloc (.cells #[.int .u8 0] 5))|>.wider ((Below.refl w2.heap.size w2).alloc (Nat.le_refl _) _))
   have R3:=zwd (zaY w2 [0] (0,0) (by intro x hx;simp at hx;omega))
   clear h0
   generalize zaS zs=bz at*
   go_wp2_with (at_builtin;first
    |(refine zag (W0:=w2) (L:=[]) (zs:=[0]) rfl _ _ rfl rfl O0.out rfl R3.out (fun e=>by cases e) (by simp) ?_;intro V3 w3 ho3;rw[List.nil_append]at ho3;have O3:=zwd ho3;have R5:=zwd (R2.out.below ho3.2);clear ho3)
    |(go_must (refine zag (L:=[0]) (zs:=bz) rfl _ _ rfl rfl O3.out rfl R5.out N2.out (by simp;omega) ?_;intro V4 w4 ho4;have O4:=zwd ho4;have S4:=zwd (S0.out.go ho4.2);obtain⟨p0,p1,p2,f0,f1,f2⟩:=S4.out.box.six;rw[<-F.out]at ho4 O4;obtain⟨b4,c4,rfl,hr4⟩:=ho4.row GB.out;clear ho4)))
   exact zc2 rfl rfl S4.out O4.out W2.out rfl GB.out (by have:=GL.out;omega)
 · have L0:Hid (0<(zaS zs).length):=List.length_pos_iff.2 h0
   have t0:(((zaS zs).length:Int)==0)=false:=by simp;exact h0
   obtain⟨b,off,rfl,hbl,hc⟩:=R2.out.2.2 L0.out
   have c0:=hc 0 L0.out
   rw[Nat.add_zero]at c0
   have z0:=R2.out.byte 0
   clear hc
   by_cases h8:128<=(zaS zs)[(0:Nat)]?.getD 0
   · have F:Hid (bigZ zs=[0]++zaS zs):=if_pos (.inr h8)
     have O0:=zwd (zgZ (w2.alloc (.cells #[.int .u8 0] 5))|>.wider ((Below.refl w2.heap.size w2).alloc (Nat.le_refl _) _))
     have R3:=zwd (zaY w2 [0] (0,0) (by intro x hx;simp at hx;omega))
     clear h0
     generalize(zaS zs)[(0:Nat)]?.getD 0=x0 at c0 z0 h8
     generalize zaS zs=bz at*
     go_wp2_with (at_builtin;first
      |(refine zag (W0:=w2) (L:=[]) (zs:=[0]) rfl _ _ rfl rfl O0.out rfl R3.out (fun e=>by cases e) (by simp) ?_;intro V3 w3 ho3;rw[List.nil_append]at ho3;have O3:=zwd ho3;have R5:=zwd (R2.out.below ho3.2);clear ho3)
      |(go_must (refine zag (L:=[0]) (zs:=bz) rfl _ _ rfl rfl O3.out rfl R5.out N2.out (by simp;omega) ?_;intro V4 w4 ho4;have O4:=zwd ho4;have S4:=zwd (S0.out.go ho4.2);obtain⟨p0,p1,p2,f0,f1,f2⟩:=S4.out.box.six;rw[<-F.out]at ho4 O4;obtain⟨b4,c4,rfl,hr4⟩:=ho4.row GB.out;clear ho4)))
     exact zc2 rfl rfl S4.out O4.out W2.out rfl GB.out (by have:=GL.out;omega)
   · have F:Hid (bigZ zs=zaS zs):=if_neg (by rintro(h|h);exact h0 h;exact h8 h)
     have O0:=zwd (zgZ w2)
     generalize(zaS zs)[(0:Nat)]?.getD 0=x0 at c0 z0 h8
     clear h0
     generalize zaS zs=bz at*
     go_wp2_with (at_builtin;go_must (refine zag (W0:=w2) (L:=[]) (zs:=bz) rfl _ _ rfl rfl O0.out rfl R2.out N2.out (by simp;omega) ?_;intro V4 w4 ho4;rw[List.nil_append]at ho4;have O4:=zwd ho4;have S4:=zwd (S0.out.go ho4.2);obtain⟨p0,p1,p2,f0,f1,f2⟩:=S4.out.box.six;rw[<-F.out]at ho4 O4;obtain⟨b4,c4,rfl,hr4⟩:=ho4.row GB.out;clear ho4))
     exact zc2 rfl rfl S4.out O4.out W2.out rfl GB.out (by have:=GL.out;omega)
theorem zjK (n:Int) (w:World) (h0:0<=n) (h1:n<=18446744073709551615):Calls Tryz.prog 24 #[.int .u64 n] w (zb2 (intT n) w):=by
 have S0:=zwd (RB.start w)
 have hml:=zhp n
 go_enter Tryz.func24,Tryz.ntmps24
 go_wp2_with fail
 refine(zpv n _ h0 h1).mono ?_
 intro e w2 h2
 obtain⟨b,off,c,rfl,hr,hb,hc⟩:=h2.is h0 h1
 have S2:=zwd (S0.out.go hb)
 have CI:=zwd (zuT (some ⟨b,off,none⟩) (zd6 n) c (zft n) w2 hr hc (by omega) (fun e=>by cases e))
 clear h2 hr hb S0
 generalize zd6 n=m at CI hc hml
 go_wp2_with fail
 refine CI.out.mono ?_
 rintro e w3 ⟨A,n3,c3,K,m3,d3,rfl,hin,hb3⟩
 have S3:=zwd (S2.out.go hb3)
 have IN:=zwd hin
 have W2:Hid (w.heap.size<w2.heap.size):=S2.out.box.lt
 obtain⟨p0,p1,p2,f0,f1,f2⟩:=S3.out.box.six
 clear hin hb3 CI S2
 go_wp2_with fail
 exact zf2 rfl rfl S3.out IN.out W2.out
def okE (X:T×Int) (t:T):Bool:=decide (X.2=0/\ zaW X.1 t=true)
def zau (ok:Bool) (xv zero:Value) (w:World) (e:Ending) (w':World):Prop:=
 e= .returned (.tuple #[if ok=true then xv else zero,.int .i64 (if ok=true then 0 else 2)])/\ Below w.heap.size w w'
theorem zau.no {ok:Bool} {xv zero:Value} {w w':World} (h:ok=false) (hb:Below w.heap.size w w'):zau ok xv zero w (.returned (.tuple #[zero,.int .i64 2])) w':=by subst h;exact⟨rfl,hb⟩
theorem zau.yes {ok:Bool} {xv zero:Value} {w w':World} (h:ok=true) (hb:Below w.heap.size w w'):zau ok xv zero w (.returned (.tuple #[xv,.int .i64 0])) w':=by subst h;exact⟨rfl,hb⟩
theorem zau.ways {ok:Bool} {xv zero:Value} {w w':World} {e:Ending} (h:zau ok xv zero w e w'):(ok=true/\ e= .returned (.tuple #[xv,.int .i64 0])/\ Below w.heap.size w w') \/(ok=false/\ e= .returned (.tuple #[zero,.int .i64 2])/\ Below w.heap.size w w'):=by
 obtain⟨h,hb⟩:=h
 cases ok
 · exact .inr ⟨rfl,h,hb⟩
 · exact .inl ⟨rfl,h,hb⟩
def zto (R:T×Int->Prop) (w:World) (e:Ending) (w':World):Prop:=∃X,R X/\ zfv X w e w'
def zmg (R:T×Int->Prop) (t:T) (xv zero:Value) (w:World) (e:Ending) (w':World):Prop:=∃X,R X/\ zau (okE X t) xv zero w e w'
theorem zjL (x y:T):zaW x y=true↔x=y:=⟨zjo x y,fun h=>by rw[h];exact zb1 y⟩
theorem zq1 (X:T×Int) (t:T):okE X t=true↔X.2=0/\ X.1=t:=by unfold okE;rw[decide_eq_true_iff,zjL]
theorem zoG (X:T×Int) (t:T):okE X t=false↔¬(X.2=0/\ X.1=t):=by rw[<-zq1];simp
theorem znC {x t:T} {er:Int} (h:¬er=0):okE (x,er) t=false:=decide_eq_false (fun k=>h k.1)
theorem zgE {x t:T} {er:Int} (h:¬x=t):okE (x,er) t=false:=decide_eq_false (fun k=>h (zjo _ _ k.2))
theorem ztp {x t:T} (h:x=t):okE (x,0) t=true:=decide_eq_true ⟨rfl,by rw[h];exact zb1 t⟩
theorem T.In.rowk {w:World} {t:T} {z:Value} {A:Option Addr} {n c:Nat} {K:Option Addr} {m d:Nat} (h:t.In w (.agg #[z,.slice A n c,.slice K m d])):Row w A n t.body/\ t.kids.length=m:=by
 obtain⟨A1,n1,c1,K1,m1,d1,e,_,hr,_,_,hm,_⟩:=h.open
 simp only[Value.agg.injEq]at e
 have e':=congrArg Array.toList e
 simp only[List.cons.injEq,and_true,Value.slice.injEq]at e'
 obtain⟨_,⟨rfl,rfl,rfl⟩,rfl,rfl,rfl⟩:=e'
 exact⟨hr,hm⟩
theorem zjM {x t:T} (hx:x.kids=[]) (h1:x.tag=t.tag) (h2:x.body=t.body) (h3:t.kids=[]):x=t:=by
 obtain⟨a,b,c⟩:=x
 obtain⟨a',b',c'⟩:=t
 simp only[T.kids,T.tag,T.body]at*
 subst hx h1 h2 h3
 rfl
theorem zq2 (t:T) (v:Value) (w:World) (X:T×Int) (x0:Int) (hX:X.1.kids=[]) (hin:t.In w v) (hF:∀W,Below w.heap.size w W->Calls Tryz.prog 150 #[.int .u64 x0] W (zfv X W)):
 Calls Tryz.prog 149 #[v,.int .u64 x0,.func (.func 150) #[] #[]] w (zau (okE X t) (.int .u64 x0) (.int .u64 0) w):=by
 obtain⟨A,n,c,K,m,d,rfl,hw,hr,hn,hc,hm,hm',hks⟩:=hin.open
 have BX:=zwd (Box.start hin)
 have HF:=zwd hF
 have HM:=zwd hm
 clear hr hks hc hin hm' hw hn hF hm
 go_enter Tryz.func149,Tryz.ntmps149
 generalize hw2:w.alloc (.cells #[.int .i64 t.tag,.slice A n c,.slice K m d] 30)=w2 at*
 go_wp2_with fail
 refine(HF.out _ BX.out.below).mono ?_
 rintro e w3 ⟨A3,n3,c3,K3,m3,d3,rfl,hin3,hb3⟩
 have P4:=zwd (Box.start hin3)
 have B4:=zwd ((BX.out.go hb3).go P4.out.below)
 clear hb3 hin3 BX HF hw2
 obtain⟨x,er⟩:=X
 simp only at P4 B4 hX⊢
 obtain⟨p0,p1,p2⟩:=P4.out.cells
 obtain⟨g0,g1,g2⟩:=B4.out.cells
 have HX:=zwd hX
 clear hX
 by_cases he:er=0
 rotate_left
 · have F:=znC (x:=x) (t:=t) he
   have t0:(er !=0)=true:=by simpa using he
   have F:=zwd F
   clear he
   clear p0 p1 p2 g0 g1 g2
   go_wp2_with fail
   go_ret2
   exact zau.no F.out B4.out.below
 subst he
 by_cases ht:x.tag=t.tag
 rotate_left
 · have F:=zwd (zgE (x:=x) (t:=t) (er:=0) (fun e=>ht (by rw[e])))
   have t1:(x.tag !=t.tag)=true:=by simpa using ht
   clear ht
   go_wp2_with fail
   go_ret2
   exact zau.no F.out B4.out.below
 have HT:=zwd ht
 have t1:(x.tag !=t.tag)=false:=by simpa using ht
 clear ht
 have CE:=zwd (zdA A3 A n3 n c3 c x.body t.body _ P4.out.has.rowk.1 B4.out.has.rowk.1)
 go_wp2_with fail
 refine CE.out.mono ?_
 rintro e w5 ⟨rfl,rfl⟩
 clear CE
 by_cases hb:x.body=t.body
 rotate_left
 · have F:=zwd (zgE (x:=x) (t:=t) (er:=0) (fun e=>hb (by rw[e])))
   have t2:decide (x.body=t.body)=false:=decide_eq_false hb
   rw[t2]
   clear hb t2
   go_wp2_with fail
   go_ret2
   exact zau.no F.out B4.out.below
 have HB:=zwd hb
 have t2:decide (x.body=t.body)=true:=decide_eq_true hb
 rw[t2]
 clear hb t2
 by_cases hm0:m=0
 · subst hm0
   have F:=zwd (ztp (x:=x) (t:=t) (zjM HX.out HT.out HB.out (List.eq_nil_of_length_eq_zero HM.out)))
   go_wp2_with fail
   go_ret2
   exact zau.yes F.out B4.out.below
 · have F:=zwd (zgE (x:=x) (t:=t) (er:=0) (fun e=>hm0 (by rw[<-HM.out,<-e,HX.out];rfl)))
   have t3:((m:Int) !=0)=true:=by simpa using hm0
   clear hm0
   go_wp2_with fail
   go_ret2
   exact zau.no F.out B4.out.below
theorem ztq (t:T) (v:Value) (w:World) (X:T×Int) (xa:Option Addr) (xn xc:Nat) (xp:Addr) (hX:X.1.kids=[]) (hin:t.In w v) (hF:∀W,Below w.heap.size w W->Calls Tryz.prog 215 #[.slice xa xn xc,.pointer (some xp)] W (zfv X W)):
 Calls Tryz.prog 213 #[v,.slice xa xn xc,.func (.func 215) #[] #[.pointer (some xp)]] w (zau (okE X t) (.slice xa xn xc) (.slice none 0 0) w):=by
 obtain⟨A,n,c,K,m,d,rfl,hw,hr,hn,hc,hm,hm',hks⟩:=hin.open
 have BX:=zwd (Box.start hin)
 have HF:=zwd hF
 have HM:=zwd hm
 clear hr hks hc hin hm' hw hn hF hm
 go_enter Tryz.func213,Tryz.ntmps213
 generalize hw2:w.alloc (.cells #[.int .i64 t.tag,.slice A n c,.slice K m d] 30)=w2 at*
 go_wp2_with fail
 refine(HF.out _ BX.out.below).mono ?_
 rintro e w3 ⟨A3,n3,c3,K3,m3,d3,rfl,hin3,hb3⟩
 have P4:=zwd (Box.start hin3)
 have B4:=zwd ((BX.out.go hb3).go P4.out.below)
 clear hb3 hin3 BX HF hw2
 obtain⟨x,er⟩:=X
 simp only at P4 B4 hX⊢
 obtain⟨p0,p1,p2⟩:=P4.out.cells
 obtain⟨g0,g1,g2⟩:=B4.out.cells
 have HX:=zwd hX
 clear hX
 by_cases he:er=0
 rotate_left
 · have F:=znC (x:=x) (t:=t) he
   have t0:(er !=0)=true:=by simpa using he
   have F:=zwd F
   clear he
   clear p0 p1 p2 g0 g1 g2
   go_wp2_with fail
   go_ret2
   exact zau.no F.out B4.out.below
 subst he
 by_cases ht:x.tag=t.tag
 rotate_left
 · have F:=zwd (zgE (x:=x) (t:=t) (er:=0) (fun e=>ht (by rw[e])))
   have t1:(x.tag !=t.tag)=true:=by simpa using ht
   clear ht
   go_wp2_with fail
   go_ret2
   exact zau.no F.out B4.out.below
 have HT:=zwd ht
 have t1:(x.tag !=t.tag)=false:=by simpa using ht
 clear ht
 have CE:=zwd (zdA A3 A n3 n c3 c x.body t.body _ P4.out.has.rowk.1 B4.out.has.rowk.1)
 go_wp2_with fail
 refine CE.out.mono ?_
 rintro e w5 ⟨rfl,rfl⟩
 clear CE
 by_cases hb:x.body=t.body
 rotate_left
 · have F:=zwd (zgE (x:=x) (t:=t) (er:=0) (fun e=>hb (by rw[e])))
   have t2:decide (x.body=t.body)=false:=decide_eq_false hb
   rw[t2]
   clear hb t2
   go_wp2_with fail
   go_ret2
   exact zau.no F.out B4.out.below
 have HB:=zwd hb
 have t2:decide (x.body=t.body)=true:=decide_eq_true hb
 rw[t2]
 clear hb t2
 by_cases hm0:m=0
 · subst hm0
   have F:=zwd (ztp (x:=x) (t:=t) (zjM HX.out HT.out HB.out (List.eq_nil_of_length_eq_zero HM.out)))
   go_wp2_with fail
   go_ret2
   exact zau.yes F.out B4.out.below
 · have F:=zwd (zgE (x:=x) (t:=t) (er:=0) (fun e=>hm0 (by rw[<-HM.out,<-e,HX.out];rfl)))
   have t3:((m:Int) !=0)=true:=by simpa using hm0
   clear hm0
   go_wp2_with fail
   go_ret2
   exact zau.no F.out B4.out.below
theorem zle (t:T) (v:Value) (w:World) (X:T×Int) (x0:ByteArray) (hX:X.1.kids=[]) (hin:t.In w v) (hF:∀W,Below w.heap.size w W->Calls Tryz.prog 22 #[.string x0] W (zfv X W)):
 Calls Tryz.prog 147 #[v,.string x0,.func (.func 22) #[] #[]] w (zau (okE X t) (.string x0) (.string ⟨#[]⟩) w):=by
 obtain⟨A,n,c,K,m,d,rfl,hw,hr,hn,hc,hm,hm',hks⟩:=hin.open
 have BX:=zwd (Box.start hin)
 have HF:=zwd hF
 have HM:=zwd hm
 clear hr hks hc hin hm' hw hn hF hm
 go_enter Tryz.func147,Tryz.ntmps147
 generalize hw2:w.alloc (.cells #[.int .i64 t.tag,.slice A n c,.slice K m d] 30)=w2 at*
 go_wp2_with fail
 refine(HF.out _ BX.out.below).mono ?_
 rintro e w3 ⟨A3,n3,c3,K3,m3,d3,rfl,hin3,hb3⟩
 have P4:=zwd (Box.start hin3)
 have B4:=zwd ((BX.out.go hb3).go P4.out.below)
 clear hb3 hin3 BX HF hw2
 obtain⟨x,er⟩:=X
 simp only at P4 B4 hX⊢
 obtain⟨p0,p1,p2⟩:=P4.out.cells
 obtain⟨g0,g1,g2⟩:=B4.out.cells
 have HX:=zwd hX
 clear hX
 by_cases he:er=0
 rotate_left
 · have F:=znC (x:=x) (t:=t) he
   have t0:(er !=0)=true:=by simpa using he
   have F:=zwd F
   clear he
   clear p0 p1 p2 g0 g1 g2
   go_wp2_with fail
   go_ret2
   exact zau.no F.out B4.out.below
 subst he
 by_cases ht:x.tag=t.tag
 rotate_left
 · have F:=zwd (zgE (x:=x) (t:=t) (er:=0) (fun e=>ht (by rw[e])))
   have t1:(x.tag !=t.tag)=true:=by simpa using ht
   clear ht
   go_wp2_with fail
   go_ret2
   exact zau.no F.out B4.out.below
 have HT:=zwd ht
 have t1:(x.tag !=t.tag)=false:=by simpa using ht
 clear ht
 have CE:=zwd (zdA A3 A n3 n c3 c x.body t.body _ P4.out.has.rowk.1 B4.out.has.rowk.1)
 go_wp2_with fail
 refine CE.out.mono ?_
 rintro e w5 ⟨rfl,rfl⟩
 clear CE
 by_cases hb:x.body=t.body
 rotate_left
 · have F:=zwd (zgE (x:=x) (t:=t) (er:=0) (fun e=>hb (by rw[e])))
   have t2:decide (x.body=t.body)=false:=decide_eq_false hb
   rw[t2]
   clear hb t2
   go_wp2_with fail
   go_ret2
   exact zau.no F.out B4.out.below
 have HB:=zwd hb
 have t2:decide (x.body=t.body)=true:=decide_eq_true hb
 rw[t2]
 clear hb t2
 by_cases hm0:m=0
 · subst hm0
   have F:=zwd (ztp (x:=x) (t:=t) (zjM HX.out HT.out HB.out (List.eq_nil_of_length_eq_zero HM.out)))
   go_wp2_with fail
   go_ret2
   exact zau.yes F.out B4.out.below
 · have F:=zwd (zgE (x:=x) (t:=t) (er:=0) (fun e=>hm0 (by rw[<-HM.out,<-e,HX.out];rfl)))
   have t3:((m:Int) !=0)=true:=by simpa using hm0
   clear hm0
   go_wp2_with fail
   go_ret2
   exact zau.no F.out B4.out.below
theorem zq3 (t:T) (v:Value) (w:World) (R:T×Int->Prop) (x0:Int) (hX:∀X,R X->X.1.kids=[]) (hin:t.In w v) (hF:∀W,Below w.heap.size w W->Calls Tryz.prog 23 #[.int .i64 x0] W (zto R W)):
 Calls Tryz.prog 191 #[v,.int .i64 x0,.func (.func 23) #[] #[]] w (zmg R t (.int .i64 x0) (.int .i64 0) w):=by
 obtain⟨A,n,c,K,m,d,rfl,hw,hr,hn,hc,hm,hm',hks⟩:=hin.open
 have BX:=zwd (Box.start hin)
 have HF:=zwd hF
 have HM:=zwd hm
 clear hr hks hc hin hm' hw hn hF hm
 go_enter Tryz.func191,Tryz.ntmps191
 generalize hw2:w.alloc (.cells #[.int .i64 t.tag,.slice A n c,.slice K m d] 30)=w2 at*
 go_wp2_with fail
 refine(HF.out _ BX.out.below).mono ?_
 rintro e w3 ⟨X,hRX,A3,n3,c3,K3,m3,d3,rfl,hin3,hb3⟩
 have P4:=zwd (Box.start hin3)
 have B4:=zwd ((BX.out.go hb3).go P4.out.below)
 clear hb3 hin3 BX HF hw2
 have hX:=hX X hRX
 obtain⟨x,er⟩:=X
 have RX:=zwd hRX
 clear hRX
 simp only at P4 B4 hX⊢
 obtain⟨p0,p1,p2⟩:=P4.out.cells
 obtain⟨g0,g1,g2⟩:=B4.out.cells
 have HX:=zwd hX
 clear hX
 by_cases he:er=0
 rotate_left
 · have F:=znC (x:=x) (t:=t) he
   have t0:(er !=0)=true:=by simpa using he
   have F:=zwd F
   clear he
   clear p0 p1 p2 g0 g1 g2
   go_wp2_with fail
   go_ret2
   exact⟨_,RX.out,zau.no F.out B4.out.below⟩
 subst he
 by_cases ht:x.tag=t.tag
 rotate_left
 · have F:=zwd (zgE (x:=x) (t:=t) (er:=0) (fun e=>ht (by rw[e])))
   have t1:(x.tag !=t.tag)=true:=by simpa using ht
   clear ht
   go_wp2_with fail
   go_ret2
   exact⟨_,RX.out,zau.no F.out B4.out.below⟩
 have HT:=zwd ht
 have t1:(x.tag !=t.tag)=false:=by simpa using ht
 clear ht
 have CE:=zwd (zdA A3 A n3 n c3 c x.body t.body _ P4.out.has.rowk.1 B4.out.has.rowk.1)
 go_wp2_with fail
 refine CE.out.mono ?_
 rintro e w5 ⟨rfl,rfl⟩
 clear CE
 by_cases hb:x.body=t.body
 rotate_left
 · have F:=zwd (zgE (x:=x) (t:=t) (er:=0) (fun e=>hb (by rw[e])))
   have t2:decide (x.body=t.body)=false:=decide_eq_false hb
   rw[t2]
   clear hb t2
   go_wp2_with fail
   go_ret2
   exact⟨_,RX.out,zau.no F.out B4.out.below⟩
 have HB:=zwd hb
 have t2:decide (x.body=t.body)=true:=decide_eq_true hb
 rw[t2]
 clear hb t2
 by_cases hm0:m=0
 · subst hm0
   have F:=zwd (ztp (x:=x) (t:=t) (zjM HX.out HT.out HB.out (List.eq_nil_of_length_eq_zero HM.out)))
   go_wp2_with fail
   go_ret2
   exact⟨_,RX.out,zau.yes F.out B4.out.below⟩
 · have F:=zwd (zgE (x:=x) (t:=t) (er:=0) (fun e=>hm0 (by rw[<-HM.out,<-e,HX.out];rfl)))
   have t3:((m:Int) !=0)=true:=by simpa using hm0
   clear hm0
   go_wp2_with fail
   go_ret2
   exact⟨_,RX.out,zau.no F.out B4.out.below⟩
theorem zhN {w W W0:World} {tmps:Array Value} {fn:Func} {p u:Tmp} {x:T×Int} {er:Int} {A:Option Addr} {n c:Nat} {K:Option Addr} {m d:Nat} (hx:x.2=er) (hf:fn.results=#[.cell p 30,.tmp u]) (hp:tmps.getD p undef= .pointer (some ⟨w.heap.size,0,none⟩)) (hu:tmps.getD u undef= .int .i64 er) (hrb:RB w W) (hin:x.1.InP (W0.heap.size<= ·) W (.agg #[.int .i64 x.1.tag,.slice A n c,.slice K m d])) (hW:w.heap.size<W0.heap.size):
 bodyPost Tryz.prog fn (zaQ x w) .ret {tmps:=tmps,defers:=[]} (boxed w W (.int .i64 x.1.tag) (.slice A n c) (.slice K m d)):=by
 obtain⟨h1,h2⟩:=hrb.boxed (.int .i64 x.1.tag) (.slice A n c) (.slice K m d)
 have h:=zcq (P:=Tryz.prog) hf tmps (boxed w W (.int .i64 x.1.tag) (.slice A n c) (.slice K m d)) w.heap.size 30 #[.int .i64 x.1.tag,.slice A n c,.slice K m d] (0,0) _ hp h1 Tryz.underlying30 rfl Tryz.sizeNode3
 rw[hu,<-hx]at h
 exact bodyPost_ret h rfl ⟨A,n,c,K,m,d,rfl,znd hin hW _ _ _,h2⟩
theorem zq4 (x:Int) (w:World) (h0:0<=x) (h1:x<=18446744073709551615):Calls Tryz.prog 150 #[.int .u64 x] w (zaQ (intT x,0) w):=by
 have S0:=zwd (RB.start w)
 go_enter Tryz.func150,Tryz.ntmps150
 go_wp2_with fail
 refine(zjK x _ h0 h1).mono ?_
 rintro e w3 ⟨A,n3,c3,K,m3,d3,rfl,hin,hb3⟩
 have S3:=zwd (S0.out.go hb3)
 have IN:=zwd hin
 have W2:=zwd (S0.out.box.lt)
 obtain⟨p0,p1,p2,f0,f1,f2⟩:=S3.out.box.six
 clear hin hb3
 go_wp2_with fail
 exact zhN (x:=(intT x,0)) rfl rfl rfl rfl S3.out IN.out W2.out
theorem znD (t:T) (v:Value) (w:World) (hin:t.In w v) (hwt:t.body.length<=1000000):Calls Tryz.prog 96 #[v] w (zb3 (zaC t) w):=by
 obtain⟨A,n,c,K,m,d,rfl,hw,hr,hn,hc,hm,hm',hks⟩:=hin.open
 have B2:=zwd (Box.start hin)
 have GZ:Hid (zaC t=if(numZ 0 t.body).2=true/\ zaW t (intT (numZ 0 t.body).1)=true then((numZ 0 t.body).1,0)else(0,2)):=rfl
 have NR:=ziH t.body hr.2.1 0 (by omega) (by omega)
 have hl:=hr.1
 have CN:=zwd (zuB A n c t.body _ (hr.below B2.out.below) (by omega))
 obtain⟨g0,g1,g2⟩:=B2.out.cells
 clear hr hks hc hin hm hm' hw hn hl
 generalize(numZ 0 t.body).1=x at*
 generalize hz:(numZ 0 t.body).2=is at*
 clear hz
 go_enter Tryz.func96,Tryz.ntmps96
 generalize hw2:w.alloc (.cells #[.int .i64 t.tag,.slice A n c,.slice K m d] 30)=w2 at*
 go_wp2_with fail
 refine CN.out.mono ?_
 rintro e w3 ⟨rfl,rfl⟩
 clear hw2 CN
 cases is
 · have F:Hid (zaC t=(0,2)):=by rw[GZ.out];simp[Hid]
   clear GZ
   go_wp2_with fail
   go_ret2
   exact zb3.of F.out B2.out.below
 have GX:Hid (zaC t=if zaW t (intT x)=true then(x,0)else(0,2)):=by rw[GZ.out];simp[Hid]
 clear GZ
 have CX:=zwd (zq2 t _ w3 (intT x,0) x rfl B2.out.has (fun W hW=>(zq4 x W NR.1 NR.2).mono fun e w' h=>h.has))
 go_wp2_with fail
 refine CX.out.mono ?_
 intro e w4 h4
 clear CX
 rcases h4.ways with⟨hok,rfl,hb4⟩|⟨hok,rfl,hb4⟩
 · have F:Hid (zaC t=(x,0)):=by
    rw[GX.out,if_pos ((zjL _ _).2 ((zq1 _ _).1 hok).2.symm)]
    exact zwd rfl
   have B4:=zwd (Below.step B2.out.below hb4)
   clear hok hb4 h4 GX
   go_wp2_with fail
   go_ret2
   exact zb3.of F.out B4.out
 · have F:Hid (zaC t=(0,2)):=by
    rw[GX.out,if_neg (fun k=>(zoG _ _).1 hok ⟨rfl,((zjL _ _).1 k).symm⟩)]
    exact zwd rfl
   have B4:=zwd (Below.step B2.out.below hb4)
   clear hok hb4 h4 GX
   go_wp2_with fail
   go_ret2
   exact zb3.of F.out B4.out
def segN:Nat->Nat->List Int
 |0,_=> []
 |k+1,n=>((n/128^(k+1)%128+128:Nat):Int)::segN k n
theorem ztr (k n:Nat):segN (k+1) n=segN k (n/128)++[((n/128%128+128:Nat):Int)]:=by
 induction k with
 |zero=>simp[segN]
 |succ k ih=>
   rw[segN,ih,segN,List.cons_append,Nat.div_div_eq_div_mul,<-Nat.pow_succ']
theorem zuU (k:Nat):∀(n:Nat) (acc:List Int),n<128^(k+1)->(k=0 \/128^k<=n)->sevN n acc=segN k n++acc:=by
 induction k with
 |zero=>
   intro n acc h _
   rw[zgO (by simpa using h)]
   rfl
 |succ k ih=>
   intro n acc h h0
   have h1:128^(k+1)<=n:=by rcases h0 with h0|h0;omega;exact h0
   have hp:0<128^k:=Nat.pow_pos (by decide)
   have h2:128<=n:=by rw[Nat.pow_succ]at h1;omega
   rw[zfu h2,ih (n/128) _ (by rw[Nat.pow_succ]at h;omega) (.inr (by rw[Nat.pow_succ]at h1;omega)),ztr,List.append_assoc,List.singleton_append]
   simp
theorem zq5 {k n:Nat} (h:n<128^(k+1)) (h0:k=0 \/128^k<=n):zbl n=segN k n++[((n%128:Nat):Int)]:=zuU k n _ h h0
theorem zq6 {n:Nat} (h:n<2^32):∃k:Nat,k<=4/\ (((Lib.bitLen n:Nat):Int)-1).tdiv 7=(k:Int)/\ n<128^(k+1)/\ (k=0 \/128^k<=n):=by
 have key:∀j:Nat,7*j<64->128^j<=n->n<128^(j+1)->7*j+1<=Lib.bitLen n/\ Lib.bitLen n<=7*j+7:=by
  intro j hj h1 h2
  have e:(128:Nat)^j=2^(7*j):=by rw[Nat.pow_mul]
  have hp:0<(128:Nat)^j:=Nat.pow_pos (by decide)
  have hs:=Lib.bitLen_shift (7*j) n (by rw[<-e];exact h1) (by omega)
  rw[<-e]at hs
  have hq:n/128^j<128:=by rw[Nat.div_lt_iff_lt_mul hp,Nat.mul_comm,<-Nat.pow_succ];exact h2
  have hq1:1<=n/128^j:=(Nat.one_le_div_iff hp).2 h1
  have hb:=Lib.bitLen_half (n/128^j) (by omega) (by omega)
  have hb7:=Lib.bitLen_le (n/128^j) 7 (by decide) hq
  omega
 rcases Nat.lt_or_ge n 128 with c1|c1
 · refine⟨0,by omega,?_,by omega,.inl rfl⟩
   have hb7:=Lib.bitLen_le n 7 (by decide) c1
   generalize Lib.bitLen n=b at*
   rcases Nat.eq_zero_or_pos b with rfl|hb
   · rfl
   · rw[Int.tdiv_eq_ediv_of_nonneg (by omega)];omega
 rcases Nat.lt_or_ge n 16384 with c2|c2
 · have:=key 1 (by omega) (by omega) (by omega)
   refine⟨1,by omega,?_,by omega,.inr (by omega)⟩
   rw[Int.tdiv_eq_ediv_of_nonneg (by omega)];omega
 rcases Nat.lt_or_ge n 2097152 with c3|c3
 · have:=key 2 (by omega) (by omega) (by omega)
   refine⟨2,by omega,?_,by omega,.inr (by omega)⟩
   rw[Int.tdiv_eq_ediv_of_nonneg (by omega)];omega
 rcases Nat.lt_or_ge n 268435456 with c4|c4
 · have:=key 3 (by omega) (by omega) (by omega)
   refine⟨3,by omega,?_,by omega,.inr (by omega)⟩
   rw[Int.tdiv_eq_ediv_of_nonneg (by omega)];omega
 · have:=key 4 (by omega) (by omega) (by omega)
   refine⟨4,by omega,?_,by omega,.inr (by omega)⟩
   rw[Int.tdiv_eq_ediv_of_nonneg (by omega)];omega
theorem zq7:∀a:Fin 256,bits .or .u8 128 (a.val:Int)=((a.val%128+128:Nat):Int):=by decide+kernel
theorem zjN:∀a:Fin 256,bits .andNot .u8 (a.val:Int) 128=((a.val%128:Nat):Int):=by decide+kernel
theorem zjO {x:Int} (n:Nat) (h:x=(n:Int)%256):bits .or .u8 128 x=((n%128+128:Nat):Int):=by
 have:=zq7 ⟨n%256,by omega⟩
 rw[h,show(n:Int)%256=((n%256:Nat):Int)by omega,this]
 simp only
 omega
theorem zlf (x:Int) (h0:0<=x) (h1:x<=255):bits .andNot .u8 x 128=x%128:=by
 have:=zjN ⟨x.toNat,by omega⟩
 rw[show((⟨x.toNat,by omega⟩:Fin 256).val:Int)=x by simp;omega]at this
 rw[this]
 simp only
 omega
theorem zgT (j n:Nat) (P:List Int):P++segN (j+1) n=(P++[((n/128^(j+1)%128+128:Nat):Int)])++segN j n:=by
 rw[segN,List.append_assoc,List.singleton_append]
theorem zf1 (W0 w:World) (V:Value) (L:List Int) (n:Nat) (ho:Out W0 w V L) (hl:L.length<=1000) (hn:n<2^32):Calls Tryz.prog 183 #[V,.int .u32 (n:Int)] w fun e w'=>∃V',e= .returned V'/\ Out W0 w' V' (L++zbl n):=by
 obtain⟨k,hk4,hk,hlt,hge⟩:=zq6 hn
 have SG:=zwd (zq5 hlt hge)
 have HO:=zwd ho
 have hb64:=Lib.bitLen_le n 32 (by decide) hn
 have e0:(n:Int).toNat=n:=by omega
 clear hlt hge ho
 go_enter Tryz.func183,Tryz.ntmps183
 go_wp2_with fail
 refine(Tryz.bits_Len32 (n:Int) w (by omega) (by omega)).mono ?_
 rintro e w1 ⟨rfl,rfl⟩
 rw[e0]
 clear e0
 generalize Lib.bitLen n=b at*
 have hw:IntKind.i64.wrap ((b:Int)-1)=(b:Int)-1:=IntWalk.i64_in _ (by omega)
 go_wp2_with fail
 clear hw hb64
 go_loopw [0,5] (fun U f wr=>∃(j:Nat) (P:List Int),j<=4/\ f= .int .i64 (j:Int)/\ Out W0 wr U (L++P)/\ P.length+j<=4/\ P++segN j n=segN k n) (fun _ f _=>(intOf f).toNat)
 case atStart=>exact⟨k,[],hk4,rfl,by rw[List.append_nil];exact HO.out,by simpa using hk4,by simp⟩
 case round=>
  obtain⟨j,P,hj4,rfl,ho,hpl,hps⟩:=hrel
  have HP:=zwd hps
  have H1:=zwd ho
  clear hps ho hk HO
  rcases j with _|j
  · have F:Hid (L++zbl n=(L++P)++[((n%128:Nat):Int)]):=by
     rw[SG.out,<-HP.out,segN,List.append_nil,List.append_assoc]
     exact zwd rfl
    clear SG HP
    have hx:bits .andNot .u8 ((n:Int)%256) 128=((n%128:Nat):Int):=by rw[zlf _ (by omega) (by omega)];omega
    have hb:(0:Int)<=((n%128:Nat):Int)/\ ((n%128:Nat):Int)<=255:=by omega
    generalize((n%128:Nat):Int)=x at*
    have O1:=zwd (H1.out.alloc (.cells #[.int .u8 x] 5))
    have HBN:Hid ((L++P).length+1<=1000000):=zwd (by rw[List.length_append];omega)
    have R1:=zwd (zaY wr [x] (0,0) (by intro y hy;simp at hy;omega))
    go_wp2_with (at_builtin;go_must (refine zag (W0:=W0) (L:=L++P) (zs:=[x]) rfl _ _ rfl rfl O1.out rfl R1.out (fun e=>by cases e) HBN.out ?_;intro V4 w4 ho4;have O4:=zwd ho4;clear ho4))
    go_ret
    exact⟨V4,rfl,by rw[F.out];exact O4.out⟩
  · rcases j with _|_|_|_|j
    · have N:Hid ((P++[((n/128^(0+1)%128+128:Nat):Int)])++segN 0 n=segN k n):=by rw[<-zgT];exact HP
      clear HP
      have hx:bits .or .u8 128 ((n:Int)/128%256)=((n/128^(0+1)%128+128:Nat):Int):=zjO (n/128) (by omega)
      have hb:(0:Int)<=((n/128^(0+1)%128+128:Nat):Int)/\ ((n/128^(0+1)%128+128:Nat):Int)<=255:=by omega
      generalize((n/128^(0+1)%128+128:Nat):Int)=x at*
      have O1:=zwd (H1.out.alloc (.cells #[.int .u8 x] 5))
      have HBN:Hid ((L++P).length+1<=1000000):=zwd (by rw[List.length_append];omega)
      have R1:=zwd (zaY wr [x] (0,0) (by intro y hy;simp at hy;omega))
      go_wp2_with (at_builtin;go_must (refine zag (W0:=W0) (L:=L++P) (zs:=[x]) rfl _ _ rfl rfl O1.out rfl R1.out (fun e=>by cases e) HBN.out ?_;intro V4 w4 ho4;have O4:=zwd ho4;clear ho4))
      go_roundw
      case rel=>exact⟨_,P++[x],by omega,by first|rfl|go_num|simp,by rw[<-List.append_assoc];exact O4.out,(by rw[List.length_append,List.length_singleton];omega),N.out⟩
      case measure=>simp[intOf]
    · have N:Hid ((P++[((n/128^(1+1)%128+128:Nat):Int)])++segN 1 n=segN k n):=by rw[<-zgT];exact HP
      clear HP
      have hx:bits .or .u8 128 ((n:Int)/16384%256)=((n/128^(1+1)%128+128:Nat):Int):=zjO (n/16384) (by omega)
      have hb:(0:Int)<=((n/128^(1+1)%128+128:Nat):Int)/\ ((n/128^(1+1)%128+128:Nat):Int)<=255:=by omega
      generalize((n/128^(1+1)%128+128:Nat):Int)=x at*
      have O1:=zwd (H1.out.alloc (.cells #[.int .u8 x] 5))
      have HBN:Hid ((L++P).length+1<=1000000):=zwd (by rw[List.length_append];omega)
      have R1:=zwd (zaY wr [x] (0,0) (by intro y hy;simp at hy;omega))
      go_wp2_with (at_builtin;go_must (refine zag (W0:=W0) (L:=L++P) (zs:=[x]) rfl _ _ rfl rfl O1.out rfl R1.out (fun e=>by cases e) HBN.out ?_;intro V4 w4 ho4;have O4:=zwd ho4;clear ho4))
      go_roundw
      case rel=>exact⟨_,P++[x],by omega,by first|rfl|go_num|simp,by rw[<-List.append_assoc];exact O4.out,(by rw[List.length_append,List.length_singleton];omega),N.out⟩
      case measure=>simp[intOf]
    · have N:Hid ((P++[((n/128^(2+1)%128+128:Nat):Int)])++segN 2 n=segN k n):=by rw[<-zgT];exact HP
      clear HP
      have hx:bits .or .u8 128 ((n:Int)/2097152%256)=((n/128^(2+1)%128+128:Nat):Int):=zjO (n/2097152) (by omega)
      have hb:(0:Int)<=((n/128^(2+1)%128+128:Nat):Int)/\ ((n/128^(2+1)%128+128:Nat):Int)<=255:=by omega
      generalize((n/128^(2+1)%128+128:Nat):Int)=x at*
      have O1:=zwd (H1.out.alloc (.cells #[.int .u8 x] 5))
      have HBN:Hid ((L++P).length+1<=1000000):=zwd (by rw[List.length_append];omega)
      have R1:=zwd (zaY wr [x] (0,0) (by intro y hy;simp at hy;omega))
      go_wp2_with (at_builtin;go_must (refine zag (W0:=W0) (L:=L++P) (zs:=[x]) rfl _ _ rfl rfl O1.out rfl R1.out (fun e=>by cases e) HBN.out ?_;intro V4 w4 ho4;have O4:=zwd ho4;clear ho4))
      go_roundw
      case rel=>exact⟨_,P++[x],by omega,by first|rfl|go_num|simp,by rw[<-List.append_assoc];exact O4.out,(by rw[List.length_append,List.length_singleton];omega),N.out⟩
      case measure=>simp[intOf]
    · have N:Hid ((P++[((n/128^(3+1)%128+128:Nat):Int)])++segN 3 n=segN k n):=by rw[<-zgT];exact HP
      clear HP
      have hx:(128+(n:Int)/268435456)=((n/128^(3+1)%128+128:Nat):Int):=by omega
      have hb:(0:Int)<=((n/128^(3+1)%128+128:Nat):Int)/\ ((n/128^(3+1)%128+128:Nat):Int)<=255:=by omega
      generalize((n/128^(3+1)%128+128:Nat):Int)=x at*
      have O1:=zwd (H1.out.alloc (.cells #[.int .u8 x] 5))
      have HBN:Hid ((L++P).length+1<=1000000):=zwd (by rw[List.length_append];omega)
      have R1:=zwd (zaY wr [x] (0,0) (by intro y hy;simp at hy;omega))
      go_wp2_with (at_builtin;go_must (refine zag (W0:=W0) (L:=L++P) (zs:=[x]) rfl _ _ rfl rfl O1.out rfl R1.out (fun e=>by cases e) HBN.out ?_;intro V4 w4 ho4;have O4:=zwd ho4;clear ho4))
      go_roundw
      case rel=>exact⟨_,P++[x],by omega,by first|rfl|go_num|simp,by rw[<-List.append_assoc];exact O4.out,(by rw[List.length_append,List.length_singleton];omega),N.out⟩
      case measure=>simp[intOf]
    · omega
theorem ziS (W0 w:World) (V:Value) (L:List Int) (v:Int) (ho:Out W0 w V L) (hl:L.length<=1000) (h0:0<=v) (h1:v<=4294967295):Calls Tryz.prog 183 #[V,.int .u32 v] w fun e w'=>∃V',e= .returned V'/\ Out W0 w' V' (L++zbl v.toNat):=by
 obtain⟨n,rfl⟩:=Int.eq_ofNat_of_zero_le h0
 rw[Int.toNat_natCast]
 exact zf1 W0 w V L n ho hl (by omega)
theorem zq8 (a:Option Addr) (n ca:Nat) (zs:List Int) (w:World) (hr:zat w a n zs):Calls Tryz.prog 182 #[.slice a n ca] w fun e w'=>e= .returned (.bool (decide (zde zs)))/\ w'=w:=by
 have R0:=zwd hr
 have HL:=zwd hr.1
 have FB:zde zs↔(2<=n/\ n<=20/\ zs[(0:Nat)]?.getD 0<=2/\ zs[(1:Nat)]?.getD 0<=4294967200/\ (zs[(1:Nat)]?.getD 0<=39 \/zs[(0:Nat)]?.getD 0=2)):=by unfold zde;rw[HL.out]
 have x0:=R0.out.num 0
 have x1:=R0.out.num 1
 clear hr
 go_enter Tryz.func182,Tryz.ntmps182
 by_cases h2:2<=n
 rotate_left
 · have F:Hid (decide (zde zs)=false):=decide_eq_false (by rw[FB];omega)
   clear FB
   go_wp2_with fail
   go_ret
   exact⟨zaj F.out.symm,rfl⟩
 by_cases h20:n<=20
 rotate_left
 · have F:Hid (decide (zde zs)=false):=decide_eq_false (by rw[FB];omega)
   clear FB
   go_wp2_with fail
   go_ret
   exact⟨zaj F.out.symm,rfl⟩
 obtain⟨b,off,rfl,hbl,hcell⟩:=R0.out.2.2 (by omega)
 have c0:=hcell 0 (by omega)
 have c1:=hcell 1 (by omega)
 rw[Nat.add_zero]at c0
 clear hcell
 generalize zs[(0:Nat)]?.getD 0=p at*
 generalize zs[(1:Nat)]?.getD 0=q at*
 have k0:(0:Int)<(n:Int):=by omega
 have k1:(1:Int)<(n:Int):=by omega
 by_cases hp:p<=2
 rotate_left
 · have F:Hid (decide (zde zs)=false):=decide_eq_false (by rw[FB];omega)
   clear FB
   go_wp2_with fail
   go_ret
   exact⟨zaj F.out.symm,rfl⟩
 by_cases hp2:p<2
 · by_cases hq:q<40
   · have F:Hid (decide (zde zs)=true):=decide_eq_true (by rw[FB];omega)
     have t0:decide (q<40)=true:=decide_eq_true hq
     clear FB
     go_wp2_with fail
     go_ret
     exact⟨zaj F.out.symm,rfl⟩
   · have F:Hid (decide (zde zs)=false):=decide_eq_false (by rw[FB];omega)
     have t0:decide (q<40)=false:=decide_eq_false hq
     clear FB
     go_wp2_with fail
     go_ret
     exact⟨zaj F.out.symm,rfl⟩
 · by_cases hq:q<=4294967200
   · have F:Hid (decide (zde zs)=true):=decide_eq_true (by rw[FB];omega)
     have t0:decide (q<=4294967200)=true:=decide_eq_true hq
     clear FB
     go_wp2_with fail
     go_ret
     exact⟨zaj F.out.symm,rfl⟩
   · have F:Hid (decide (zde zs)=false):=decide_eq_false (by rw[FB];omega)
     have t0:decide (q<=4294967200)=false:=decide_eq_false hq
     clear FB
     go_wp2_with fail
     go_ret
     exact⟨zaj F.out.symm,rfl⟩
theorem zuV (a:Option Addr) (n ca:Nat) (zs:List Int) (w:World) (hr:zat w a n zs) (hnc:n<=ca):Calls Tryz.prog 134 #[.slice a n ca] w (zaQ (oidZ zs) w):=by
 have S0:=zwd (RB.start w)
 have R0:=zwd (hr.below S0.out.below)
 have HL:=zwd hr.1
 clear hr
 have CI:=zwd (zq8 a n ca zs _ R0.out)
 have RN:=zwd (Row.nil (w.alloc (.cells #[.int .i64 0,.slice none 0 0,.slice none 0 0] 30)))
 go_enter Tryz.func134,Tryz.ntmps134
 go_wp2_with fail
 refine CI.out.mono ?_
 rintro e w1 ⟨rfl,rfl⟩
 clear CI
 by_cases hok:zde zs
 rotate_left
 · have F:Hid (oidZ zs=(.node 0 [] [],1)):=if_neg hok
   have t0:decide (zde zs)=false:=decide_eq_false hok
   rw[t0]
   clear t0 hok
   go_wp2_with fail
   exact zbp (zs:=[]) (c:=0) F.out rfl rfl rfl S0.out.box S0.out.below (RN.out _) (fun h=>absurd h (by simp)) ⟨fun _=>rfl,Nat.le_refl _⟩ rfl (by simp)
 have G:Hid (oidZ zs=(.node 6 (zbl (40*zs[(0:Nat)]?.getD 0+zs[(1:Nat)]?.getD 0).toNat++zcy (zs.drop 2)) [],0)):=if_pos hok
 have t0:decide (zde zs)=true:=decide_eq_true hok
 rw[t0]
 clear t0
 unfold zde at hok
 rw[HL.out]at hok
 obtain⟨h2,h20,hp,hq,hpq⟩:=hok
 obtain⟨b,off,rfl,hbl,hcell⟩:=R0.out.2.2 (by omega)
 have c0:=hcell 0 (by omega)
 have c1:=hcell 1 (by omega)
 rw[Nat.add_zero]at c0
 have x0:=R0.out.num 0
 have x1:=R0.out.num 1
 clear hcell RN
 generalize zs[(0:Nat)]?.getD 0=p at*
 generalize zs[(1:Nat)]?.getD 0=q at*
 have kpp:IntKind.u32.wrap (40*p)=40*p:=IntWalk.u32_in _ (by omega)
 have kpq:IntKind.u32.wrap (40*p+q)=40*p+q:=IntWalk.u32_in _ (by omega)
 have k0:(0:Int)<(n:Int):=by omega
 have k1:(1:Int)<(n:Int):=by omega
 have k00:0<n:=by omega
 have k11:1<n:=by omega
 clear hpq
 generalize hw0:w.alloc (.cells #[.int .i64 0,.slice none 0 0,.slice none 0 0] 30)=w0 at*
 clear hw0
 have hlt0:w.heap.size<w0.heap.size:=S0.out.box.lt
 have l0:=zaf c0
 have l1:=zaf c1
 clear c0 c1
 go_wp2_with fail
 refine zaa Ext Ext.refl (fun _ _ _=>Ext.trans) ((0,false)::(1,false)::(2,false)::(3,false)::(4,false)::(5,false)::(6,false)::(7,false)::(8,true)::(9,false)::[]) (by kernel_rfl) (by kernel_rfl) rfl (by kernel_rfl) (fun _ _ _ _ _ h=>h) ?_
 repeat(refine zab _ rfl (by rfl) (fun W hW=>by go_simp;first|done|rfl) ?_;simp only[Act.put,zwe,zwg,zwf])
 clear l0 l1
 refine zad rfl (by rfl) (fun K1 hK1=> ?_)
 go_simp
 refine(ziS _ _ _ [] (40*p+q) (zgZ _) (by simp) (by omega) (by omega)).mono ?_
 rintro e w1 ⟨V,rfl,ho⟩
 rw[List.nil_append]at ho
 have O1:=zwd (ho.wider (Ext.drew (Ext.refl w0)))
 refine hK1 _ _ ho.2 ?_
 clear hK1 K1 ho
 repeat(refine zab _ rfl (by rfl) (fun W hW=>by go_simp;first|done|rfl) ?_;simp only[Act.put,zwe,zwg,zwf])
 refine zai ?_
 have hl7:=zdb (n:=(40*p+q).toNat) (by omega)
 have SB:=zwd (zc3 (40*p+q).toNat)
 generalize zbl (40*p+q).toNat=L0 at*
 by_cases hca:ca=2
 · subst hca
   obtain rfl:n=2:=by omega
   have F:Hid (oidZ zs=(.node 6 L0 [],0)):=by
    rw[G.out,List.drop_of_length_le (by rw[HL.out];exact Nat.le_refl _)]
    simp[zcy,Hid]
   have S1:=zwd (S0.out.go O1.out.2)
   obtain⟨aV,cV,rfl,hrV⟩:=O1.out.row SB.out
   have RV:=zwd hrV
   obtain⟨p0,p1,p2,f0,f1,f2⟩:=S1.out.box.six
   clear hrV
   go_wp2_with fail
   refine wp_loop_rounds 1 ?_
   rw[rounds_succ]
   go_wp2_with fail
   exact zah (zs:=L0) (c:=cV) F.out rfl rfl rfl S1.out RV.out (fun h0=>by obtain⟨b,off,e,hb⟩:=zbn O1.out h0;exact⟨b,off,e,Nat.lt_of_lt_of_le hlt0 hb⟩) ⟨O1.out.nilc,zaJ O1.out.1⟩ rfl (by omega)
 go_wp2_with fail
 go_loopw [4,23] (fun V i wr=>∃(k:Nat) (L:List Int),k+2<=n/\ i= .int .i64 (k:Int)/\ Out w0 wr V L/\ (∀x∈L,0<=x/\ x<=255)/\ L.length<=10*(k+1)/\ L++zcy (zs.drop (k+2))=L0++zcy (zs.drop 2)) (fun _ i _=>n-2-(intOf i).toNat)
 case atStart=>exact⟨0,L0,by omega,rfl,O1.out,SB.out,by omega,rfl⟩
 case round=>
  obtain⟨k,L,hk,rfl,ho,hby,hll,hs⟩:=hrel
  have HO:=zwd ho
  have HB:=zwd hby
  have HS:=zwd hs
  clear ho hby hs O1 SB hl7
  by_cases hlt:k+2<n
  · obtain⟨b',off',e',hbl',hcell'⟩:=(R0.out.below HO.out.2).2.2 (by omega)
    injection e' with e'
    injection e' with e1 e2
    subst e1 e2
    have ck:=hcell' (k+2) hlt
    have xk:=R0.out.num (k+2)
    rw[show off+(k+2)=off+2+k by omega]at ck
    have ST:=zwd (ze7 (zs:=zs) (k:=k+2) (by rw[HL.out];exact hlt))
    clear hcell' hbl'
    generalize zs[k+2]?.getD 0=x at*
    have kk:(k:Int)<((n-2:Nat):Int):=by omega
    have kn:k<n-2:=by omega
    go_wp2_with fail
    refine(ziS w0 _ _ L x HO.out (by omega) (by omega) (by omega)).mono ?_
    rintro e w2 ⟨V7,rfl,ho7⟩
    have B7:=zwd (zc3 x.toNat)
    have l7:=zdb (n:=x.toNat) (by omega)
    have O7:=zwd ho7
    clear ho7 HO ck
    generalize zbl x.toNat=L7 at*
    go_wp2_with fail
    go_roundw
    case rel=>exact⟨k+1,L++L7,by omega,by go_num,O7.out,(by intro y hy;rcases List.mem_append.1 hy with hy|hy;exact HB.out y hy;exact B7.out y hy),by rw[List.length_append];omega,by rw[List.append_assoc,show k+1+2=k+2+1 by omega,<-ST.out];exact HS.out⟩
    case measure=>simp[intOf];omega
  · obtain rfl:k+2=n:=by omega
    have F:Hid (oidZ zs=(.node 6 L [],0)):=by
     rw[G.out,<-HS.out,List.drop_of_length_le (by rw[HL.out];exact Nat.le_refl _)]
     simp[zcy,Hid]
    have S1:=zwd (S0.out.go HO.out.2)
    obtain⟨aV,cV,rfl,hrV⟩:=HO.out.row HB.out
    have RV:=zwd hrV
    obtain⟨p0,p1,p2,f0,f1,f2⟩:=S1.out.box.six
    clear HS hrV
    go_wp2_with fail
    exact zah (zs:=L) (c:=cV) F.out rfl rfl rfl S1.out RV.out (fun h0=>by obtain⟨b,off,e,hb⟩:=zbn HO.out h0;exact⟨b,off,e,Nat.lt_of_lt_of_le hlt0 hb⟩) ⟨HO.out.nilc,zaJ HO.out.1⟩ rfl (by omega)
end Go.Proofs.YtpgahclpbdpbnaaGreatDoor
