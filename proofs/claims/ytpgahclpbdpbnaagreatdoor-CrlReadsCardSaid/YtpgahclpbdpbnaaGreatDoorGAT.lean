import Derived.Test.YtpgahclpbdpbnaaGreatDoorGAQ
import Derived.Test.YtpgahclpbdpbnaaGreatDoorGAR
import Derived.Test.YtpgahclpbdpbnaaGreatDoorGAI
import Derived.Test.YtpgahclpbdpbnaaGreatDoorGAS
import Derived.Test.YtpgahclpbdpbnaaGreatDoorGAC
import Derived.Test.YtpgahclpbdpbnaaGreatDoorGAP
set_option maxHeartbeats 4000000
set_option maxRecDepth 100000
namespace Go.Proofs.YtpgahclpbdpbnaaGreatDoor
open Go.RowKit
set_option linter.unusedVariables false
set_option linter.unusedSimpArgs false
theorem zrz (zs:List Int) (many:Int):(zaG zs many).1.kids=[]:=by
 unfold zaG
 split
 · split<;>rfl
 · rfl
def ExtB (B:Nat) (a b:World):Prop:=Below B a b
theorem ExtB.refl (B:Nat) (w:World):ExtB B w w:=Below.refl _ _
theorem ExtB.trans {B:Nat} (a b c:World) (h:ExtB B a b) (k:ExtB B b c):ExtB B a c:=Below.trans h k
theorem ExtB.both {B:Nat} {a b:World} (h:Below B a b):ExtB B a.drew b.drew:=⟨h.os,h.tape,h.output,h.size,h.block⟩
theorem zoS (w:World) (o o':Obj):Below w.heap.size (w.alloc o) (w.alloc o'):=⟨rfl,rfl,rfl,by simp,fun g hg=>(Below.heap_alloc w o' g hg).trans (Below.heap_alloc w o g hg).symm⟩
theorem zhZ {wr:World} {b o:Nat} {v:Value} (h:wr.cell? ⟨b,o,none⟩=some v):∀W,ExtB wr.heap.size wr.drew W->W.cell? ⟨b,o,none⟩=some v:=by
 intro W hW
 have hb:b<wr.heap.size:=by
  rcases Nat.lt_or_ge b wr.heap.size with h'|h'
  · exact h'
  · simp[World.cell?,Array.getElem?_eq_none h']at h
 exact(Below.cell hW (p:=⟨b,o,none⟩) hb).trans h
theorem zu9 (a:Option Addr) (n ca:Nat) (zs:List Int) (many:Int) (p:Addr) (w:World) (hr:Row w a n zs) (hn:n<=100000) (hnil:a=none->ca=0) (hwf:(Lit.int .i64 many).wf=true) (hp:w.cell? p=some (.int .i64 many)) (hpl:p.block<w.heap.size):Calls Tryz.prog 215 #[.slice a n ca,.pointer (some p)] w (zaQ (zaG zs many) w):=by
 have S0:=zwd (RB.start w)
 have CI:=zwd (znE a n ca zs many _ (hr.below S0.out.below) hn hnil hwf)
 have hp1:=(S0.out.below.cell (p:=p) hpl).trans hp
 clear hr hnil hwf hp
 generalize zaG zs many=X at*
 go_enter Tryz.func215,Tryz.ntmps215
 go_wp2_with fail
 refine CI.out.mono ?_
 rintro e w3 ⟨A,n3,c3,K,m3,d3,rfl,hin,hb3⟩
 have S3:=zwd (S0.out.go hb3)
 have IN:=zwd hin
 have W2:=zwd (S0.out.box.lt)
 obtain⟨p0,p1,p2,f0,f1,f2⟩:=S3.out.box.six
 clear hin hb3 CI hp1
 go_wp2_with fail
 exact zhN (x:=X) rfl rfl rfl rfl S3.out IN.out W2.out
theorem zwb (t:T) (hby:∀x∈t.body,0<=x/\ x<=255):ofZ t=if t.body=[]then([],0,2)else if okE (zaG (t.body.drop 1) (8*((t.body.drop 1).length:Int)-t.body[(0:Nat)]?.getD 0)) t=true then(t.body.drop 1,8*((t.body.drop 1).length:Int)-t.body[(0:Nat)]?.getD 0,0)else([],0,2):=by
 by_cases h0:t.body=[]
 · rw[if_pos h0]
   exact if_pos (.inl h0)
 rw[if_neg h0]
 have x0:0<=t.body[(0:Nat)]?.getD 0:=by
  rw[List.getElem?_eq_getElem (List.length_pos_iff.2 h0)]
  exact(hby _ (List.getElem_mem _)).1
 unfold ofZ
 by_cases h7:7<t.body[(0:Nat)]?.getD 0
 · rw[if_pos (.inr h7),if_neg]
   intro h
   have h2:=((zq1 _ _).1 h).1
   unfold zaG at h2
   have hn:¬zcC (t.body.drop 1) (8*((t.body.drop 1).length:Int)-t.body[(0:Nat)]?.getD 0):=by unfold zcC;omega
   rw[if_neg hn]at h2
   cases h2
 · rw[if_neg (by rintro(h|h);exact h0 h;exact h7 h)]
   have hk:∀(X:T×Int),(okE X t=true)↔(X.2=0/\ zaW X.1 t=true):=fun X=>by unfold okE;rw[decide_eq_true_iff]
   generalize zaG (t.body.drop 1) (8*((t.body.drop 1).length:Int)-t.body[(0:Nat)]?.getD 0)=X
   by_cases h:okE X t=true
   · rw[if_pos h,if_pos ((hk X).1 h)]
   · rw[if_neg h,if_neg (fun k=>h ((hk X).2 k))]
theorem zvL (t:T) (v:Value) (w:World) (hin:t.In w v) (hcap:ziG v) (hwt:t.body.length<=30000):Calls Tryz.prog 188 #[v] w (zl8 (ofZ t) w):=by
 obtain⟨A,n,c,K,m,d,rfl,hw,hr,hn,hc,hm,hm',hks⟩:=hin.open
 have hnc:=hcap.is
 have BX:=zwd (Box.start hin)
 have GZ:=zwd (zwb t hr.2.1)
 have HL:=zwd hr.1
 have R0:=zwd (hr.below BX.out.below)
 have HB:=zwd hr.2.1
 obtain⟨g0,g1,g2⟩:=BX.out.cells
 have hln:=hr.1
 clear hks hin hcap hm hm' hw hn hr
 go_enter Tryz.func188,Tryz.ntmps188
 generalize hw2:w.alloc (.cells #[.int .i64 t.tag,.slice A n c,.slice K m d] 30)=w2 at*
 by_cases hn0:n=0
 · have F:Hid (ofZ t=([],0,2)):=by rw[GZ.out];exact if_pos (List.eq_nil_of_length_eq_zero (by omega))
   subst hn0
   go_wp2_with fail
   go_ret3
   exact zbP F.out BX.out.below
 have GX:Hid (ofZ t=if okE (zaG (t.body.drop 1) (8*((t.body.drop 1).length:Int)-t.body[(0:Nat)]?.getD 0)) t=true then(t.body.drop 1,8*((t.body.drop 1).length:Int)-t.body[(0:Nat)]?.getD 0,0)else([],0,2)):=by
  rw[GZ.out]
  exact if_neg (fun h=>hn0 (by rw[<-hln,h];rfl))
 obtain⟨b,off,rfl,hbl,hcell⟩:=R0.out.2.2 (by omega)
 have c0:=hcell 0 (by omega)
 rw[Nat.add_zero]at c0
 have z0:=R0.out.byte 0
 have hlt2:w.heap.size<w2.heap.size:=BX.out.blk.lt
 have RW:=R0.out.rest 1 c (by omega) hnc
 have hrl:(t.body.drop 1).length=n-1:=by rw[List.length_drop];omega
 have BY:=zwd (fun y (hy:y∈t.body.drop 1)=>HB.out y (List.mem_of_mem_drop hy))
 clear hcell GZ HB
 generalize t.body[(0:Nat)]?.getD 0=x at*
 generalize t.body.drop 1=r at*
 obtain⟨k,rfl⟩:∃k,n=k+1:=⟨n-1,by omega⟩
 have hrk:r.length=k:=by omega
 clear hn0 hrl hln
 subst hrk
 have hrb:r.length<=30000:=by have:=HL.out;omega
 have KX:=zwd (zrz r (8*(r.length:Int)-x))
 have t0:((r.length:Int)+1==0)=false:=by simp;omega
 have w1:IntKind.i64.wrap (r.length:Int)=(r.length:Int):=IntWalk.i64_in _ (by omega)
 have w8:IntKind.i64.wrap (8*(r.length:Int))=8*(r.length:Int):=IntWalk.i64_in _ (by omega)
 have wx:IntKind.i64.wrap x=x:=IntWalk.i64_in _ (by omega)
 have wm:IntKind.i64.wrap (8*(r.length:Int)-x)=8*(r.length:Int)-x:=IntWalk.i64_in _ (by omega)
 have WF:=zwd (wf_wrap .i64 (8*(r.length:Int)-x))
 rw[wm]at WF
 have kk:0<r.length+1:=by omega
 have kz:(1:Int)<=(r.length:Int)+1:=by omega
 obtain⟨A1,hA1⟩:∃A1:Option Addr,(if c=1 then some (⟨b,off,none⟩:Addr)else some ⟨b,off+1,none⟩)=A1:=⟨_,rfl⟩
 rw[Option.map_some,Addr.add_lit,hA1]at RW
 have N1:Hid (A1=none->c-1=0):=zwd (fun e=>by rw[<-hA1]at e;split at e<;>cases e)
 have R1:Hid (Row w2 A1 r.length r):=zwd (by simpa using RW)
 clear RW
 go_wp2_with fail
 clear hw2
 have m0:=zhZ c0
 have m1:=zhZ g1
 refine zaa (ExtB w2.heap.size) (ExtB.refl _) ExtB.trans ((0,false)::(1,false)::(2,false)::(3,false)::(4,false)::(5,false)::(6,false)::(7,false)::(8,false)::(9,false)::(10,false)::(11,true)::(12,true)::[]) (by kernel_rfl) (by kernel_rfl) rfl (by kernel_rfl) (fun _ _ _ _ _ h=>h) ?_
 repeat(refine zab _ rfl (by rfl) (fun W hW=>by go_simp;first|done|rfl) ?_;simp only[Act.put,zwe,zwg,zwf])
 clear m0 m1
 refine zad rfl (by rfl) (fun K1 hK1=> ?_)
 go_simp
 refine hK1 _ _ (ExtB.both ((Below.refl _ _).alloc (Nat.le_refl _) _)) ?_
 clear hK1 K1
 refine zad rfl (by rfl) (fun K1 hK1=> ?_)
 go_simp
 refine hK1 _ _ (ExtB.both (zoS _ _ _)) ?_
 clear hK1 K1
 refine zai ?_
 have E3:Hid (Ext w2 (w2.alloc (.cells #[.int .i64 (8*(r.length:Int)-x)] 3)).drew):=Ext.drew ((Below.refl _ _).alloc (Nat.le_refl _) _)
 have cp:(w2.alloc (.cells #[.int .i64 (8*(r.length:Int)-x)] 3)).drew.cell? ⟨w2.heap.size,0,none⟩=some (.int .i64 (8*(r.length:Int)-x)):=(Blk.new w2 3 #[.int .i64 (8*(r.length:Int)-x)]).cell 0
 have hl3:w2.heap.size<(w2.alloc (.cells #[.int .i64 (8*(r.length:Int)-x)] 3)).drew.heap.size:=by
  show w2.heap.size<(w2.alloc (.cells #[.int .i64 (8*(r.length:Int)-x)] 3)).heap.size
  simp
 generalize(w2.alloc (.cells #[.int .i64 (8*(r.length:Int)-x)] 3)).drew=w3 at*
 have B3:=zwd (BX.out.go E3.out)
 have R3:=zwd (R1.out.below E3.out)
 clear g0 g1 g2 BX R1 R0 E3 c0
 obtain⟨g0,g1,g2⟩:=B3.out.cells
 go_wp2_with fail
 obtain⟨l0,l1,l2⟩:=B3.out.laters
 have hmf:∀(fn:Fn) (first cap:Array Value) (w:World),(Instr.makeFunc fn first cap).run Tryz.prog w= .ok (.func fn first cap) w:=fun _ _ _ _=>rfl
 refine zaa Ext Ext.refl (fun _ _ _=>Ext.trans) ((0,false)::(1,false)::(2,false)::(3,false)::(5,false)::(4,true)::(6,true)::(7,false)::(8,false)::(9,false)::(10,false)::(11,false)::[]) (by kernel_rfl) (by kernel_rfl) rfl (by kernel_rfl) (fun _ _ _ _ _ h=>h) ?_
 repeat(refine zab _ rfl (by rfl) (fun W hW=>by go_simp;first|done|rfl) ?_;simp only[Act.put,zwe,zwg,zwf])
 clear l0 l1 l2
 refine zad rfl (by rfl) (fun K1 hK1=> ?_)
 go_simp
 refine(zq0 A1 r.length (c-1) r w3.drew R3.out (by omega) (by omega) N1.out).mono ?_
 rintro e w4 ⟨b4,c4,rfl,hr4,hn4,hc4,hb4⟩
 have E4:Hid (Ext w3 w4):=Ext.of_drew hb4
 refine hK1 _ _ hb4 ?_
 clear hK1 K1 hb4
 have B4:=zwd (B3.out.go E4.out)
 have R4:=zwd hr4
 have N4:=zwd hn4
 have cp4:=(E4.out.cell (p:=⟨w2.heap.size,0,none⟩) hl3).trans cp
 have hl4:w2.heap.size<w4.heap.size:=Nat.lt_of_lt_of_le hl3 E4.out.size
 clear hr4 hn4 E4 cp hl3 B3 R3 g0 g1 g2
 have CX:=zwd (ztq t _ w4 (zaG r (8*(r.length:Int)-x)) b4 r.length c4 ⟨w2.heap.size,0,none⟩ KX.out B4.out.has (fun W hW=>(zu9 b4 _ c4 r _ _ W (R4.out.below hW) (by omega) N4.out WF.out ((hW.cell (p:=⟨w2.heap.size,0,none⟩) hl4).trans cp4) (Nat.lt_of_lt_of_le hl4 hW.size)).mono fun e w' h=>h.has))
 refine zad rfl (by rfl) (fun K1 hK1=> ?_)
 go_simp
 refine CX.out.mono ?_
 intro e w5 h5
 clear CX
 rcases h5.ways with⟨hok,rfl,hb5⟩|⟨hok,rfl,hb5⟩
 · have F:Hid (ofZ t=(r,8*(r.length:Int)-x,0)):=by
    rw[GX.out,if_pos hok]
    exact zwd rfl
   refine hK1 _ _ hb5 ?_
   have B5:=zwd (B4.out.go hb5)
   have R5:=zwd (R4.out.below hb5)
   have cp5:=(hb5.cell (p:=⟨w2.heap.size,0,none⟩) hl4).trans cp4
   clear hK1 K1 hok hb5 h5 GX cp4
   repeat(refine zab _ rfl (by rfl) (fun W hW=>by go_simp;first|done|rfl) ?_;simp only[Act.put,zwe,zwg,zwf])
   refine zai ?_
   go_wp2
   go_quiet (fail)
   go_wp2
   go_ret3
   rw[F.out]
   exact⟨b4,c4,rfl,R5.out,N4.out,hc4,Below.step B5.out.below (zaE w5 _)⟩
 · have F:Hid (ofZ t=([],0,2)):=by
    rw[GX.out,if_neg (by rw[hok];simp)]
    exact zwd rfl
   refine hK1 _ _ hb5 ?_
   have B5:=zwd (B4.out.go hb5)
   clear hK1 K1 hok hb5 h5 GX cp4
   repeat(refine zab _ rfl (by rfl) (fun W hW=>by go_simp;first|done|rfl) ?_;simp only[Act.put,zwe,zwg,zwf])
   refine zai ?_
   go_wp2_with fail
   go_ret3
   exact zbP F.out B5.out.below
def zjT (x:List Int×Int) (w:World) (e:Ending) (w':World):Prop:=
 ∃a c,e= .returned (.tuple #[.slice a x.1.length c,.int .i64 x.2])/\ Row w' a x.1.length x.1/\ (a=none->c=0)/\ Below w.heap.size w w'/\ x.1.length<=c
theorem zd0 {x:List Int×Int} {w w':World} {z:Int} (h:x=([],z)) (hb:Below w.heap.size w w'):zjT x w (.returned (.tuple #[.slice none 0 0,.int .i64 z])) w':=by
 subst h
 exact⟨none,0,rfl,Row.nil _ _,fun _=>rfl,hb,Nat.le_refl _⟩
theorem zi7 (t:T) (v:Value) (w:World) (hin:t.In w v) (hwt:wt t<1000000):Calls Tryz.prog 51 #[v] w (zjT (zao t) w):=by
 obtain⟨A,n,c,K,m,d,rfl,_⟩:=hin.open
 have BX:=zwd (Box.start hin)
 clear hin
 cases hrt:zar t
 · have F:=zwd (zhD hrt)
   have RT:=zwd hrt
   clear hrt
   go_enter Tryz.func51,Tryz.ntmps51
   go_wp2_with fail
   refine(ziT t _ _ BX.out.has).mono ?_
   rintro e w2 ⟨rfl,hb2⟩
   rw[RT.out]
   have B2:=zwd (Below.step BX.out.below hb2)
   clear hb2
   go_wp2_with fail
   go_ret2
   exact zd0 F.out B2.out
 have RT:=zwd hrt
 have hsz:=zci t
 have key:∃x,x=zao t/\ ((32<zaP t/\ x=([],4)) \/(¬32<zaP t/\ 20000<zaT t/\ x=([],5)) \/(¬32<zaP t/\ ¬20000<zaT t/\ x=(layT t,0))):=by
  refine⟨_,rfl,?_⟩
  by_cases h1:32<zaP t
  · exact .inl ⟨h1,ziK hrt h1⟩
  · by_cases h2:20000<zaT t
    · exact .inr (.inl ⟨h1,h2,zfa hrt h1 h2⟩)
    · exact .inr (.inr ⟨h1,h2,zgQ hrt h1 h2⟩)
 obtain⟨x,hx,hways⟩:=key
 rw[<-hx]
 clear hx hrt
 rcases hways with⟨h1,hx⟩|⟨h1,h2,hx⟩|⟨h1,h2,hx⟩
 all_goals
  have HX:=zwd hx
  clear hx
  go_enter Tryz.func51,Tryz.ntmps51
  go_wp2_with fail
  refine(ziT t _ _ BX.out.has).mono ?_
  rintro e w2 ⟨rfl,hb2⟩
  rw[RT.out]
  have BX2:=zwd (BX.out.go hb2)
  obtain⟨g0,g1,g2⟩:=BX2.out.cells
  clear hb2
  go_wp2_with fail
  refine(zrj t _ _ BX2.out.has hwt).mono ?_
  rintro e w3 ⟨rfl,hb3⟩
  have BX3:=zwd (BX2.out.go hb3)
  clear g0 g1 g2 hb3
  obtain⟨g0,g1,g2⟩:=BX3.out.cells
  go_wp2_with fail
 · go_ret2
   exact zd0 HX.out BX3.out.below
 · go_ret2
   exact zd0 HX.out BX3.out.below
 · obtain⟨N,hN⟩:∃N:Nat,zaT t=(N:Int):=⟨(zaT t).toNat,by omega⟩
   have LN:=zwd (zcS t RT.out)
   have hwt:wt t<30000:=by have:=zqC t RT.out;omega
   rw[hN]at LN h2
   rw[hN]
   have hlN:(layT t).length<=N:=by have:=LN.out;omega
   obtain⟨B,hBe⟩:∃B,B=w3.heap.size:=⟨_,rfl⟩
   have HBe:=zwd hBe
   have l0:∀W,Past B w3.drew W->W.cell? ⟨w.heap.size,0,none⟩=some (.int .i64 t.tag):=fun W hW=>BX3.out.blk.past (by rw[hBe];exact BX3.out.blk.lt) hW 0 rfl
   have l1:∀W,Past B w3.drew W->W.cell? ⟨w.heap.size,1,none⟩=some (.slice A n c):=fun W hW=>BX3.out.blk.past (by rw[hBe];exact BX3.out.blk.lt) hW 1 rfl
   have l2:∀W,Past B w3.drew W->W.cell? ⟨w.heap.size,2,none⟩=some (.slice K m d):=fun W hW=>BX3.out.blk.past (by rw[hBe];exact BX3.out.blk.lt) hW 2 rfl
   clear g0 g1 g2 hBe hsz hN
   refine zaa (Past B) (Past.refl B) (fun _ _ _=>Past.trans) [(0,false),(2,false),(1,true),(3,true),(4,false),(5,false)] (by kernel_rfl) (by kernel_rfl) rfl (by kernel_rfl) (fun _ _ _ _ _ h=>h) ?_
   repeat(refine zab _ rfl (by rfl) (fun W hW=>by go_simp;first|done|rfl) ?_;simp only[Act.put,zwe,zwg,zwf])
   clear l0 l1 l2
   have mk:=zfU N (by omega) w3.drew
   refine zad rfl (by rfl) (fun K1 hK1=> ?_)
   go_simp
   have U1:Hid (Buf B (w3.drew.alloc (.cells (madeCells #[.int .u8 0] N) 5)) B N []):=by
    rw[HBe.out]
    exact(Out.made (W0:=w3.drew) N (by omega)).1
   have I1:Hid (t.InP (· ≠B) (w3.drew.alloc (.cells (madeCells #[.int .u8 0] N) 5)) (.agg #[.int .i64 t.tag,.slice A n c,.slice K m d])):=
    T.InP.keep (w:=w3) (fun b hb hp=>⟨by rw[HBe.out];omega,Below.heap_alloc w3.drew _ b hb⟩) (by simp) _ (T.In.inP _ BX3.out.has)
   have B1:Hid (Below w3.heap.size w3 (w3.drew.alloc (.cells (madeCells #[.int .u8 0] N) 5))):=Past.real HBe.out (show Past B w3.drew _ from Past.alloc (by rw[HBe.out];exact Nat.le_refl _) _)
   have CI:Hid (∀gg:Nat,gg=B->Calls Tryz.prog 84 #[.slice (some ⟨gg,0,none⟩) 0 N,.agg #[.int .i64 t.tag,.slice A n c,.slice K m d]] (w3.drew.alloc (.cells (madeCells #[.int .u8 0] N) 5)) (zdZ B B N (layT t) (w3.drew.alloc (.cells (madeCells #[.int .u8 0] N) 5)))):=by
    intro gg hgg
    subst hgg
    have h:=zuY t _ gg gg N [] _ I1.out U1.out RT.out hwt (by simpa using hlN) (by omega)
    simpa using h
   have hPB:B<=(w3.drew.alloc (.cells (madeCells #[.int .u8 0] N) 5)).heap.size:=by rw[HBe.out];simp
   refine hK1 _ _ (Past.alloc (by rw[HBe.out];exact Nat.le_refl _) _) ?_
   clear hK1 K1 mk
   refine zad rfl (by rfl) (fun K1 hK1=> ?_)
   go_simp
   refine(CI.out _ HBe.out.symm).mono ?_
   rintro e w4 ⟨rfl,hb4,hg4⟩
   have P4:Hid (Past B (w3.drew.alloc (.cells (madeCells #[.int .u8 0] N) 5)) w4):=zbS hg4 B (Nat.le_refl _) hPB
   have B4:=zwd (Below.step BX3.out.below (Below.trans B1.out (show Below w3.heap.size _ w4 by have h:=P4.out;rw[HBe.out]at h;exact h)))
   have U4:=zwd hb4
   refine hK1 _ _ P4.out ?_
   clear hK1 K1 hb4 hg4 CI I1 U1 hPB
   repeat(refine zab _ rfl (by rfl) (fun W hW=>by go_simp;first|done|rfl) ?_;simp only[Act.put,zwe,zwg,zwf])
   refine zai ?_
   go_wp2_with fail
   go_ret2
   rw[HX.out]
   exact⟨_,_,rfl,Row.of_own U4.out (zno t BX3.out.has RT.out),fun e=>(by cases e),B4.out,hlN⟩
theorem T.InP.far {P Q:Nat->Prop} {W:World} {g:Nat} {t:T} {v:Value} (h:t.InP P W v) (hq:∀b,P b->Q b/\ b≠g) (j:Nat) (x:Value):t.InP Q (W.setCell ⟨g,j,none⟩ x) v:=
 T.InP.keep (fun b _ hp=>⟨(hq b hp).1,heap_setCell_other _ ⟨g,j,none⟩ b x (hq b hp).2⟩) (by simp) _ h
theorem zrA {w W:World} {tmps:Array Value} {fn:Func} {p:Tmp} {g:Nat} {t:T} {x y z:Value} {A:Option Addr} {n c:Nat} {K:Option Addr} {m d:Nat} (hf:fn.results=#[.cell p 30]) (hp:tmps.getD p undef= .pointer (some ⟨g,0,none⟩)) (hblk:Blk W g 30 #[x,y,z]) (hg:w.heap.size<=g) (hb:Below w.heap.size w W) (hin:t.InP (· ≠g) W (.agg #[.int .i64 t.tag,.slice A n c,.slice K m d])):
 bodyPost Tryz.prog fn (zqg t w) .ret {tmps:=tmps,defers:=[]} (((W.setCell ⟨g,0,none⟩ (.int .i64 t.tag)).setCell ⟨g,1,none⟩ (.slice A n c)).setCell ⟨g,2,none⟩ (.slice K m d)):=by
 have h1:Blk (((W.setCell ⟨g,0,none⟩ (.int .i64 t.tag)).setCell ⟨g,1,none⟩ (.slice A n c)).setCell ⟨g,2,none⟩ (.slice K m d)) g 30 #[.int .i64 t.tag,.slice A n c,.slice K m d]:=((hblk.set 0 (.int .i64 t.tag)).set 1 (.slice A n c)).set 2 (.slice K m d)
 have h2:Below w.heap.size w (((W.setCell ⟨g,0,none⟩ (.int .i64 t.tag)).setCell ⟨g,1,none⟩ (.slice A n c)).setCell ⟨g,2,none⟩ (.slice K m d)):=((hb.setCell hg _).setCell hg _).setCell hg _
 have hq:∀b:Nat,b≠g->b≠g/\ b≠g:=fun b h=>⟨h,h⟩
 exact bodyPost_ret (results_cell_row hf _ _ g 30 #[.int .i64 t.tag,.slice A n c,.slice K m d] (0,0) _ hp h1 Tryz.underlying30 rfl Tryz.sizeNode3) rfl ⟨A,n,c,K,m,d,rfl,T.InP.in _ (((hin.far hq 0 _).far hq 1 _).far hq 2 _),h2⟩
theorem zc6 {B g:Nat} (W:World) (hg:B<=g) (x y z:Value):ExtB B W (((W.setCell ⟨g,0,none⟩ x).setCell ⟨g,1,none⟩ y).setCell ⟨g,2,none⟩ z):=
 (((Below.refl B W).setCell hg x).setCell hg y).setCell hg z
theorem zi8 (t:T) (v:Value) (a:Option Addr) (n ca:Nat) (zs:List Int) (w:World) (hin:t.In w v) (hr:Row w a n zs) (hn:n<=100000) (hnil:a=none->ca=0):Calls Tryz.prog 52 #[v,.slice a n ca] w (zqg (zaL t zs) w):=by
 obtain⟨A,nb,c,K,m,d,rfl⟩:=(T.In.inP t hin).form
 have BX:=zwd (Box.start hin)
 have I0:=zwd (T.In.inP t hin)
 have R0:=zwd hr
 have HN:=zwd hnil
 clear hr hin hnil
 go_enter Tryz.func52,Tryz.ntmps52
 go_wp2_with fail
 have b1:Below w.heap.size w ((w.alloc (.cells #[.int .i64 t.tag,.slice A nb c,.slice K m d] 30)).alloc (.cells #[.int .i64 0,.slice none 0 0,.slice none 0 0] 30)):=((Below.refl _ _).alloc (Nat.le_refl _) _).alloc (by simp) _
 have S0:=Blk.new (w.alloc (.cells #[.int .i64 t.tag,.slice A nb c,.slice K m d] 30)) 30 #[.int .i64 0,.slice none 0 0,.slice none 0 0]
 have X0:=(BX.out.blk.alloc (.cells #[.int .i64 0,.slice none 0 0,.slice none 0 0] 30))
 rw[show(w.alloc (.cells #[.int .i64 t.tag,.slice A nb c,.slice K m d] 30)).heap.size=w.heap.size+1 by simp]at S0
 have B1:=zwd b1
 have S1:=zwd S0
 have X1:=zwd X0
 clear b1 S0 X0 BX
 generalize(w.alloc (.cells #[.int .i64 t.tag,.slice A nb c,.slice K m d] 30)).alloc (.cells #[.int .i64 0,.slice none 0 0,.slice none 0 0] 30)=w2 at*
 have l0:∀W,ExtB (w.heap.size+1) w2.drew W->W.cell? ⟨w.heap.size,0,none⟩=some (.int .i64 t.tag):=fun W hW=>(Below.cell hW (p:=⟨w.heap.size,0,none⟩) (Nat.lt_succ_self _)).trans (X1.out.cell 0)
 have l1:∀W,ExtB (w.heap.size+1) w2.drew W->W.cell? ⟨w.heap.size,1,none⟩=some (.slice A nb c):=fun W hW=>(Below.cell hW (p:=⟨w.heap.size,1,none⟩) (Nat.lt_succ_self _)).trans (X1.out.cell 1)
 have l2:∀W,ExtB (w.heap.size+1) w2.drew W->W.cell? ⟨w.heap.size,2,none⟩=some (.slice K m d):=fun W hW=>(Below.cell hW (p:=⟨w.heap.size,2,none⟩) (Nat.lt_succ_self _)).trans (X1.out.cell 2)
 refine zaa (ExtB (w.heap.size+1)) (ExtB.refl _) ExtB.trans ((0,false)::(2,false)::(1,true)::(3,true)::(4,true)::(5,true)::(6,true)::[]) (by kernel_rfl) (by kernel_rfl) rfl (by kernel_rfl) (fun _ _ _ _ _ h=>h) ?_
 repeat(refine zab _ rfl (by rfl) (fun W hW=>by go_simp;first|done|rfl) ?_;simp only[Act.put,zwe,zwg,zwf])
 clear l0 l1 l2 X1
 have B2:Hid (Below w.heap.size w w2.drew):=B1.out.drew
 have S2:Hid (Blk w2.drew (w.heap.size+1) 30 #[.int .i64 0,.slice none 0 0,.slice none 0 0]):=S1.out
 clear B1 S1
 generalize w2.drew=w3 at*
 have hsz:Hid (w.heap.size+1<w3.heap.size):=S2.out.lt
 have I3:=zwd (T.InP.below (Q:=(· ≠w.heap.size+1)) B2.out (fun b (hb:b<w.heap.size)=>(by omega)) _ I0.out)
 have CB:=zwd (fun W (hW:Below w.heap.size w W)=>zml a n ca zs W (R0.out.below hW) hn HN.out)
 clear I0 R0 HN
 refine zad rfl (by rfl) (fun K1 hK1=> ?_)
 go_simp
 refine(zjS 11 (by omega) (by omega) w3).mono ?_
 rintro e w4 ⟨A4,n4,c4,K4,m4,d4,rfl,hin4,hb4⟩
 refine hK1 _ _ (hb4.mono (by have:=hsz.out;omega)) ?_
 clear hK1 K1
 have B4:=zwd (B2.out.trans (hb4.mono B2.out.size))
 have S4:=zwd (S2.out.below hb4 (by have:=hsz.out;omega))
 have I4:=zwd (T.InP.below hb4 (fun _ h=>h) _ I3.out)
 have J4:=zwd (T.InP.keep (Q:=(· ≠w.heap.size+1)) (fun b _ (hp:w3.heap.size<=b)=>⟨by have:=hsz.out;omega,rfl⟩) (Nat.le_refl _) _ hin4)
 have hs4:Hid (w.heap.size+1<w4.heap.size):=Nat.lt_of_lt_of_le hsz.out hb4.size
 clear hb4 hin4 B2 S2 I3 hsz
 refine zad rfl (by rfl) (fun K1 hK1=> ?_)
 go_simp
 refine(CB.out w4 B4.out).mono ?_
 rintro e w5 ⟨A5,n5,c5,K5,m5,d5,rfl,hin5,hb5⟩
 refine hK1 _ _ (hb5.mono (by have:=hs4.out;omega)) ?_
 clear hK1 K1 CB
 have B5:=zwd (B4.out.trans (hb5.mono B4.out.size))
 have S5:=zwd (S4.out.below hb5 (by have:=hs4.out;omega))
 have I5:=zwd (T.InP.below hb5 (fun _ h=>h) _ I4.out)
 have J5:=zwd (T.InP.below hb5 (fun _ h=>h) _ J4.out)
 have L5:=zwd (T.InP.keep (Q:=(· ≠w.heap.size+1)) (fun b _ (hp:w4.heap.size<=b)=>⟨by have:=hs4.out;omega,rfl⟩) (Nat.le_refl _) _ hin5)
 have hs5:Hid (w.heap.size+1<w5.heap.size):=Nat.lt_of_lt_of_le hs4.out hb5.size
 clear hb5 hin5 B4 S4 I4 J4 hs4
 refine zad rfl (by rfl) (fun K1 hK1=> ?_)
 go_simp
 have A6:Below w5.heap.size w5 (w5.alloc (.cells #[.int .i64 t.tag,.slice A nb c,.slice K m d,.int .i64 (algT 11).tag,.slice A4 n4 c4,.slice K4 m4 d4,.int .i64 (zb0 zs).tag,.slice A5 n5 c5,.slice K5 m5 d5] 30)):=(Below.refl _ _).alloc (Nat.le_refl _) _
 refine hK1 _ _ (A6.mono (by have:=hs5.out;omega)) ?_
 clear hK1 K1
 have B6:=zwd (B5.out.trans (A6.mono B5.out.size))
 have S6:=zwd (S5.out.below A6 (by have:=hs5.out;omega))
 have K6:=zwd (zi6 (P:=(· ≠w.heap.size+1)) (Blk.new w5 30 #[.int .i64 t.tag,.slice A nb c,.slice K m d,.int .i64 (algT 11).tag,.slice A4 n4 c4,.slice K4 m4 d4,.int .i64 (zb0 zs).tag,.slice A5 n5 c5,.slice K5 m5 d5]) (by have:=hs5.out;show w5.heap.size≠w.heap.size+1;omega) (T.InP.below A6 (fun _ h=>h) _ I5.out) (T.InP.below A6 (fun _ h=>h) _ J5.out) (T.InP.below A6 (fun _ h=>h) _ L5.out))
 have hs6:Hid (w.heap.size+1<(w5.alloc (.cells #[.int .i64 t.tag,.slice A nb c,.slice K m d,.int .i64 (algT 11).tag,.slice A4 n4 c4,.slice K4 m4 d4,.int .i64 (zb0 zs).tag,.slice A5 n5 c5,.slice K5 m5 d5] 30)).heap.size):=Nat.lt_of_lt_of_le hs5.out A6.size
 clear A6 B5 S5 I5 J5 L5 hs5
 generalize w5.alloc (.cells #[.int .i64 t.tag,.slice A nb c,.slice K m d,.int .i64 (algT 11).tag,.slice A4 n4 c4,.slice K4 m4 d4,.int .i64 (zb0 zs).tag,.slice A5 n5 c5,.slice K5 m5 d5] 30)=w6 at*
 refine zad rfl (by rfl) (fun K1 hK1=> ?_)
 go_simp
 refine(zgu _ 3 3 w6).mono ?_
 rintro e w7 ⟨rfl,hb7⟩
 refine hK1 _ _ (hb7.mono (by have:=hs6.out;omega)) ?_
 clear hK1 K1
 have B7:=zwd (B6.out.trans (hb7.mono B6.out.size))
 have S7:=zwd (S6.out.below hb7 (by have:=hs6.out;omega))
 have K7:=zwd (K6.out.below hb7 (fun _ h=>h))
 clear hb7 B6 S6 K6 hs6
 obtain⟨c0,c1,c2,f0,f1,f2⟩:=S7.out.facts
 refine zad rfl (by rfl) (fun K1 hK1=> ?_)
 go_simp
 refine hK1 _ _ (zc6 w7 (Nat.le_refl _) _ _ _) ?_
 clear hK1 K1
 refine zai ?_
 go_wp2_with fail
 exact zrA (t:=zaL t zs) rfl rfl S7.out (Nat.le_succ _) B7.out (K7.out.node (by decide))
theorem ztz (t:T) (v:Value) (a:Option Addr) (n ca:Nat) (zs:List Int) (w:World) (hin:t.In w v) (hwt:wt t<100000) (hr:Row w a n zs) (hn:n<=100000) (hnil:a=none->ca=0):Calls Tryz.prog 29 #[v,.slice a n ca] w (zjT (zao (zaL t zs)) w):=by
 obtain⟨A,nb,c,K,m,d,rfl⟩:=(T.In.inP t hin).form
 have BX:=zwd (Box.start hin)
 have WS:=zjB t zs
 have hl:=hr.1
 have CS:=zwd (zi8 t _ a n ca zs _ BX.out.has (hr.below BX.out.below) hn hnil)
 obtain⟨g0,g1,g2⟩:=BX.out.cells
 clear hr hin hnil
 go_enter Tryz.func29,Tryz.ntmps29
 generalize hw2:w.alloc (.cells #[.int .i64 t.tag,.slice A nb c,.slice K m d] 30)=w2 at*
 go_wp2_with fail
 refine CS.out.mono ?_
 rintro e w3 ⟨A3,n3,c3,K3,m3,d3,rfl,hin3,hb3⟩
 have B3:=zwd (Below.step BX.out.below hb3)
 have CW:=zwd (zi7 (zaL t zs) _ w3 hin3 (by omega))
 clear CS BX hb3 hin3 hw2 g0 g1 g2
 go_wp2_with fail
 refine CW.out.mono ?_
 rintro e w4 ⟨a4,c4,rfl,hr4,hnil4,hb4,hc4⟩
 have B4:=zwd (Below.step B3.out hb4)
 have R4:=zwd hr4
 have N4:=zwd hnil4
 clear CW B3 hb4 hr4 hnil4
 go_wp2_with fail
 go_ret2
 exact⟨a4,c4,rfl,R4.out,N4.out,B4.out,hc4⟩
def Any (_:Nat):Prop:=True
theorem T.In.any {w:World} {t:T} {v:Value} (h:t.In w v):t.InP Any w v:=T.InP.keep (fun _ _ _=>⟨trivial,rfl⟩) (Nat.le_refl _) _ (T.In.inP t h)
theorem zcM.kid {P:Nat->Prop} {w:World} {K:Option Addr} {m d:Nat} {ks:List T} (h:zcM P w K m d ks) (i:Nat) (hi:i<m):∃(k:T) (b off:Nat) (z:Int) (A':Option Addr) (n' c':Nat) (K':Option Addr) (m' d':Nat),ks[i]?=some k/\ K=some ⟨b,off,none⟩/\
 w.cell? ⟨b,off+i*3,none⟩=some (.int .i64 z)/\ w.cell? ⟨b,off+i*3+1,none⟩=some (.slice A' n' c')/\ w.cell? ⟨b,off+i*3+2,none⟩=some (.slice K' m' d')/\ k.InP P w (.agg #[.int .i64 z,.slice A' n' c',.slice K' m' d']):=
 T.InP.kid (t:= .node 48 [] ks) (h.node (z:=48) (by decide)) i hi
theorem T.InP.kidsP {P:Nat->Prop} {w:World} {t:T} {z:Int} {A:Option Addr} {n c:Nat} {K:Option Addr} {m d:Nat} (h:t.InP P w (.agg #[.int .i64 z,.slice A n c,.slice K m d])):zcM P w K m d t.kids:=by
 obtain⟨tag,body,kids⟩:=t
 unfold T.InP at h
 obtain⟨A1,n1,c1,K1,m1,d1,e,_,_,_,_,hm,hm',_,hk⟩:=h
 simp only[Value.agg.injEq]at e
 have e':=congrArg Array.toList e
 simp only[List.cons.injEq,and_true,Value.slice.injEq,true_and]at e'
 obtain⟨_,_,rfl,rfl,rfl⟩:=e'
 exact⟨hm,⟨hm'.1,hm'.2.2⟩,hk⟩
def EqIs (x:T):Prop:=∀(y:T) (u v:Value) (w:World),x.In w u->y.In w v->Calls Tryz.prog 145 #[u,v] w fun e w'=>e= .returned (.bool (zaW x y))/\ Below w.heap.size w w'
theorem zoT (ks ls:List T) (K1 K2:Option Addr) (m1 d1 m2 d2:Nat) (w:World) (IH:∀k∈ks,EqIs k) (h1:zcM Any w K1 m1 d1 ks) (h2:zcM Any w K2 m2 d2 ls):
 Calls Tryz.prog 189 #[.slice K1 m1 d1,.slice K2 m2 d2,.func (.func 145) #[] #[]] w fun e w'=>e= .returned (.bool ((ks.length==ls.length)&&za6 ks ls))/\ Below w.heap.size w w':=by
 have hl1:=h1.1
 have hl2:=h2.1
 have hx:=h1.2.1.1
 have HI:=zwd IH
 have H1:=zwd h1
 have H2:=zwd h2
 unfold maxLen at hx
 clear h1 h2 IH
 by_cases e3:m1=m2
 rotate_left
 · have t3:((m1:Int) !=(m2:Int))=true:=by simp;omega
   have F:Hid (((ks.length==ls.length)&&za6 ks ls)=false):=by rw[hl1,hl2];simp[e3,Hid]
   clear hl1 hl2 e3
   go_enter Tryz.func189,Tryz.ntmps189
   go_wp2_with fail
   go_ret
   exact⟨zaj F.out.symm,Below.refl _ _⟩
 subst e3
 have F:Hid (((ks.length==ls.length)&&za6 ks ls)=za6 ks ls):=by rw[hl1,hl2];simp[Hid]
 have HL:=zwd hl1
 clear hl1 hl2
 go_enter Tryz.func189,Tryz.ntmps189
 go_wp2_with fail
 go_loopw [17] (fun i wr=>∃k:Nat,k<=m1/\ i= .int .i64 (k:Int)/\ za6 ks ls=za6 (ks.drop k) (ls.drop k)/\ Below w.heap.size w wr) (fun i _=>m1-(intOf i).toNat)
 case atStart=>exact⟨0,by omega,rfl,rfl,Below.refl _ _⟩
 case round=>
  obtain⟨k,hk,rfl,hs,hb⟩:=hrel
  have HS:=zwd hs
  have HB:=zwd hb
  have J1:=zwd (H1.out.below hb (fun _ h=>h))
  have J2:=zwd (H2.out.below hb (fun _ h=>h))
  clear hs hb
  by_cases hlt:k<m1
  · obtain⟨p,b,off,z,A',n',c',K',m',d',hp,rfl,p0,p1,p2,hpin⟩:=J1.out.kid k hlt
    obtain⟨q,b2,off2,z2,A2',n2',c2',K2',m2',d2',hq,rfl,q0,q1,q2,hqin⟩:=J2.out.kid k hlt
    have ST:=zwd (HS.out.trans (zkE hp hq))
    have PM:=List.mem_of_getElem? hp
    have hb2:=zc1 q0
    have A1:Below wr.heap.size wr (wr.alloc (.cells #[.int .i64 z,.slice A' n' c',.slice K' m' d'] 30)):=(Below.refl _ _).alloc (Nat.le_refl _) _
    have A2:Below wr.heap.size wr ((wr.alloc (.cells #[.int .i64 z,.slice A' n' c',.slice K' m' d'] 30)).alloc (.cells #[.int .i64 z2,.slice A2' n2' c2',.slice K2' m2' d2'] 30)):=A1.alloc (by simp) _
    have r0:=(Below.cell A1 (p:=⟨b2,off2+k*3,none⟩) hb2).trans q0
    have r1:=(Below.cell A1 (p:=⟨b2,off2+k*3+1,none⟩) hb2).trans q1
    have r2:=(Below.cell A1 (p:=⟨b2,off2+k*3+2,none⟩) hb2).trans q2
    have CI:=zwd (HI.out p PM q _ _ _ (T.In.below A2 p (T.InP.in _ hpin)) (T.In.below A2 q (T.InP.in _ hqin)))
    have B2:=zwd (HB.out.trans (A2.mono HB.out.size))
    clear HS hp hq hpin hqin H1 H2 J1 J2 PM A1 A2 q0 q1 q2 HB
    go_wp2_with fail
    refine CI.out.mono ?_
    rintro e w3 ⟨rfl,hb3⟩
    have B3:=zwd (B2.out.trans (hb3.mono B2.out.size))
    clear CI hb3 B2
    cases hsame:zaW p q
    · have G:Hid (za6 ks ls=false):=by rw[ST.out,hsame];rfl
      clear hsame ST
      go_wp2_with fail
      go_ret
      exact⟨zaj (F.out.trans G.out).symm,B3.out⟩
    · have N:Hid (za6 ks ls=za6 (ks.drop (k+1)) (ls.drop (k+1))):=by rw[ST.out,hsame];simp[Hid]
      clear hsame ST
      go_wp2_with fail
      go_roundw
      case rel=>exact⟨k+1,by omega,by go_num,N.out,B3.out⟩
      case measure=>simp[intOf];omega
  · have G:Hid (za6 ks ls=true):=by rw[HS.out,zna (by rw[HL.out];omega)];exact zwd rfl
    clear HS
    go_wp2_with fail
    go_ret
    exact⟨zaj (F.out.trans G.out).symm,HB.out⟩
theorem zva (x:T):EqIs x:=by
 refine T.each (p:=EqIs) ?_ x
 clear x
 intro x ih y u v w hx hy
 obtain⟨A,n,c,K,m,d,rfl,_,hrx,_,_,hmx,_,_⟩:=hx.open
 obtain⟨A2,n2,c2,K2,m2,d2,rfl,_,hry,_,_,hmy,_,_⟩:=hy.open
 have b1:Below w.heap.size w ((w.alloc (.cells #[.int .i64 x.tag,.slice A n c,.slice K m d] 30)).alloc (.cells #[.int .i64 y.tag,.slice A2 n2 c2,.slice K2 m2 d2] 30)):=((Below.refl _ _).alloc (Nat.le_refl _) _).alloc (by simp) _
 have SE:=zwd (zgN x y)
 have X1:=(Blk.new w 30 #[.int .i64 x.tag,.slice A n c,.slice K m d]).alloc (.cells #[.int .i64 y.tag,.slice A2 n2 c2,.slice K2 m2 d2] 30)
 have Y1:=Blk.new (w.alloc (.cells #[.int .i64 x.tag,.slice A n c,.slice K m d] 30)) 30 #[.int .i64 y.tag,.slice A2 n2 c2,.slice K2 m2 d2]
 rw[show(w.alloc (.cells #[.int .i64 x.tag,.slice A n c,.slice K m d] 30)).heap.size=w.heap.size+1 by simp]at Y1
 obtain⟨x0,x1,x2,_,_,_⟩:=X1.facts
 obtain⟨y0,y1,y2,_,_,_⟩:=Y1.facts
 have CE:=zwd (zdA A A2 n n2 c c2 x.body y.body _ (hrx.below b1) (hry.below b1))
 have KX:=hx.any.kidsP.below b1 (fun _ h=>h)
 have KY:=hy.any.kidsP.below b1 (fun _ h=>h)
 have CF:=zwd (zoT x.kids y.kids K K2 m d m2 d2 _ ih KX KY)
 have B1:=zwd b1
 clear X1 Y1 hrx hry KX KY b1 hx hy ih hmx hmy
 go_enter Tryz.func145,Tryz.ntmps145
 generalize hw2:(w.alloc (.cells #[.int .i64 x.tag,.slice A n c,.slice K m d] 30)).alloc (.cells #[.int .i64 y.tag,.slice A2 n2 c2,.slice K2 m2 d2] 30)=w2 at*
 by_cases e1:x.tag=y.tag
 rotate_left
 · have t1:(x.tag==y.tag)=false:=by simpa using e1
   have F:Hid (zaW x y=false):=by rw[SE.out];simp[e1,Hid]
   clear e1 SE
   go_wp2_with fail
   go_ret
   exact⟨zaj F.out.symm,B1.out⟩
 have t1:(x.tag==y.tag)=true:=by simpa using e1
 by_cases e2:x.body=y.body
 rotate_left
 · have F:Hid (zaW x y=false):=by rw[SE.out];simp[e2,Hid]
   have t2:decide (x.body=y.body)=false:=decide_eq_false e2
   rw[t2]at CE
   clear e1 e2 SE t2
   go_wp2_with fail
   refine CE.out.mono ?_
   rintro e w3 ⟨rfl,rfl⟩
   go_wp2_with fail
   go_ret
   exact⟨zaj F.out.symm,B1.out⟩
 have F:Hid (zaW x y=((x.kids.length==y.kids.length)&&za6 x.kids y.kids)):=by rw[SE.out];simp[e1,e2,Hid]
 have t2:decide (x.body=y.body)=true:=decide_eq_true e2
 rw[t2]at CE
 clear e1 e2 SE t2
 go_wp2_with fail
 refine CE.out.mono ?_
 rintro e w3 ⟨rfl,rfl⟩
 go_wp2_with fail
 refine CF.out.mono ?_
 rintro e w4 ⟨rfl,hb4⟩
 have B4:=zwd (B1.out.trans (hb4.mono B1.out.size))
 clear hb4 CF CE B1
 rw[<-F.out]
 cases hs:zaW x y<;>
 · have HS:=zwd hs
   clear hs
   go_wp2_with fail
   go_ret
   exact⟨zaj HS.out.symm,B4.out⟩
theorem zmm (v0 v1:Value) (K:Option Addr) (m d:Nat) (w:World):Calls Tryz.prog 142 #[.agg #[v0,v1,.slice K m d]] w fun e w'=>e= .returned (.func (.func 187) #[] #[.pointer (some ⟨w.heap.size+1,0,none⟩)])/\ Blk w' (w.heap.size+1) 28 #[.slice K m d]/\ Below w.heap.size w w':=by
 have hmf:∀(fn:Fn) (first cap:Array Value) (w:World),(Instr.makeFunc fn first cap).run Tryz.prog w= .ok (.func fn first cap) w:=fun _ _ _ _=>rfl
 have X1:=Blk.new w 30 #[v0,v1,.slice K m d]
 have c2:=X1.cell 2
 have B1:=zwd (((Below.refl w.heap.size w).alloc (Nat.le_refl _) (.cells #[v0,v1,.slice K m d] 30)).alloc (by simp) (.cells #[.slice K m d] 28))
 have Y1:=Blk.new (w.alloc (.cells #[v0,v1,.slice K m d] 30)) 28 #[.slice K m d]
 rw[show(w.alloc (.cells #[v0,v1,.slice K m d] 30)).heap.size=w.heap.size+1 by simp]at Y1
 have HY:=zwd Y1
 clear X1 Y1
 go_enter Tryz.func142,Tryz.ntmps142
 go_wp2_with fail
 go_ret
 exact⟨rfl,HY.out,B1.out⟩
def zln (P:Nat->Prop) (g:Nat) (t:T) (r:List T) (w:World) (e:Ending) (w':World):Prop:=
 ∃(A:Option Addr) (n c:Nat) (K:Option Addr) (m d:Nat) (K2:Option Addr) (m2 d2:Nat),e= .returned (.agg #[.int .i64 t.tag,.slice A n c,.slice K m d])/\ t.InP P w' (.agg #[.int .i64 t.tag,.slice A n c,.slice K m d])/\
   Blk w' g 28 #[.slice K2 m2 d2]/\ zcM P w' K2 m2 d2 r/\ w.grownBy w' (some g)
theorem zmn (g:Nat) (K:Option Addr) (d:Nat) (w:World) (hb:Blk w g 28 #[.slice K 0 d]):Calls Tryz.prog 187 #[.pointer (some ⟨g,0,none⟩)] w fun e w'=>e= .panicked (errP 2)/\ Below w.heap.size w w':=by
 have A1:=(Below.refl w.heap.size w).alloc (Nat.le_refl _) (.cells #[.int .i64 0,.slice none 0 0,.slice none 0 0] 30)
 have c0:=(hb.below A1 hb.lt).cell 0
 have B1:=zwd A1
 clear A1 hb
 go_enter Tryz.func187,Tryz.ntmps187
 go_wp2_with fail
 refine(zhY _).mono ?_
 rintro e w2 ⟨rfl,rfl⟩
 go_wp2_with fail
 exact⟨rfl,rfl,B1.out⟩
theorem zrB {P:Nat->Prop} {w:World} {b off m d:Nat} {t:T} {r:List T} {K2:Option Addr} (h:zcM P w (some ⟨b,off,none⟩) (m+1) d (t::r)) (e:(if d=1 then some (⟨b,off,none⟩:Addr)else some ⟨b,off+3,none⟩)=K2):zcM P w K2 m (d-1) r:=by
 obtain⟨h1,h2,h3⟩:=h
 have hl:r.length=m:=by simpa using h1
 refine⟨hl,by unfold maxLen at h2⊢;omega,fun h0=> ?_⟩
 obtain⟨b',off',e',hlt,hp,hall⟩:=h3 (by omega)
 injection e' with e'
 injection e' with e1 e2
 subst e1
 subst e2
 rw[if_neg (by omega)]at e
 unfold T.InPAll at hall
 exact⟨b,off+3,e.symm,hlt,hp,hall.2⟩
theorem T.InP.grownP {P:Nat->Prop} {w w':World} {g:Nat} {t:T} {v:Value} (h:t.InP P w v) (hP:∀b,P b->b≠g) (hg:w.grownBy w' (some g)):t.InP P w' v:=
 T.InP.keep (fun b hb hp=>⟨hp,hg.block b hb (fun e=>hP b hp (by injection e))⟩) hg.size t h
theorem zcM.grown {P:Nat->Prop} {w w':World} {g:Nat} {K:Option Addr} {m d:Nat} {ks:List T} (h:zcM P w K m d ks) (hP:∀b,P b->b≠g) (hg:w.grownBy w' (some g)):zcM P w' K m d ks:=
 (T.InP.grownP (h.node (z:=48) (by decide)) hP hg).kidsP
theorem zh0 {P:Nat->Prop} {w:World} {t:T} {z:Int} {x y:Value} (h:t.InP P w (.agg #[.int .i64 z,x,y])):z=t.tag:=by
 obtain⟨A,n,c,K,m,d,e⟩:=h.form
 simp only[Value.agg.injEq]at e
 have e':=congrArg Array.toList e
 simp only[List.cons.injEq,and_true,Value.int.injEq,true_and]at e'
 exact e'.1
theorem zoU {P:Nat->Prop} {w:World} {g m d:Nat} {K K2 K':Option Addr} {d2 n c m' d':Nat} {A:Option Addr} {t:T} {r:List T} {tmps:Array Value} {fn:Func} {p:Tmp} (hf:fn.results=#[.cell p 30]) (hp:tmps.getD p undef= .pointer (some ⟨w.heap.size,0,none⟩)) (hb:Blk w g 28 #[.slice K m d]) (hP:∀b,P b->b≠g) (hin:t.InP P w (.agg #[.int .i64 t.tag,.slice A n c,.slice K' m' d'])) (hk:zcM P w K2 r.length d2 r):
 bodyPost Tryz.prog fn (zln P g t r w) .ret {tmps:=tmps,defers:=[]} (((w.setCell ⟨g,0,none⟩ (.slice K2 r.length d2)).alloc (.cells #[.int .i64 t.tag,.slice A n c,.slice K' m' d'] 30)).alloc (.cells #[.int .i64 t.tag,.slice A n c,.slice K' m' d'] 30)):=by
 have hg:w.grownBy (((w.setCell ⟨g,0,none⟩ (.slice K2 r.length d2)).alloc (.cells #[.int .i64 t.tag,.slice A n c,.slice K' m' d'] 30)).alloc (.cells #[.int .i64 t.tag,.slice A n c,.slice K' m' d'] 30)) (some g):=zal (zal (zaD w g 0 _) (World.grownBy_alloc _ _ _)) (World.grownBy_alloc _ _ _)
 have h1:=(Blk.new (w.setCell ⟨g,0,none⟩ (.slice K2 r.length d2)) 30 #[.int .i64 t.tag,.slice A n c,.slice K' m' d']).alloc (.cells #[.int .i64 t.tag,.slice A n c,.slice K' m' d'] 30)
 rw[show(w.setCell ⟨g,0,none⟩ (.slice K2 r.length d2)).heap.size=w.heap.size by simp]at h1
 exact bodyPost_ret (results_cell_row hf _ _ w.heap.size 30 #[.int .i64 t.tag,.slice A n c,.slice K' m' d'] (0,0) _ hp h1 Tryz.underlying30 rfl Tryz.sizeNode3) rfl ⟨A,n,c,K',m',d',K2,r.length,d2,rfl,hin.grownP hP hg,((hb.set 0 _).alloc _).alloc _,hk.grown hP hg,hg⟩
theorem zgi (P:Nat->Prop) (g:Nat) (K:Option Addr) (m d:Nat) (t:T) (r:List T) (w:World) (hP:∀b,P b->b≠g) (hb:Blk w g 28 #[.slice K m d]) (hk:zcM P w K m d (t::r)):Calls Tryz.prog 187 #[.pointer (some ⟨g,0,none⟩)] w (zln P g t r w):=by
 have hm:r.length+1=m:=by have:=hk.1;simpa using this
 obtain⟨k,b,off,z,A,n,c,K',m',d',he,rfl,p0,p1,p2,hin⟩:=hk.kid 0 (by omega)
 obtain rfl:t=k:=by simpa using he
 obtain rfl:=zh0 hin
 have hd:=hk.2.1.2
 have hmx:=hk.2.1.1
 unfold maxLen at hmx
 subst hm
 have t0:decide ((0:Int)<(r.length:Int)+1)=true:=decide_eq_true (by omega)
 rw[Nat.zero_mul,Nat.add_zero]at p0 p1 p2
 have hlb:=zc1 p0
 have A1:=(Below.refl w.heap.size w).alloc (Nat.le_refl _) (.cells #[.int .i64 0,.slice none 0 0,.slice none 0 0] 30)
 have c0:=(hb.below A1 hb.lt).cell 0
 have q0:=(Below.cell A1 (p:=⟨b,off,none⟩) hlb).trans p0
 have q1:=(Below.cell A1 (p:=⟨b,off+1,none⟩) hlb).trans p1
 have q2:=(Below.cell A1 (p:=⟨b,off+2,none⟩) hlb).trans p2
 have A2:=A1.alloc (by simp) (.cells #[.int .i64 t.tag,.slice A n c,.slice K' m' d'] 30)
 have e0:=(hb.below A2 hb.lt).cell 0
 have f0:=(hb.below A2 hb.lt).free 0
 simp only[List.getElem?_toArray,List.getElem?_cons_zero]at c0 e0
 have HB:=zwd hb
 have HP:=zwd hP
 have HK:=zwd hk
 have HI:=zwd hin
 have H2:=zwd A2
 have hg:=hb.lt
 obtain⟨K2,hK2⟩:∃K2:Option Addr,(if d=1 then some (⟨b,off,none⟩:Addr)else some ⟨b,off+3,none⟩)=K2:=⟨_,rfl⟩
 have T2:=zwd (zrB hk hK2)
 have BX:=Blk.new (w.alloc (.cells #[.int .i64 0,.slice none 0 0,.slice none 0 0] 30)) 30 #[.int .i64 t.tag,.slice A n c,.slice K' m' d']
 rw[show(w.alloc (.cells #[.int .i64 0,.slice none 0 0,.slice none 0 0] 30)).heap.size=w.heap.size+1 by simp]at BX
 have BR:=(Blk.new w 30 #[.int .i64 0,.slice none 0 0,.slice none 0 0]).alloc (.cells #[.int .i64 t.tag,.slice A n c,.slice K' m' d'] 30)
 obtain⟨x0,x1,x2,_,_,_⟩:=(BX.far (by omega:w.heap.size+1≠g) 0 (.slice K2 r.length (d-1))).facts
 obtain⟨_,_,_,s0,s1,s2⟩:=(BR.far (by omega:w.heap.size≠g) 0 (.slice K2 r.length (d-1))).facts
 have HR:=zwd BR
 clear hb hk hP hin A1 A2 he p0 p1 p2 BX BR
 go_enter Tryz.func187,Tryz.ntmps187
 go_wp2_with fail
 refine(zgh _).mono ?_
 rintro e w2 ⟨rfl,rfl⟩
 go_wp2_with fail
 exact zoU rfl rfl HB.out HP.out HI.out T2.out
theorem zmo (t:T) (v:Value) (w:World) (hin:t.In w v) (hwt:t.body.length<=30000):Calls Tryz.prog 143 #[v] w fun e w'=>Below w.heap.size w w'/\ (((ofZ t).2.2=0/\ ∃a c,e= .returned (.slice a (ofZ t).1.length c)/\ Row w' a (ofZ t).1.length (ofZ t).1/\ (a=none->c=0)/\ (ofZ t).1.length<=c) \/(¬(ofZ t).2.2=0/\ e= .panicked (errP 2))):=by
 obtain⟨A,n,c,K,m,d,rfl,_,_,_,_,_,hcc,_⟩:=hin.open
 have BX:=zwd (Box.start hin)
 obtain⟨g0,g1,g2⟩:=BX.out.cells
 have CO:=zwd (zvL t _ _ BX.out.has (fun z A' n' c' y e=>by
  simp only[Value.agg.injEq]at e
  have e':=congrArg Array.toList e
  simp only[List.cons.injEq,Value.slice.injEq]at e'
  obtain⟨_,⟨_,rfl,rfl⟩,_⟩:=e'
  exact hcc.2.1) hwt)
 clear hin hcc
 go_enter Tryz.func143,Tryz.ntmps143
 generalize hw1:w.alloc (.cells #[.int .i64 t.tag,.slice A n c,.slice K m d] 30)=w1 at*
 go_wp2_with fail
 refine CO.out.mono ?_
 rintro e w2 ⟨a,c2,rfl,hr,hnil,hc2,hb2⟩
 have B2:=zwd (Below.step BX.out.below hb2)
 have R2:=zwd hr
 have N2:=zwd hnil
 clear CO BX hb2 hr hnil g0 g1 g2
 go_wp2_with fail
 by_cases h0:(ofZ t).2.2=0
 · have H0:=zwd h0
   rw[h0]
   clear h0
   refine(zi4 a _ c2 w2).mono ?_
   rintro e w3 ⟨rfl,rfl⟩
   go_wp2_with fail
   go_ret
   exact⟨B2.out,.inl ⟨H0.out,a,c2,rfl,R2.out,N2.out,hc2⟩⟩
 · refine(zjQ a _ c2 _ h0 w2).mono ?_
   rintro e w3 ⟨rfl,rfl⟩
   exact⟨rfl,B2.out,.inr ⟨h0,rfl⟩⟩
def zak (g:Nat) (a b:World):Prop:=a.grownBy b (some g)
theorem zak.refl (g:Nat) (w:World):zak g w w:=⟨rfl,rfl,rfl,Nat.le_refl _,fun _ _ _=>rfl⟩
theorem zak.trans {g:Nat} (a b c:World) (h:zak g a b) (k:zak g b c):zak g a c:=zal h k
theorem zak.below {g:Nat} {a b:World} (h:Below a.heap.size a b):zak g a b:=⟨h.os,h.tape,h.output,h.size,fun i hi _=>h.block i hi⟩
theorem zak.cell {g b o:Nat} {wr W:World} {v:Value} (hW:zak g wr.drew W) (hne:b≠g) (h:wr.cell? ⟨b,o,none⟩=some v):W.cell? ⟨b,o,none⟩=some v:=by
 have hb:b<wr.heap.size:=zc1 h
 have:=hW.block b hb (fun e=>hne (by injection e))
 rw[<-h]
 simp only[World.cell?,this]
 rfl
def zh1 (P:Nat->Prop) (x:T) (w:World) (e:Ending) (w':World):Prop:=Below w.heap.size w w'/\
 ((za3 x= .error 2/\ e= .panicked (errP 2)) \/
  (∃(n:T) (said sig:List Int) (A:Option Addr) (nn c:Nat) (K:Option Addr) (m d:Nat) (a1:Option Addr) (c1:Nat) (a2:Option Addr) (c2:Nat),za3 x= .ok (n,said,sig)/\ e= .returned (.agg #[.int .i64 n.tag,.slice A nn c,.slice K m d,.slice a1 said.length c1,.slice a2 sig.length c2])/\
     n.InP P w' (.agg #[.int .i64 n.tag,.slice A nn c,.slice K m d])/\ Row w' a1 said.length said/\ ((a1=none->c1=0)/\ said.length<=c1)/\ Row w' a2 sig.length sig/\ (a2=none->c2=0)))
theorem zue (t:T):(ofZ t).1.length<=t.body.length:=by
 unfold ofZ
 split
 · simp
 · split
   · simp only[List.length_drop]
     omega
   · simp
theorem zdf {W:World} {a:Option Addr} {n:Nat} {zs:List Int} {g:Nat} {ty:TypeId} {cs:Array Value} (hr:Row W a n zs) (hb:Blk W g ty cs) (hcs:∀(j:Nat) (x:Int),cs[j]?≠some (.int .u8 x)):0<n->∃b off,a=some ⟨b,off,none⟩/\ b≠g:=by
 intro h0
 obtain⟨b,off,e,hlt,hcell⟩:=hr.2.2 h0
 refine⟨b,off,e,fun hbg=> ?_⟩
 subst hbg
 exact hcs _ _ ((hb.cell (off+0)).symm.trans (hcell 0 h0))
structure OP (P:Nat->Prop) (w wr:World) (g:Nat) (x:T) (A:Option Addr) (nb c:Nat) (K:Option Addr) (m d:Nat):Prop where
 off:∀b,P b->b<w.heap.size
 far:w.heap.size+1<g
 box:Blk wr w.heap.size 30 #[.int .i64 x.tag,.slice A nb c,.slice K m d]
 res:Blk wr (w.heap.size+1) 117 #[.int .i64 0,.slice none 0 0,.slice none 0 0,.slice none 0 0,.slice none 0 0]
 below:Below w.heap.size w wr
 has:x.InP P wr (.agg #[.int .i64 x.tag,.slice A nb c,.slice K m d])
theorem OP.grow {P:Nat->Prop} {w wr w':World} {g:Nat} {x:T} {A:Option Addr} {nb c:Nat} {K:Option Addr} {m d:Nat} (h:OP P w wr g x A nb c K m d) (hg:zak g wr w'):OP P w w' g x A nb c K m d:=
 ⟨h.off,h.far,h.box.grown hg (by have:=h.far;omega),h.res.grown hg (by have:=h.far;omega),h.below.trans (zbS hg _ (by have:=h.far;omega) h.below.size),h.has.grownP (fun b hb=>by have:=h.off b hb;have:=h.far;omega) hg⟩
structure ON (P:Nat->Prop) (wr:World) (g gn:Nat) (n:T) (A:Option Addr) (nb c:Nat) (K:Option Addr) (m d:Nat):Prop where
 off:∀b,P b->b≠g
 ne:gn≠g
 blk:Blk wr gn 30 #[.int .i64 n.tag,.slice A nb c,.slice K m d]
 has:n.InP P wr (.agg #[.int .i64 n.tag,.slice A nb c,.slice K m d])
theorem ON.grow {P:Nat->Prop} {wr w':World} {g gn:Nat} {n:T} {A:Option Addr} {nb c:Nat} {K:Option Addr} {m d:Nat} (h:ON P wr g gn n A nb c K m d) (hg:zak g wr w'):ON P w' g gn n A nb c K m d:=
 ⟨h.off,h.ne,h.blk.grown hg h.ne,h.has.grownP h.off hg⟩
theorem zdC (g:Nat) (W:World) (a b c d e:Value):zak g W (((((W.setCell ⟨g,0,none⟩ a).setCell ⟨g,1,none⟩ b).setCell ⟨g,2,none⟩ c).setCell ⟨g,3,none⟩ d).setCell ⟨g,4,none⟩ e):=
 zal (zal (zal (zal (zaD W g 0 a) (zaD _ g 1 b)) (zaD _ g 2 c)) (zaD _ g 3 d)) (zaD _ g 4 e)
theorem zbU {w w':World} {g:Nat} {a:Option Addr} {n:Nat} {zs:List Int} (h:Row w a n zs) (hne:0<n->∃b off,a=some ⟨b,off,none⟩/\ b≠g) (hg:w.grownBy w' (some g)):Row w' a n zs:=by
 refine⟨h.1,h.2.1,fun h0=> ?_⟩
 obtain⟨b,off,e,hlt,hcell⟩:=h.2.2 h0
 obtain⟨b',off',e',hb⟩:=hne h0
 rw[e]at e'
 obtain⟨rfl,rfl⟩:b=b'/\ off=off':=by simpa using e'
 refine⟨b,off,e,Nat.lt_of_lt_of_le hlt hg.size,fun i hi=> ?_⟩
 rw[<-hcell i hi]
 simp only[World.cell?,hg.block b hlt (fun e=>hb (by injection e))]
theorem zep:∀(j:Nat) (x:Int),(#[Value.int .i64 0,.slice none 0 0,.slice none 0 0,.slice none 0 0,.slice none 0 0]:Array Value)[j]?≠some (.int .u8 x):=by
 intro j x h
 rcases j with _|_|_|_|_|j<;>simp at h
theorem Tryz.sizeOpened:(Tryz.prog.info? 117).map (·.size)=some 5:=by kernel_rfl
theorem zlo {P:Nat->Prop} {w W:World} {tmps:Array Value} {fn:Func} {p:Tmp} {g:Nat} {x n:T} {said sig:List Int} {A:Option Addr} {nn c:Nat} {K:Option Addr} {m d:Nat} {a1:Option Addr} {c1:Nat} {a2:Option Addr} {c2:Nat} (hf:fn.results=#[.cell p 117]) (hp:tmps.getD p undef= .pointer (some ⟨g,0,none⟩)) (hblk:Blk W g 117 #[.int .i64 0,.slice none 0 0,.slice none 0 0,.slice none 0 0,.slice none 0 0]) (hg:w.heap.size<=g) (hb:Below w.heap.size w W)
 (ho:za3 x= .ok (n,said,sig)) (hP:∀b,P b->b≠g) (hin:n.InP P W (.agg #[.int .i64 n.tag,.slice A nn c,.slice K m d])) (h1:Row W a1 said.length said) (n1:(a1=none->c1=0)/\ said.length<=c1) (h2:Row W a2 sig.length sig) (n2:a2=none->c2=0):
 bodyPost Tryz.prog fn (zh1 P x w) .ret {tmps:=tmps,defers:=[]} (((((W.setCell ⟨g,0,none⟩ (.int .i64 n.tag)).setCell ⟨g,1,none⟩ (.slice A nn c)).setCell ⟨g,2,none⟩ (.slice K m d)).setCell ⟨g,3,none⟩ (.slice a1 said.length c1)).setCell ⟨g,4,none⟩ (.slice a2 sig.length c2)):=by
 have hG:=zdC g W (.int .i64 n.tag) (.slice A nn c) (.slice K m d) (.slice a1 said.length c1) (.slice a2 sig.length c2)
 have hB:=((((hblk.set 0 (.int .i64 n.tag)).set 1 (.slice A nn c)).set 2 (.slice K m d)).set 3 (.slice a1 said.length c1)).set 4 (.slice a2 sig.length c2)
 exact bodyPost_ret (results_cell_row hf _ _ g 117 #[.int .i64 n.tag,.slice A nn c,.slice K m d,.slice a1 said.length c1,.slice a2 sig.length c2] (0,0) _ hp hB Tryz.underlying117 rfl Tryz.sizeOpened) rfl
  ⟨hb.trans (zbS hG _ hg hb.size),.inr ⟨n,said,sig,A,nn,c,K,m,d,a1,c1,a2,c2,ho,rfl,hin.grownP hP hG,zbU h1 (zdf h1 hblk zep) hG,n1,zbU h2 (zdf h2 hblk zep) hG,n2⟩⟩
theorem zoV {x:T} (h:x.kids=[]):za3 x= .error 2:=by unfold za3;rw[h]
theorem zoW {x n:T} (h:x.kids=[n]):za3 x= .error 2:=by unfold za3;rw[h]
theorem zoX {x n a:T} (h:x.kids=[n,a]):za3 x= .error 2:=by unfold za3;rw[h]
theorem zmp {x n a s:T} {r:List T} (h:x.kids=n::a::s::r):za3 x=if(ofZ s).2.2=0/\ zaW (zaL n (ofZ s).1) x=true then .ok (n,(zao n).1,(ofZ s).1)else .error 2:=by unfold za3;rw[h]
theorem zlp (P:Nat->Prop) (x:T) (v:Value) (w:World) (hP:∀b,P b->b<w.heap.size) (hin:x.InP P w v) (hwt:wt x<30000) (hwr:∀k∈x.kids,(zao k).2=0):Calls Tryz.prog 94 #[v] w (zh1 P x w):=by
 obtain⟨A,nb,c,K,m,d,rfl⟩:=hin.form
 have BX:=zwd (Box.start (T.InP.in _ hin))
 have I0:=zwd hin
 have HP:=zwd hP
 have b1:Below w.heap.size w ((w.alloc (.cells #[.int .i64 x.tag,.slice A nb c,.slice K m d] 30)).alloc (.cells #[.int .i64 0,.slice none 0 0,.slice none 0 0,.slice none 0 0,.slice none 0 0] 117)):=((Below.refl _ _).alloc (Nat.le_refl _) _).alloc (by simp) _
 have S0:=Blk.new (w.alloc (.cells #[.int .i64 x.tag,.slice A nb c,.slice K m d] 30)) 117 #[.int .i64 0,.slice none 0 0,.slice none 0 0,.slice none 0 0,.slice none 0 0]
 have X0:=(BX.out.blk.alloc (.cells #[.int .i64 0,.slice none 0 0,.slice none 0 0,.slice none 0 0,.slice none 0 0] 117))
 rw[show(w.alloc (.cells #[.int .i64 x.tag,.slice A nb c,.slice K m d] 30)).heap.size=w.heap.size+1 by simp]at S0
 have B1:=zwd b1
 have S1:=zwd S0
 have X1:=zwd X0
 obtain⟨g0,g1,g2,_,_,_⟩:=X0.facts
 clear b1 S0 X0 BX hin hP
 go_enter Tryz.func94,Tryz.ntmps94
 go_wp2_with fail
 generalize(w.alloc (.cells #[.int .i64 x.tag,.slice A nb c,.slice K m d] 30)).alloc (.cells #[.int .i64 0,.slice none 0 0,.slice none 0 0,.slice none 0 0,.slice none 0 0] 117)=w2 at*
 have hsz:Hid (w.heap.size+1<w2.heap.size):=S1.out.lt
 refine(zmm _ _ K m d w2).mono ?_
 rintro e w3 ⟨rfl,hg3,hb3⟩
 have X3:=X1.out.below hb3 (by have:=hsz.out;omega)
 have S3:=S1.out.below hb3 hsz.out
 have B3:=B1.out.trans (hb3.mono B1.out.size)
 obtain⟨g,hg⟩:∃g,w2.heap.size+1=g:=⟨_,rfl⟩
 rw[hg]at hg3
 rw[hg]
 have hgs:w.heap.size+1<g:=by have:=hsz.out;omega
 have P3:=zwd (OP.mk HP.out hgs X3 S3 B3 (T.InP.below B3 (fun _ h=>h) _ I0.out))
 have HO:Hid (∀b,P b->b≠g):=zwd (fun b hb=>by have:=HP.out b hb;have:=P3.out.far;omega)
 have HR:Hid (∀b,P b->b≠w.heap.size+1):=zwd (fun b hb=>by have:=HP.out b hb;omega)
 have KK:=P3.out.has.kidsP
 clear HP
 clear hg hb3 X1 S1 B1 hsz g0 g1 g2 I0 X3 S3 B3 hgs
 rcases hks:x.kids with _|⟨n,ks⟩
 · have F:=zwd (zoV hks)
   rw[hks]at KK
   obtain rfl:m=0:=KK.1.symm
   have CN:=zwd (zmn g K d w3 hg3)
   clear hks KK hg3
   go_wp2_with fail
   refine CN.out.mono ?_
   rintro e w4 ⟨rfl,hb4⟩
   exact⟨rfl,(P3.out.grow (zak.below hb4)).below,.inl ⟨F.out,rfl⟩⟩
 rw[hks]at KK
 have CN:=zwd (zgi _ g K m d n ks w3 HO.out hg3 KK)
 have HK:=zwd hks
 clear hks KK hg3
 go_wp2_with fail
 refine CN.out.mono ?_
 rintro e w4 ⟨An,nn,cn,Kn,mn,dn,K2,m2,d2,rfl,hin4,hg4,hk4,hgr4⟩
 have A5:zak g w4 (w4.alloc (.cells #[.int .i64 n.tag,.slice An nn cn,.slice Kn mn dn] 30)):=World.grownBy_alloc _ _ _
 have P5:=zwd (P3.out.grow (zak.trans _ _ _ hgr4 A5))
 have L0:w4.heap.size≠g:=by have:=hg4.lt;omega
 have N5:=zwd (ON.mk HO.out L0 (Blk.new w4 30 #[.int .i64 n.tag,.slice An nn cn,.slice Kn mn dn]) (hin4.grownP HO.out A5))
 have G5:=hg4.alloc (.cells #[.int .i64 n.tag,.slice An nn cn,.slice Kn mn dn] 30)
 have K5:=hk4.grown HO.out A5
 have L4:g<w4.heap.size:=hg4.lt
 clear CN P3 hin4 hg4 hk4 hgr4 A5
 go_wp2_with fail
 generalize hn4:w4.heap.size=gn at*
 generalize w4.alloc (.cells #[.int .i64 n.tag,.slice An nn cn,.slice Kn mn dn] 30)=w5 at*
 have LG:Hid (gn≠w.heap.size+1):=by have:=P5.out.far;have:=L4;show gn≠_;omega
 clear hn4 L4
 rcases ks with _|⟨a,ks⟩
 · have F:=zwd (zoW HK.out)
   obtain rfl:m2=0:=K5.1.symm
   refine(zmn g K2 d2 w5 G5).mono ?_
   rintro e w6 ⟨rfl,hb6⟩
   exact⟨rfl,(P5.out.grow (zak.below hb6)).below,.inl ⟨F.out,rfl⟩⟩
 refine(zgi _ g K2 m2 d2 a ks w5 HO.out G5 K5).mono ?_
 rintro e w6 ⟨Aa,na,ca,Ka,ma,da,K3,m3,d3,rfl,hin6,hg6,hk6,hgr6⟩
 have P6:=zwd (P5.out.grow hgr6)
 have N6:=zwd (N5.out.grow hgr6)
 have G6:=zwd hg6
 have K6:=zwd hk6
 clear P5 N5 G5 K5 hin6 hg6 hk6 hgr6
 go_wp2_with fail
 rcases ks with _|⟨s,ks⟩
 · have F:=zwd (zoX HK.out)
   obtain rfl:m3=0:=K6.out.1.symm
   refine(zmn g K3 d3 w6 G6.out).mono ?_
   rintro e w7 ⟨rfl,hb7⟩
   exact⟨rfl,(P6.out.grow (zak.below hb7)).below,.inl ⟨F.out,rfl⟩⟩
 refine(zgi _ g K3 m3 d3 s ks w6 HO.out G6.out K6.out).mono ?_
 rintro e w7 ⟨As,ns,cs,Ks,ms,ds,K4,m4,d4,rfl,hin7,hg7,hk7,hgr7⟩
 have P7:=zwd (P6.out.grow hgr7)
 have N7:=zwd (N6.out.grow hgr7)
 have F:=zwd (zmp HK.out)
 have hmem:s∈x.kids:=by rw[HK.out];simp
 have hnm:n∈x.kids:=by rw[HK.out];simp
 have W0:=zwd (hwr n hnm)
 have hwn:wt n<30000:=by have:=zcx hnm;omega
 have hbody:s.body.length<=30000:=by have h1:=zcx hmem;have h2:=zdc s;have h3:=zbq s.kids;omega
 have CB:=zwd (zmo s _ w7 (T.InP.in _ hin7) hbody)
 clear P6 N6 G6 K6 hin7 hg7 hk7 hgr7 HK hmem hnm hwr
 go_wp2_with fail
 refine CB.out.mono ?_
 rintro e w8 ⟨hb8,hways⟩
 have P8:=zwd (P7.out.grow (zak.below hb8))
 have N8:=zwd (N7.out.grow (zak.below hb8))
 clear CB P7 N7 hb8
 rcases hways with⟨h0,a8,c8,rfl,hr8,hn8,hc8⟩|⟨h0,rfl⟩
 rotate_left
 · have F2:Hid (za3 x= .error 2):=by rw[F.out];exact if_neg (fun h=>h0 h.1)
   exact⟨rfl,P8.out.below,.inl ⟨F2.out,rfl⟩⟩
 have F2:Hid (za3 x=if zaW (zaL n (ofZ s).1) x=true then .ok (n,(zao n).1,(ofZ s).1)else .error 2):=by rw[F.out];simp[h0,Hid]
 have hsl:(ofZ s).1.length<=30000:=Nat.le_trans (zue s) hbody
 clear h0 F hbody
 generalize(ofZ s).1=sig at*
 have R8:=zwd hr8
 have M8:=zwd hn8
 clear hr8 hn8
 have IN:=zwd (T.InP.in _ N8.out.has)
 have IX:=zwd (T.InP.in _ P8.out.has)
 have CS:=zwd (fun W (hW:Below w8.heap.size w8 W)=>zi8 n _ a8 sig.length c8 sig W (T.In.below hW n IN.out) (R8.out.below hW) (by omega) M8.out)
 have l0:∀W,zak (w.heap.size+1) w8.drew W->W.cell? ⟨gn,0,none⟩=some (.int .i64 n.tag):=fun W hW=>zak.cell hW LG.out (N8.out.blk.cell 0)
 have l1:∀W,zak (w.heap.size+1) w8.drew W->W.cell? ⟨gn,1,none⟩=some (.slice An nn cn):=fun W hW=>zak.cell hW LG.out (N8.out.blk.cell 1)
 have l2:∀W,zak (w.heap.size+1) w8.drew W->W.cell? ⟨gn,2,none⟩=some (.slice Kn mn dn):=fun W hW=>zak.cell hW LG.out (N8.out.blk.cell 2)
 have k0:∀W,zak (w.heap.size+1) w8.drew W->W.cell? ⟨w.heap.size,0,none⟩=some (.int .i64 x.tag):=fun W hW=>zak.cell hW (by omega) (P8.out.box.cell 0)
 have k1:∀W,zak (w.heap.size+1) w8.drew W->W.cell? ⟨w.heap.size,1,none⟩=some (.slice A nb c):=fun W hW=>zak.cell hW (by omega) (P8.out.box.cell 1)
 have k2:∀W,zak (w.heap.size+1) w8.drew W->W.cell? ⟨w.heap.size,2,none⟩=some (.slice K m d):=fun W hW=>zak.cell hW (by omega) (P8.out.box.cell 2)
 go_wp2_with fail
 refine zaa (zak (w.heap.size+1)) (zak.refl _) zak.trans ((0,false)::(1,false)::(3,false)::(2,true)::(4,true)::(5,true)::[]) (by kernel_rfl) (by kernel_rfl) rfl (by kernel_rfl) (fun _ _ _ _ _ h=>h) ?_
 repeat(refine zab _ rfl (by rfl) (fun W hW=>by go_simp;first|done|rfl) ?_;simp only[Act.put,zwe,zwg,zwf])
 clear l0 l1 l2 k0 k1 k2
 refine zad rfl (by rfl) (fun K1 hK1=> ?_)
 go_simp
 refine(CS.out w8.drew (Below.refl _ _).drew).mono ?_
 rintro e w9 ⟨A9,n9,c9,K9,m9,d9,rfl,hin9,hb9⟩
 refine hK1 _ _ (zak.below hb9) ?_
 have E9:Below w8.heap.size w8 w9:=Ext.of_drew hb9
 have CE:=zwd (zva (zaL n sig) x _ _ w9 hin9 (T.In.below E9 x IX.out))
 have P9:=zwd (P8.out.grow (zak.below E9))
 have N9:=zwd (N8.out.grow (zak.below E9))
 have R9:=zwd (R8.out.below E9)
 clear hK1 K1 CS hb9 hin9 E9 P8 N8 R8 IN IX
 refine zad rfl (by rfl) (fun K1 hK1=> ?_)
 go_simp
 refine CE.out.mono ?_
 rintro e w10 ⟨rfl,hb10⟩
 refine hK1 _ _ (zak.below hb10) ?_
 have P10:=zwd (P9.out.grow (zak.below hb10))
 have N10:=zwd (N9.out.grow (zak.below hb10))
 have R10:=zwd (R9.out.below hb10)
 clear hK1 K1 CE hb10 P9 N9 R9
 refine zad rfl (by rfl) (fun K1 hK1=> ?_)
 go_simp
 refine(zoR _ w10).mono ?_
 rintro e w11 ⟨rfl,⟨hb,rfl⟩|⟨hb,rfl⟩⟩
 rotate_left
 · have F3:Hid (za3 x= .error 2):=by rw[F2.out,hb];rfl
   exact⟨rfl,P10.out.below,.inl ⟨F3.out,rfl⟩⟩
 refine hK1 _ _ (zak.refl _ _) ?_
 have F3:Hid (za3 x= .ok (n,(zao n).1,sig)):=by rw[F2.out,hb];rfl
 clear hK1 K1 hb F2
 refine zai ?_
 go_wp2_with fail
 have l0:∀W,zak (w.heap.size+1) w11.drew W->W.cell? ⟨gn,0,none⟩=some (.int .i64 n.tag):=fun W hW=>zak.cell hW LG.out (N10.out.blk.cell 0)
 have l1:∀W,zak (w.heap.size+1) w11.drew W->W.cell? ⟨gn,1,none⟩=some (.slice An nn cn):=fun W hW=>zak.cell hW LG.out (N10.out.blk.cell 1)
 have l2:∀W,zak (w.heap.size+1) w11.drew W->W.cell? ⟨gn,2,none⟩=some (.slice Kn mn dn):=fun W hW=>zak.cell hW LG.out (N10.out.blk.cell 2)
 refine zaa (zak (w.heap.size+1)) (zak.refl _) zak.trans ((0,false)::(1,false)::(6,false)::(2,true)::(3,false)::(4,false)::(5,true)::(7,false)::(8,true)::[]) (by kernel_rfl) (by kernel_rfl) rfl (by kernel_rfl) (fun _ _ _ _ _ h=>h) ?_
 repeat(refine zab _ rfl (by rfl) (fun W hW=>by go_simp;first|done|rfl) ?_;simp only[Act.put,zwe,zwg,zwf])
 clear l0 l1 l2
 have CW:=zwd (zi7 n _ w11.drew (T.In.below (w:=w11) (Below.refl _ _).drew n (T.InP.in _ N10.out.has)) (by omega))
 refine zad rfl (by rfl) (fun K1 hK1=> ?_)
 go_simp
 refine CW.out.mono ?_
 rintro e w12 ⟨a12,c12,rfl,hr12,hn12,hb12,hl12⟩
 refine hK1 _ _ (zak.below hb12) ?_
 have E12:Below w11.heap.size w11 w12:=Ext.of_drew hb12
 have P12:=zwd (P10.out.grow (zak.below E12))
 have N12:=zwd (N10.out.grow (zak.below E12))
 have R12:=zwd (R10.out.below E12)
 have Q12:=zwd hr12
 have V12:=zwd (And.intro hn12 hl12)
 clear hK1 K1 CW hb12 E12 P10 N10 R10 hr12 hn12 hl12
 rw[W0.out]
 repeat(refine zab _ rfl (by rfl) (fun W hW=>by go_simp;first|done|rfl) ?_;simp only[Act.put,zwe,zwg,zwf])
 refine zad rfl (by rfl) (fun K1 hK1=> ?_)
 go_simp
 refine(zi4 a12 _ c12 w12).mono ?_
 rintro e w13 ⟨rfl,rfl⟩
 refine hK1 _ _ (zak.refl _ _) ?_
 clear hK1 K1
 repeat(refine zab _ rfl (by rfl) (fun W hW=>by go_simp;first|done|rfl) ?_;simp only[Act.put,zwe,zwg,zwf])
 have s0:=P12.out.res.cell 0
 have s1:=P12.out.res.cell 1
 have s2:=P12.out.res.cell 2
 have s3:=P12.out.res.cell 3
 have s4:=P12.out.res.cell 4
 have f0:=P12.out.res.free 0
 have f1:=P12.out.res.free 1
 have f2:=P12.out.res.free 2
 have f3:=P12.out.res.free 3
 have f4:=P12.out.res.free 4
 refine zad rfl (by rfl) (fun K1 hK1=> ?_)
 go_simp
 refine hK1 _ _ (zdC _ _ _ _ _ _ _) ?_
 clear hK1 K1 s0 s1 s2 s3 s4 f0 f1 f2 f3 f4
 refine zai ?_
 go_wp2_with fail
 exact zlo rfl rfl P12.out.res (Nat.le_succ _) P12.out.below F3.out HR.out N12.out.has Q12.out V12.out R12.out M8.out
end Go.Proofs.YtpgahclpbdpbnaaGreatDoor
