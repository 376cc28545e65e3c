import Derived.Test.YtpgahclpbdpbnaaGreatDoorGAV
import Derived.Test.YtpgahclpbdpbnaaGreatDoorGAU
import Derived.Test.YtpgahclpbdpbnaaGreatDoorGAC
import Derived.Deep.Cut
import Derived.Test.YtpgahclpbdpbnaaGreatDoorGAP
import Derived.Test.YtpgahclpbdpbnaaGreatDoorGAI
import Derived.Test.YtpgahclpbdpbnaaGreatDoorGAO
set_option maxHeartbeats 8000000
set_option maxRecDepth 100000
namespace Go.Proofs.YtpgahclpbdpbnaaGreatDoor
open Go.RowKit
set_option linter.unusedVariables false
set_option linter.unusedSimpArgs false
structure N16 (w wr:World) (c:CrlZ) (a:Option Addr) (ca:Nat) (p4 p6 p8:PB) (G:Nat):Prop where
 bx:Blk wr w.heap.size 25 (crlC c a c.ser.length ca)
 bel:Below w.heap.size w wr
 has0:zbj w c a ca
 rs:Blk wr (w.heap.size+1) 30 #[.int .i64 0,.slice none 0 0,.slice none 0 0]
 p1:zcT (w.heap.size+1) G wr p4
 p2:zcT (w.heap.size+1) G wr p6
 p3:zcT (w.heap.size+1) G wr p8
 lo:w.heap.size+1<G
theorem N16.go {w wr wr':World} {c:CrlZ} {a:Option Addr} {ca:Nat} {p4 p6 p8:PB} {G:Nat} (h:N16 w wr c a ca p4 p6 p8 G) (hb:Below G wr wr'):N16 w wr' c a ca p4 p6 p8 G:=
 have hl:=h.lo
 ⟨(hb.block _ (by omega)).trans h.bx,h.bel.trans (hb.mono (by omega)),h.has0,(hb.block _ (by omega)).trans h.rs,h.p1.go (Nat.le_refl _) hb,h.p2.go (Nat.le_refl _) hb,h.p3.go (Nat.le_refl _) hb,hl⟩
theorem zd2 (c:CrlZ) (a:Option Addr) (ca:Nat) (w:World) (h:zbj w c a ca) (hs:c.iss.size<=1000000) (hn:c.ser.length<=1000000):
 Calls Tryz.prog 8 #[.agg (crlC c a c.ser.length ca)] w (zaQ (nodeC c) w):=by
 have H0:=zwd h
 have X1:=(zbG.start h).blk.alloc (.cells #[.int .i64 0,.slice none 0 0,.slice none 0 0] 30)
 have S1:=Blk.new (w.alloc (.cells (crlC c a c.ser.length ca) 25)) 30 #[.int .i64 0,.slice none 0 0,.slice none 0 0]
 rw[show(w.alloc (.cells (crlC c a c.ser.length ca) 25)).heap.size=w.heap.size+1 by simp]at S1
 have b1:=(zac w (.cells (crlC c a c.ser.length ca) 25)).alloc (by simp) (.cells #[.int .i64 0,.slice none 0 0,.slice none 0 0] 30)
 have C1:Hid (zbG w _ w.heap.size c a ca):=zwd ⟨X1,b1,h.below b1⟩
 have R1:=zwd S1
 clear X1 S1 b1 h
 unfold crlC at C1 R1⊢
 go_enter Tryz.func8,Tryz.ntmps8
 obtain⟨g0,g1,g2,g3,g4⟩:=C1.out.cells
 go_wp2_with fail
 generalize hw1:(w.alloc (.cells #[.string c.iss,.int .u32 c.num,.int .i64 c.fr,.int .i64 c.to,.slice a c.ser.length ca] 25)).alloc (.cells #[.int .i64 0,.slice none 0 0,.slice none 0 0] 30)=w1 at*
 refine(zgw c a ca w1 C1.out.has hs hn).mono ?_
 rintro e w2 ⟨rfl,hb⟩
 have C2:=zwd (C1.out.go hb)
 have R2:=zwd (R1.out.below hb R1.out.lt)
 clear hw1 C1 R1 hb g0 g1 g2 g3 g4
 obtain⟨g0,g1,g2,g3,g4⟩:=C2.out.cells
 by_cases hr:zaO c
 rotate_left
 · have F:Hid (nodeC c=(zbz,1)):=if_neg hr
   rw[decide_eq_false hr]
   clear hr
   obtain⟨p0,p1,p2,f0,f1,f2⟩:=R2.out.facts
   go_wp2_with fail
   have ZI:zbz.InP (fun b=>w.heap.size<=b/\ b≠w.heap.size+1) w2 (.agg #[.int .i64 0,.slice none 0 0,.slice none 0 0]):=zeF (zs:=[]) rfl (Row.nil _ _) (by simp) ⟨fun _=>rfl,Nat.le_refl _⟩ (fun h=>absurd h (by simp))
   exact zcO (x:=(zbz,1)) (A:=none) (n:=0) (c:=0) (K:=none) (m:=0) (d:=0) F.out rfl rfl rfl R2.out (Nat.le_succ _) C2.out.bel ZI
 have F:Hid (nodeC c=(crlT c,0)):=if_pos hr
 have HR:=zwd hr
 rw[decide_eq_true hr]
 clear hr
 have s2:w.heap.size+1<w2.heap.size:=R2.out.lt
 go_wp2_with fail
 refine(zf3 c.iss w2 hs).mono ?_
 rintro e w3 ⟨A3,n3,c3,K3,m3,d3,rfl,hin,hb⟩
 have z4:(w3.alloc (.cells #[.int .i64 (zaX c.iss).1.tag,.slice A3 n3 c3,.slice K3 m3 d3] 30)).heap.size=w3.heap.size+1:=by simp
 have Q4:=zcT.new (lo:=w.heap.size+1) hin s2 hb.size
 have C4:=zwd ((C2.out.go hb).go (zac w3 (.cells #[.int .i64 (zaX c.iss).1.tag,.slice A3 n3 c3,.slice K3 m3 d3] 30)))
 have R4:=zwd ((R2.out.below hb R2.out.lt).alloc (.cells #[.int .i64 (zaX c.iss).1.tag,.slice A3 n3 c3,.slice K3 m3 d3] 30))
 have l4:w.heap.size+1<w3.heap.size:=Nat.lt_of_lt_of_le s2 hb.size
 clear C2 R2 hin hb g0 g1 g2 g3 g4 s2
 obtain⟨g0,g1,g2,g3,g4⟩:=C4.out.cells
 go_wp2_with fail
 generalize w3.alloc (.cells #[.int .i64 (zaX c.iss).1.tag,.slice A3 n3 c3,.slice K3 m3 d3] 30)=w4 at*
 obtain⟨p4,⟨e40,e41,e42,e43,e44,e45,e46,e47⟩,P4⟩:∃p:PB,(w3.heap.size=p.g/\ (zaX c.iss).1=p.t/\ A3=p.A/\ n3=p.n/\ c3=p.c/\ K3=p.K/\ m3=p.m/\ d3=p.d)/\ zcT (w.heap.size+1) (p.g+1) w4 p:=⟨⟨w3.heap.size,_,A3,n3,c3,K3,m3,d3⟩,⟨rfl,rfl,rfl,rfl,rfl,rfl,rfl,rfl⟩,Q4⟩
 rw[e40]at z4 l4⊢
 replace P4:=zwd P4
 clear Q4 e40 e42 e43 e44 e45 e46 e47
 refine(zed c.fr w4).mono ?_
 rintro e w5 ⟨S5,ok5,hR,A5,n5,c5,K5,m5,d5,rfl,hin,hb⟩
 rw[zeU hR]at hin⊢
 have z6:(w5.alloc (.cells #[.int .i64 (momZ c.fr).1.tag,.slice A5 n5 c5,.slice K5 m5 d5] 30)).heap.size=w5.heap.size+1:=by simp
 have E6:=hb.trans ((zac w5 (.cells #[.int .i64 (momZ c.fr).1.tag,.slice A5 n5 c5,.slice K5 m5 d5] 30)).mono hb.size)
 have Q6:=zcT.new (lo:=w.heap.size+1) hin (by omega) hb.size
 have C6:=zwd (C4.out.go E6)
 have R6:=zwd (R4.out.below E6 R4.out.lt)
 replace P4:=zwd ((P4.out.go (B:=w4.heap.size) (by omega) E6).up (G':=w5.heap.size) (by have:=hb.size;omega))
 have l6:p4.g+1<=w5.heap.size:=by have:=hb.size;omega
 clear C4 R4 hin hb hR g0 g1 g2 g3 g4 E6
 obtain⟨g0,g1,g2,g3,g4⟩:=C6.out.cells
 go_wp2_with fail
 generalize w5.alloc (.cells #[.int .i64 (momZ c.fr).1.tag,.slice A5 n5 c5,.slice K5 m5 d5] 30)=w6 at*
 obtain⟨p6,⟨e60,e61,e62,e63,e64,e65,e66,e67⟩,P6⟩:∃p:PB,(w5.heap.size=p.g/\ (momZ c.fr).1=p.t/\ A5=p.A/\ n5=p.n/\ c5=p.c/\ K5=p.K/\ m5=p.m/\ d5=p.d)/\ zcT (w.heap.size+1) (p.g+1) w6 p:=⟨⟨w5.heap.size,_,A5,n5,c5,K5,m5,d5⟩,⟨rfl,rfl,rfl,rfl,rfl,rfl,rfl,rfl⟩,Q6⟩
 rw[e60]at z6 l6 P4⊢
 replace P6:=zwd P6
 clear Q6 e60 e62 e63 e64 e65 e66 e67
 refine(zed c.to w6).mono ?_
 rintro e w7 ⟨S7,ok7,hR,A7,n7,c7,K7,m7,d7,rfl,hin,hb⟩
 rw[zeU hR]at hin⊢
 have z8:(w7.alloc (.cells #[.int .i64 (momZ c.to).1.tag,.slice A7 n7 c7,.slice K7 m7 d7] 30)).heap.size=w7.heap.size+1:=by simp
 have E8:=hb.trans ((zac w7 (.cells #[.int .i64 (momZ c.to).1.tag,.slice A7 n7 c7,.slice K7 m7 d7] 30)).mono hb.size)
 have Q8:=zcT.new (lo:=w.heap.size+1) hin (by omega) hb.size
 have C8:=zwd (C6.out.go E8)
 have R8:=zwd (R6.out.below E8 R6.out.lt)
 replace P4:=zwd ((P4.out.go (B:=w6.heap.size) (by omega) E8).up (G':=w7.heap.size+1) (by have:=hb.size;omega))
 replace P6:=zwd ((P6.out.go (B:=w6.heap.size) (by omega) E8).up (G':=w7.heap.size+1) (by have:=hb.size;omega))
 have l8:p6.g+1<=w7.heap.size:=by have:=hb.size;omega
 clear C6 R6 hin hb hR g0 g1 g2 g3 g4 E8
 obtain⟨g0,g1,g2,g3,g4⟩:=C8.out.cells
 go_wp2_with fail
 generalize w7.alloc (.cells #[.int .i64 (momZ c.to).1.tag,.slice A7 n7 c7,.slice K7 m7 d7] 30)=w8 at*
 obtain⟨p8,⟨e80,e81,e82,e83,e84,e85,e86,e87⟩,P8⟩:∃p:PB,(w7.heap.size=p.g/\ (momZ c.to).1=p.t/\ A7=p.A/\ n7=p.n/\ c7=p.c/\ K7=p.K/\ m7=p.m/\ d7=p.d)/\ zcT (w.heap.size+1) (p.g+1) w8 p:=⟨⟨w7.heap.size,_,A7,n7,c7,K7,m7,d7⟩,⟨rfl,rfl,rfl,rfl,rfl,rfl,rfl,rfl⟩,Q8⟩
 rw[e80]at z8 l8 P4 P6⊢
 have N8:Hid (N16 w w8 c a ca p4 p6 p8 (p8.g+1)):=zwd ⟨C8.out.blk,C8.out.bel,H0.out,R8.out,P4.out,P6.out,P8,by omega⟩
 have TT:Hid (crlT c= .node 48 [] [p4.t,intT c.num,.node 48 [] [p6.t,p8.t],serT c.ser]):=zwd (by unfold crlT;rw[e41,e61,e81])
 clear Q8 e80 e82 e83 e84 e85 e86 e87 e41 e61 e81 C8 R8 P4 P6 P8 z4 z6 l4 l6 l8 g0 g1 g2 g3 g4
 have N9:=zwd (N8.out.go ((zac w8 (.cells #[.int .i64 48,.slice none 0 0,.slice none 0 0] 30)).mono (Nat.le_of_eq z8.symm)))
 have L9:=Blk.new w8 30 #[.int .i64 48,.slice none 0 0,.slice none 0 0]
 have KO9:Hid (KOut w (p8.g+1+1) (w8.alloc (.cells #[.int .i64 48,.slice none 0 0,.slice none 0 0] 30)) (.slice none 0 0) ((c.ser.take 0).map intT)):=zwd (KOut.start N9.out.bel (by have:=N8.out.bel.size;omega) (by simp;omega))
 rw[z8]at L9
 replace L9:=zwd L9
 clear N8 z8
 generalize w8.alloc (.cells #[.int .i64 48,.slice none 0 0,.slice none 0 0] 30)=w9 at*
 generalize p8.g+1=G at*
 go_loopw [11] (fun i wr=>∃(k:Nat) (V:Value),k<=c.ser.length/\ i= .int .i64 (k:Int)/\ N16 w wr c a ca p4 p6 p8 G/\ Blk wr G 30 #[.int .i64 48,.slice none 0 0,V]/\ KOut w (G+1) wr V ((c.ser.take k).map intT)) (fun i _=>c.ser.length-(intOf i).toNat)
 case atStart=>exact⟨0,_,Nat.zero_le _,rfl,N9.out,L9.out,KO9.out⟩
 case round=>
  obtain⟨k,V,hk,rfl,hn1,hl1,hko⟩:=hrel
  have NS:=zwd hn1
  have LB:=zwd hl1
  have KO:=zwd hko
  clear hn1 hl1 hko N9 L9 KO9
  obtain⟨g0,g1,g2,g3,g4⟩:=(zbG.mk NS.out.bx NS.out.bel (NS.out.has0.below NS.out.bel)).cells
  by_cases hlt:k<c.ser.length
  · have tI:decide ((k:Int)<(c.ser.length:Int))=true:=by simp;omega
    obtain⟨b,off,hab,hb,hc⟩:=NS.out.has0.row.2.2 (by omega)
    subst hab
    have kI:(k:Int)<(c.ser.length:Int):=by omega
    have cE:=(NS.out.bel.cell (p:=⟨b,off+k,none⟩) hb).trans (hc k hlt)
    have TK:Hid ((c.ser.take (k+1)).map intT=(c.ser.take k).map intT++[intT (c.ser[k]?.getD 0)]):=zwd (by
     rw[List.take_add_one,List.map_append,List.getElem?_eq_getElem hlt]
     rfl)
    have XR:=NS.out.has0.row.num k
    have KL:Hid (((c.ser.take k).map intT).length=k):=zwd (by rw[List.length_map,List.length_take];omega)
    have kx:=zd1 XR
    have VL:=zwd (fun b (e:V.ownBlock=some b)=>(KO.out.lt e))
    have LO:=zwd NS.out.lo
    clear hc
    generalize c.ser[k]?.getD 0=x at*
    go_upto_region 10 with fail
    refine zb6 (zb9 G V) (zb9.refl _ _) zb9.trans (.take 0 (.take 2 (.take 3 (.take 4 (.take 5 (.take 6 (.take 7 (.fork 1 (.sole 8 (.sole 9 (.sole 10 (.take 11 (.sole 12 .fin))))) 8 (.fork 1 (.sole 9 (.sole 10 (.take 11 (.sole 12 .fin)))) 9 (.sole 1 (.sole 10 (.take 11 (.sole 12 .fin))))))))))))) (by kernel_rfl) (by kernel_rfl) rfl (by kernel_rfl) (fun _ _ _ _ _ h=>h) ?_
    change zcU _ _ _ _ _ _ (wr.drewN 1)
    have D1:=zaE wr 1
    have cE':=(D1.cell (p:=⟨b,off+k,none⟩) (by have:=NS.out.bel.size;show b<wr.heap.size;omega)).trans cE
    have g4':=(D1.cell (p:=⟨w.heap.size,4,none⟩) NS.out.bx.lt).trans g4
    replace NS:=zwd (NS.out.go (D1.mono (Nat.le_of_lt LB.out.lt)))
    replace LB:=zwd (LB.out.below D1 LB.out.lt)
    replace KO:=zwd (KO.out.below D1)
    clear D1 cE g0 g1 g2 g3 g4
    generalize wr.drewN 1=w3 at*
    have E1:∀W,zb9 G V w3 W->W.cell? ⟨w.heap.size,4,none⟩=some (.slice (some ⟨b,off,none⟩) c.ser.length ca):=fun W hW=>hW.cell NS.out.bx.lt (by have:=LO.out;omega) (fun e=>by have:=(VL.out _ e).1;have:=LO.out;omega) g4'
    have E2:∀W,zb9 G V w3 W->W.cell? ⟨b,off+k,none⟩=some (.int .u32 x):=fun W hW=>hW.cell (by have:=NS.out.bel.size;omega) (by have:=LO.out;omega) (fun e=>by have:=(VL.out _ e).1;have:=LO.out;omega) cE'
    clear cE' g4'
    repeat' (first
     |(refine zbQ _ rfl (by rfl) (fun W hW=>by go_simp;first|done|rfl) ?_;simp only[Act.put,zwe,zwg,zwf])
     |(refine zef ?_ ?_)
     |((first|refine zax (zam rfl (by rfl) (fun K1 hK1=> ?_))|refine zam rfl (by rfl) (fun K1 hK1=> ?_))
       refine zh4 _ _ (zmv (.tmp 42) rfl G 2 V rfl (LB.out.cell 2)) ?_
       refine hK1 _ _ (zb9.refl _ _ _) ?_
       clear hK1 K1
       try simp only[Act.put,zwe,zwg,zwf])
     |((first|refine zax (zam rfl (by rfl) (fun K1 hK1=> ?_))|refine zam rfl (by rfl) (fun K1 hK1=> ?_))
       refine zo1 I8.out _ rfl (by kernel_rfl) ?_
       intro H w5 hk5 hb5
       refine hK1 _ _ (zb9.below hb5) ?_
       have K5:=zwd hk5
       replace NS:=zwd (NS.out.go (hb5.mono (Nat.le_of_lt LB.out.lt)))
       replace LB:=zwd (LB.out.below hb5 LB.out.lt)
       replace KO:=zwd (KO.out.below hb5)
       clear hK1 K1 hk5 hb5 I8
       try simp only[Act.put,zwe,zwg,zwf])
     |((first|refine zax (zam rfl (by rfl) (fun K1 hK1=> ?_))|refine zam rfl (by rfl) (fun K1 hK1=> ?_))
       refine zeX KO.out (.tmp 43) (.tmp 51) rfl rfl rfl K5.out (by have:=HR.out.2.2.1;rw[KL.out];omega) ?_
       intro V6 w6 ho6 hs6 hb6 hk6
       refine hK1 _ _ ⟨hs6,fun c hc _ hv=>hk6 c hc hv⟩ ?_
       have O6:=zwd ho6
       replace NS:=zwd (NS.out.go (hb6.mono (Nat.le_succ _)))
       have L6:Hid (Blk w6 G 30 #[.int .i64 48,.slice none 0 0,V]):=zwd ((hb6.block G (Nat.lt_succ_self _)).trans LB.out)
       clear hK1 K1 ho6 hs6 hb6 hk6 K5 KO LB
       try simp only[Act.put,zwe,zwg,zwf])
     |((first|refine zax (zam rfl (by rfl) (fun K1 hK1=> ?_))|refine zam rfl (by rfl) (fun K1 hK1=> ?_))
       obtain⟨a6,c6,hV6⟩:=O6.out.form
       refine zj0 28 (.tmp 53) (.tmp 52) rfl rfl G 2 V6 rfl rfl L6.out (show 2<3 by decide) (by kernel_rfl) (by rw[hV6];rfl) (by rw[hV6];rfl) ?_
       refine hK1 _ _ (zb9.cellS _ _ _ _ _) ?_
       have N7:=zwd (NS.out.go ((Below.refl G w6).setCell (p:=⟨G,2,none⟩) (Nat.le_refl _) V6))
       have L7:=zwd (L6.out.set 2 V6)
       have O7:=zwd (O6.out.over (Over.cell (g:=G) (j:=2) w6 V6 (Nat.lt_succ_self _)) (O6.out.bel.setCell (p:=⟨G,2,none⟩) (by have:=LO.out;show w.heap.size<=G;omega) V6))
       clear hK1 K1 hV6 NS L6 O6
       generalize w6.setCell ⟨G,2,none⟩ V6=w7 at*
       try simp only[Act.put,zwe,zwg,zwf])
     |((first|refine zax (zam rfl (by rfl) (fun K1 hK1=> ?_))|refine zam rfl (by rfl) (fun K1 hK1=> ?_))
       go_simp
       refine(zjq x _ XR.1 (by omega)).mono ?_
       rintro e w4 ⟨A8,n8,c8,K8,m8,d8,rfl,hin8,hb8⟩
       refine hK1 _ _ (zb9.below hb8) ?_
       have I8:Hid ((intT x).InP (fun b=>G+1<=b/\ V.ownBlock≠some b) w4 (.agg #[.int .i64 (intT x).tag,.slice A8 n8 c8,.slice K8 m8 d8])):=zwd (T.InP.keep (fun b _ hp=>⟨⟨Nat.le_trans KO.out.hi hp,fun e=>by have:=(KO.out.lt e).2;omega⟩,rfl⟩) (Nat.le_refl _) _ hin8)
       replace NS:=zwd (NS.out.go (hb8.mono (Nat.le_of_lt LB.out.lt)))
       replace LB:=zwd (LB.out.below hb8 LB.out.lt)
       replace KO:=zwd (KO.out.below hb8)
       clear hK1 K1 hb8 hin8
       try simp only[Act.put,zwe,zwg,zwf])
     |refine zdj ?_)
    all_goals(
     go_wp2_with fail
     go_roundw
     case rel=>exact⟨k+1,V6,by omega,by go_num,N7.out,L7.out,by rw[TK.out];exact O7.out⟩
     case measure=>simp[intOf];omega)
  · have tI:decide ((k:Int)<(c.ser.length:Int))=false:=by simp;omega
    have hke:k=c.ser.length:=by omega
    have KS:Hid ((c.ser.take k).map intT=c.ser.map intT):=zwd (by rw[hke,List.take_length])
    obtain⟨AV,cV,hV⟩:=KO.out.form
    have KL:((c.ser.take k).map intT).length=c.ser.length:=by rw[KS.out,List.length_map]
    rw[KL]at hV
    subst hV
    have lo:=NS.out.lo
    have h1:=NS.out.p1.lw
    have h2:=NS.out.p2.lw
    have h3:=NS.out.p3.lw
    have XR:=NS.out.has0.num
    have kx:=zd1 XR
    have I4:Hid (p4.t.InP (fun b=>w.heap.size<=b/\ b≠w.heap.size+1) wr (.agg #[.int .i64 p4.t.tag,.slice p4.A p4.n p4.c,.slice p4.K p4.m p4.d])):=zwd (T.InP.keep (fun b _ hp=>⟨by omega,rfl⟩) (Nat.le_refl _) _ NS.out.p1.has)
    have I6:Hid (p6.t.InP (fun b=>w.heap.size<=b/\ b≠w.heap.size+1) wr (.agg #[.int .i64 p6.t.tag,.slice p6.A p6.n p6.c,.slice p6.K p6.m p6.d])):=zwd (T.InP.keep (fun b _ hp=>⟨by omega,rfl⟩) (Nat.le_refl _) _ NS.out.p2.has)
    have I8:Hid (p8.t.InP (fun b=>w.heap.size<=b/\ b≠w.heap.size+1) wr (.agg #[.int .i64 p8.t.tag,.slice p8.A p8.n p8.c,.slice p8.K p8.m p8.d])):=zwd (T.InP.keep (fun b _ hp=>⟨by omega,rfl⟩) (Nat.le_refl _) _ NS.out.p3.has)
    have IL0:=KO.out.done (z:=48) rfl
    rw[KS.out]at IL0
    have IL:Hid ((serT c.ser).InP (fun b=>w.heap.size<=b/\ b≠w.heap.size+1) wr (.agg #[.int .i64 48,.slice none 0 0,.slice AV c.ser.length cV])):=zwd (T.InP.keep (fun b _ (hp:G+1<=b)=>⟨by omega,rfl⟩) (Nat.le_refl _) _ IL0)
    have RS:=zwd NS.out.rs
    have BW:=zwd NS.out.bel
    have a0:∀W,zak (w.heap.size+1) wr.drew W->W.cell? ⟨p4.g,0,none⟩=some (.int .i64 p4.t.tag):=fun W hW=>zak.cell hW (by omega) (NS.out.p1.blk.cell 0)
    have a1:∀W,zak (w.heap.size+1) wr.drew W->W.cell? ⟨p4.g,1,none⟩=some (.slice p4.A p4.n p4.c):=fun W hW=>zak.cell hW (by omega) (NS.out.p1.blk.cell 1)
    have a2:∀W,zak (w.heap.size+1) wr.drew W->W.cell? ⟨p4.g,2,none⟩=some (.slice p4.K p4.m p4.d):=fun W hW=>zak.cell hW (by omega) (NS.out.p1.blk.cell 2)
    have b0:∀W,zak (w.heap.size+1) wr.drew W->W.cell? ⟨p6.g,0,none⟩=some (.int .i64 p6.t.tag):=fun W hW=>zak.cell hW (by omega) (NS.out.p2.blk.cell 0)
    have b1:∀W,zak (w.heap.size+1) wr.drew W->W.cell? ⟨p6.g,1,none⟩=some (.slice p6.A p6.n p6.c):=fun W hW=>zak.cell hW (by omega) (NS.out.p2.blk.cell 1)
    have b2:∀W,zak (w.heap.size+1) wr.drew W->W.cell? ⟨p6.g,2,none⟩=some (.slice p6.K p6.m p6.d):=fun W hW=>zak.cell hW (by omega) (NS.out.p2.blk.cell 2)
    have d0:∀W,zak (w.heap.size+1) wr.drew W->W.cell? ⟨p8.g,0,none⟩=some (.int .i64 p8.t.tag):=fun W hW=>zak.cell hW (by omega) (NS.out.p3.blk.cell 0)
    have d1:∀W,zak (w.heap.size+1) wr.drew W->W.cell? ⟨p8.g,1,none⟩=some (.slice p8.A p8.n p8.c):=fun W hW=>zak.cell hW (by omega) (NS.out.p3.blk.cell 1)
    have d2:∀W,zak (w.heap.size+1) wr.drew W->W.cell? ⟨p8.g,2,none⟩=some (.slice p8.K p8.m p8.d):=fun W hW=>zak.cell hW (by omega) (NS.out.p3.blk.cell 2)
    have e0:∀W,zak (w.heap.size+1) wr.drew W->W.cell? ⟨G,0,none⟩=some (.int .i64 48):=fun W hW=>zak.cell hW (by omega) (LB.out.cell 0)
    have e1:∀W,zak (w.heap.size+1) wr.drew W->W.cell? ⟨G,1,none⟩=some (.slice none 0 0):=fun W hW=>zak.cell hW (by omega) (LB.out.cell 1)
    have e2:∀W,zak (w.heap.size+1) wr.drew W->W.cell? ⟨G,2,none⟩=some (.slice AV c.ser.length cV):=fun W hW=>zak.cell hW (by omega) (LB.out.cell 2)
    have n1:∀W,zak (w.heap.size+1) wr.drew W->W.cell? ⟨w.heap.size,1,none⟩=some (.int .u32 c.num):=fun W hW=>zak.cell hW (by omega) g1
    have OZ:Hid (nodeC c=(.node 48 [] [p4.t,intT c.num,.node 48 [] [p6.t,p8.t],serT c.ser],0)):=zwd (by rw[F.out,TT.out])
    clear KL KS IL0 KO NS LB F TT h1 h2 h3 lo hke g0 g1 g2 g3
    go_upto_region 11 with fail
    clear g4 tI hlt
    refine zb6 (zak (w.heap.size+1)) (zak.refl _) zak.trans (.take 0 (.take 1 (.take 2 (.take 3 (.take 5 (.take 6 (.take 9 (.fork 4 (.sole 7 (.take 8 (.sole 10 (.take 11 (.sole 12 (.take 13 .fin)))))) 7 (.take 8 (.sole 4 (.sole 10 (.take 11 (.sole 12 (.take 13 .fin)))))))))))))) (by kernel_rfl) (by kernel_rfl) rfl (by kernel_rfl) (fun _ _ _ _ _ h=>h) ?_
    have D1:Below wr.heap.size wr wr.drew:=(Below.refl _ _).drew
    replace RS:=zwd (RS.out.below D1 RS.out.lt)
    replace BW:=zwd (BW.out.drew)
    replace I4:=zwd (T.InP.below D1 (fun _ h=>h) _ I4.out)
    replace I6:=zwd (T.InP.below D1 (fun _ h=>h) _ I6.out)
    replace I8:=zwd (T.InP.below D1 (fun _ h=>h) _ I8.out)
    replace IL:=zwd (T.InP.below D1 (fun _ h=>h) _ IL.out)
    clear D1
    generalize wr.drew=w3 at*
    repeat' (first
     |(refine zbQ _ rfl (by rfl) (fun W hW=>by go_simp;first|done|rfl) ?_;simp only[Act.put,zwe,zwg,zwf])
     |(refine zef ?_ ?_)
     |((first|refine zax (zam rfl (by rfl) (fun K1 hK1=> ?_))|refine zam rfl (by rfl) (fun K1 hK1=> ?_))
       go_simp
       refine(zjq c.num _ XR.1 (by omega)).mono ?_
       rintro e w4 ⟨An,nn,cn,Kn,mn,dn,rfl,hin,hb⟩
       refine hK1 _ _ (zak.below hb) ?_
       have s4:w.heap.size+1<_:=RS.out.lt
       have IN:Hid ((intT c.num).InP (fun b=>w.heap.size<=b/\ b≠w.heap.size+1) w4 (.agg #[.int .i64 (intT c.num).tag,.slice An nn cn,.slice Kn mn dn])):=zwd (T.InP.keep (fun b _ hp=>⟨⟨by omega,by omega⟩,rfl⟩) (Nat.le_refl _) _ hin)
       replace RS:=zwd (RS.out.below hb RS.out.lt)
       replace BW:=zwd (BW.out.trans (hb.mono BW.out.size))
       replace I4:=zwd (T.InP.below hb (fun _ h=>h) _ I4.out)
       replace IL:=zwd (T.InP.below hb (fun _ h=>h) _ IL.out)
       try replace I6:=zwd (T.InP.below hb (fun _ h=>h) _ I6.out)
       try replace I8:=zwd (T.InP.below hb (fun _ h=>h) _ I8.out)
       try replace IM:=zwd (T.InP.below hb (fun _ h=>h) _ IM.out)
       clear hK1 K1 hin hb s4
       try simp only[Act.put,zwe,zwg,zwf])
     |((first|refine zax (zam rfl (by rfl) (fun K1 hK1=> ?_))|refine zam rfl (by rfl) (fun K1 hK1=> ?_))
       go_simp
       have s4:=RS.out.lt
       have s5:=BW.out.size
       obtain⟨k2,hb⟩:=zj1 I6.out I8.out ⟨s5,by omega⟩
       refine hK1 _ _ (zak.below hb) ?_
       have IM:=zwd (k2.node (z:=48) (by decide))
       replace RS:=zwd (RS.out.below hb RS.out.lt)
       replace BW:=zwd (BW.out.trans (hb.mono BW.out.size))
       replace I4:=zwd (T.InP.below hb (fun _ h=>h) _ I4.out)
       replace IL:=zwd (T.InP.below hb (fun _ h=>h) _ IL.out)
       try replace IN:=zwd (T.InP.below hb (fun _ h=>h) _ IN.out)
       clear hK1 K1 hb s4 s5 I6 I8 k2
       try simp only[Act.put,zwe,zwg,zwf])
     |((first|refine zax (zam rfl (by rfl) (fun K1 hK1=> ?_))|refine zam rfl (by rfl) (fun K1 hK1=> ?_))
       go_simp
       have s4:=RS.out.lt
       have s5:=BW.out.size
       obtain⟨k4,hb⟩:=zh5 I4.out IN.out IM.out IL.out ⟨s5,by omega⟩
       refine hK1 _ _ (zak.below hb) ?_
       have K9:=zwd k4
       replace RS:=zwd (RS.out.below hb RS.out.lt)
       replace BW:=zwd (BW.out.trans (hb.mono BW.out.size))
       clear hb k4
       clear hK1 K1 s4 s5 I4 IN IM IL
       try simp only[Act.put,zwe,zwg,zwf])
     |((first|refine zax (zam rfl (by rfl) (fun K1 hK1=> ?_))|refine zam rfl (by rfl) (fun K1 hK1=> ?_))
       obtain⟨q0,q1,q2,f0,f1,f2⟩:=RS.out.facts
       go_simp
       refine hK1 _ _ (zcl _ _ _ _ _) ?_
       clear hK1 K1
       try simp only[Act.put,zwe,zwg,zwf])
     |refine zdj ?_)
    all_goals(
     go_wp2_with fail
     have K10:=K9.out.node (z:=48) rfl
     try simp only[World.size_alloc]at K10
     exact zcO (x:=(.node 48 [] [p4.t,intT c.num,.node 48 [] [p6.t,p8.t],serT c.ser],0)) OZ.out rfl rfl rfl RS.out (Nat.le_succ _) BW.out K10)
theorem zh7 (c:CrlZ) (a:Option Addr) (ca:Nat) (w:World) (h:zbj w c a ca) (hs:c.iss.size<=1000000) (hn:c.ser.length<=1000000):
 Calls Tryz.prog 7 #[.agg (crlC c a c.ser.length ca)] w (zaQ (nodeC c) w):=by
 have H0:=zwd h
 have X1:=(zbG.start h).blk.alloc (.cells #[.int .i64 0,.slice none 0 0,.slice none 0 0] 30)
 have S1:=Blk.new (w.alloc (.cells (crlC c a c.ser.length ca) 25)) 30 #[.int .i64 0,.slice none 0 0,.slice none 0 0]
 rw[show(w.alloc (.cells (crlC c a c.ser.length ca) 25)).heap.size=w.heap.size+1 by simp]at S1
 have b1:=(zac w (.cells (crlC c a c.ser.length ca) 25)).alloc (by simp) (.cells #[.int .i64 0,.slice none 0 0,.slice none 0 0] 30)
 have C1:Hid (zbG w _ w.heap.size c a ca):=zwd ⟨X1,b1,h.below b1⟩
 have R1:=zwd S1
 clear X1 S1 b1 h
 unfold crlC at C1 R1⊢
 go_enter Tryz.func7,Tryz.ntmps7
 obtain⟨g0,g1,g2,g3,g4⟩:=C1.out.cells
 go_wp2_with fail
 generalize hw1:(w.alloc (.cells #[.string c.iss,.int .u32 c.num,.int .i64 c.fr,.int .i64 c.to,.slice a c.ser.length ca] 25)).alloc (.cells #[.int .i64 0,.slice none 0 0,.slice none 0 0] 30)=w1 at*
 refine(zcP c a ca w1 C1.out.has hs hn).mono ?_
 rintro e w2 ⟨rfl,hb⟩
 have C2:=zwd (C1.out.go hb)
 have R2:=zwd (R1.out.below hb R1.out.lt)
 clear hw1 C1 R1 hb g0 g1 g2 g3 g4
 obtain⟨g0,g1,g2,g3,g4⟩:=C2.out.cells
 by_cases hr:zaO c
 rotate_left
 · have F:Hid (nodeC c=(zbz,1)):=if_neg hr
   rw[decide_eq_false hr]
   clear hr
   obtain⟨p0,p1,p2,f0,f1,f2⟩:=R2.out.facts
   go_wp2_with fail
   have ZI:zbz.InP (fun b=>w.heap.size<=b/\ b≠w.heap.size+1) w2 (.agg #[.int .i64 0,.slice none 0 0,.slice none 0 0]):=zeF (zs:=[]) rfl (Row.nil _ _) (by simp) ⟨fun _=>rfl,Nat.le_refl _⟩ (fun h=>absurd h (by simp))
   exact zcO (x:=(zbz,1)) (A:=none) (n:=0) (c:=0) (K:=none) (m:=0) (d:=0) F.out rfl rfl rfl R2.out (Nat.le_succ _) C2.out.bel ZI
 have F:Hid (nodeC c=(crlT c,0)):=if_pos hr
 have HR:=zwd hr
 rw[decide_eq_true hr]
 clear hr
 have s2:w.heap.size+1<w2.heap.size:=R2.out.lt
 go_wp2_with fail
 refine(text_any c.iss w2 hs).mono ?_
 rintro e w3 ⟨A3,n3,c3,K3,m3,d3,rfl,hin,hb⟩
 have z4:(w3.alloc (.cells #[.int .i64 (zaX c.iss).1.tag,.slice A3 n3 c3,.slice K3 m3 d3] 30)).heap.size=w3.heap.size+1:=by simp
 have Q4:=zcT.new (lo:=w.heap.size+1) hin s2 hb.size
 have C4:=zwd ((C2.out.go hb).go (zac w3 (.cells #[.int .i64 (zaX c.iss).1.tag,.slice A3 n3 c3,.slice K3 m3 d3] 30)))
 have R4:=zwd ((R2.out.below hb R2.out.lt).alloc (.cells #[.int .i64 (zaX c.iss).1.tag,.slice A3 n3 c3,.slice K3 m3 d3] 30))
 have l4:w.heap.size+1<w3.heap.size:=Nat.lt_of_lt_of_le s2 hb.size
 clear C2 R2 hin hb g0 g1 g2 g3 g4 s2
 obtain⟨g0,g1,g2,g3,g4⟩:=C4.out.cells
 go_wp2_with fail
 generalize w3.alloc (.cells #[.int .i64 (zaX c.iss).1.tag,.slice A3 n3 c3,.slice K3 m3 d3] 30)=w4 at*
 obtain⟨p4,⟨e40,e41,e42,e43,e44,e45,e46,e47⟩,P4⟩:∃p:PB,(w3.heap.size=p.g/\ (zaX c.iss).1=p.t/\ A3=p.A/\ n3=p.n/\ c3=p.c/\ K3=p.K/\ m3=p.m/\ d3=p.d)/\ zcT (w.heap.size+1) (p.g+1) w4 p:=⟨⟨w3.heap.size,_,A3,n3,c3,K3,m3,d3⟩,⟨rfl,rfl,rfl,rfl,rfl,rfl,rfl,rfl⟩,Q4⟩
 rw[e40]at z4 l4⊢
 replace P4:=zwd P4
 clear Q4 e40 e42 e43 e44 e45 e46 e47
 refine(zeq c.fr w4).mono ?_
 rintro e w5 ⟨S5,ok5,hR,A5,n5,c5,K5,m5,d5,rfl,hin,hb⟩
 rw[zeU hR]at hin⊢
 have z6:(w5.alloc (.cells #[.int .i64 (momZ c.fr).1.tag,.slice A5 n5 c5,.slice K5 m5 d5] 30)).heap.size=w5.heap.size+1:=by simp
 have E6:=hb.trans ((zac w5 (.cells #[.int .i64 (momZ c.fr).1.tag,.slice A5 n5 c5,.slice K5 m5 d5] 30)).mono hb.size)
 have Q6:=zcT.new (lo:=w.heap.size+1) hin (by omega) hb.size
 have C6:=zwd (C4.out.go E6)
 have R6:=zwd (R4.out.below E6 R4.out.lt)
 replace P4:=zwd ((P4.out.go (B:=w4.heap.size) (by omega) E6).up (G':=w5.heap.size) (by have:=hb.size;omega))
 have l6:p4.g+1<=w5.heap.size:=by have:=hb.size;omega
 clear C4 R4 hin hb hR g0 g1 g2 g3 g4 E6
 obtain⟨g0,g1,g2,g3,g4⟩:=C6.out.cells
 go_wp2_with fail
 generalize w5.alloc (.cells #[.int .i64 (momZ c.fr).1.tag,.slice A5 n5 c5,.slice K5 m5 d5] 30)=w6 at*
 obtain⟨p6,⟨e60,e61,e62,e63,e64,e65,e66,e67⟩,P6⟩:∃p:PB,(w5.heap.size=p.g/\ (momZ c.fr).1=p.t/\ A5=p.A/\ n5=p.n/\ c5=p.c/\ K5=p.K/\ m5=p.m/\ d5=p.d)/\ zcT (w.heap.size+1) (p.g+1) w6 p:=⟨⟨w5.heap.size,_,A5,n5,c5,K5,m5,d5⟩,⟨rfl,rfl,rfl,rfl,rfl,rfl,rfl,rfl⟩,Q6⟩
 rw[e60]at z6 l6 P4⊢
 replace P6:=zwd P6
 clear Q6 e60 e62 e63 e64 e65 e66 e67
 refine(zeq c.to w6).mono ?_
 rintro e w7 ⟨S7,ok7,hR,A7,n7,c7,K7,m7,d7,rfl,hin,hb⟩
 rw[zeU hR]at hin⊢
 have z8:(w7.alloc (.cells #[.int .i64 (momZ c.to).1.tag,.slice A7 n7 c7,.slice K7 m7 d7] 30)).heap.size=w7.heap.size+1:=by simp
 have E8:=hb.trans ((zac w7 (.cells #[.int .i64 (momZ c.to).1.tag,.slice A7 n7 c7,.slice K7 m7 d7] 30)).mono hb.size)
 have Q8:=zcT.new (lo:=w.heap.size+1) hin (by omega) hb.size
 have C8:=zwd (C6.out.go E8)
 have R8:=zwd (R6.out.below E8 R6.out.lt)
 replace P4:=zwd ((P4.out.go (B:=w6.heap.size) (by omega) E8).up (G':=w7.heap.size+1) (by have:=hb.size;omega))
 replace P6:=zwd ((P6.out.go (B:=w6.heap.size) (by omega) E8).up (G':=w7.heap.size+1) (by have:=hb.size;omega))
 have l8:p6.g+1<=w7.heap.size:=by have:=hb.size;omega
 clear C6 R6 hin hb hR g0 g1 g2 g3 g4 E8
 obtain⟨g0,g1,g2,g3,g4⟩:=C8.out.cells
 go_wp2_with fail
 generalize w7.alloc (.cells #[.int .i64 (momZ c.to).1.tag,.slice A7 n7 c7,.slice K7 m7 d7] 30)=w8 at*
 obtain⟨p8,⟨e80,e81,e82,e83,e84,e85,e86,e87⟩,P8⟩:∃p:PB,(w7.heap.size=p.g/\ (momZ c.to).1=p.t/\ A7=p.A/\ n7=p.n/\ c7=p.c/\ K7=p.K/\ m7=p.m/\ d7=p.d)/\ zcT (w.heap.size+1) (p.g+1) w8 p:=⟨⟨w7.heap.size,_,A7,n7,c7,K7,m7,d7⟩,⟨rfl,rfl,rfl,rfl,rfl,rfl,rfl,rfl⟩,Q8⟩
 rw[e80]at z8 l8 P4 P6⊢
 have N8:Hid (N16 w w8 c a ca p4 p6 p8 (p8.g+1)):=zwd ⟨C8.out.blk,C8.out.bel,H0.out,R8.out,P4.out,P6.out,P8,by omega⟩
 have TT:Hid (crlT c= .node 48 [] [p4.t,intT c.num,.node 48 [] [p6.t,p8.t],serT c.ser]):=zwd (by unfold crlT;rw[e41,e61,e81])
 have KO8:Hid (KOut w (p8.g+1) w8 (.slice none 0 0) ((c.ser.take 0).map intT)):=zwd (KOut.start N8.out.bel (by omega) (by omega))
 clear Q8 e80 e82 e83 e84 e85 e86 e87 e41 e61 e81 C8 R8 P4 P6 P8 z4 z6 l4 l6 l8 z8
 generalize p8.g+1=G at*
 go_loopw [10,12,38] (fun V sv i wr=>∃k:Nat,k<=c.ser.length/\ i= .int .i64 (k:Int)/\ N16 w wr c a ca p4 p6 p8 G/\ KOut w G wr V ((c.ser.take k).map intT)) (fun _ _ i _=>c.ser.length-(intOf i).toNat)
 case atStart=>exact⟨0,Nat.zero_le _,rfl,N8.out,KO8.out⟩
 case round=>
  obtain⟨k,hk,rfl,hn1,hko⟩:=hrel
  have NS:=zwd hn1
  have KO:=zwd hko
  clear hn1 hko N8 KO8 g0 g1 g2 g3 g4
  by_cases hlt:k<c.ser.length
  · have tI:decide ((k:Int)<(c.ser.length:Int))=true:=by simp;omega
    obtain⟨b,off,hab,hb,hc⟩:=NS.out.has0.row.2.2 (by omega)
    subst hab
    have kI:(k:Int)<(c.ser.length:Int):=by omega
    have cE:=(NS.out.bel.cell (p:=⟨b,off+k,none⟩) hb).trans (hc k hlt)
    have TK:Hid ((c.ser.take (k+1)).map intT=(c.ser.take k).map intT++[intT (c.ser[k]?.getD 0)]):=zwd (by
     rw[List.take_add_one,List.map_append,List.getElem?_eq_getElem hlt]
     rfl)
    have XR:=NS.out.has0.row.num k
    have LE:Hid (((c.ser.take k).map intT).length+1<=100000):=zwd (by have:=HR.out.2.2.1;rw[List.length_map,List.length_take];omega)
    have kx:=zd1 XR
    clear hc
    generalize c.ser[k]?.getD 0=x at*
    go_wp2_with (first
     |(go_at_call 24
       refine(zjK x _ XR.1 (by omega)).mono ?_
       rintro e w4 ⟨A8,n8,c8,K8,m8,d8,rfl,hin8,hb8⟩
       have I8:Hid ((intT x).InP (fun b=>G<=b/\ u10.ownBlock≠some b) w4 (.agg #[.int .i64 (intT x).tag,.slice A8 n8 c8,.slice K8 m8 d8])):=zwd (T.InP.keep (fun b _ hp=>⟨⟨Nat.le_trans KO.out.hi hp,fun e=>by have:=(KO.out.lt e).2;omega⟩,rfl⟩) (Nat.le_refl _) _ hin8)
       have NS4:=zwd (NS.out.go (hb8.mono KO.out.hi))
       have KO4:=zwd (KO.out.below hb8)
       clear hin8 hb8 NS KO)
     |((with_reducible refine zo0 45 I8.out ?_ ?_)
       (· rfl)
       intro H w6 hk6 hb6
       have KA:=zwd hk6
       have NS6:=zwd (NS4.out.go (hb6.mono KO4.out.hi))
       have KO6:=zwd (KO4.out.below hb6)
       clear hk6 hb6 I8 NS4 KO4)
     |((with_reducible refine zin 42 46 KO6.out ?_ ?_ KA.out LE.out ?_)
       (· rfl)
       (· rfl)
       intro V7 w7 ho7 hs7 hb7 hf7
       have K7:=zwd ho7
       have N7:=zwd (NS6.out.go hb7)
       clear ho7 hs7 hb7 hf7 KA KO6 NS6))
    go_roundw
    case rel=>exact⟨k+1,by omega,by go_num,N7.out,by rw[TK.out];exact K7.out⟩
    case measure=>simp[intOf];omega
  · have tI:decide ((k:Int)<(c.ser.length:Int))=false:=by simp;omega
    have hke:k=c.ser.length:=by omega
    have KS:Hid ((c.ser.take k).map intT=c.ser.map intT):=zwd (by rw[hke,List.take_length])
    obtain⟨AV,cV,hV⟩:=KO.out.form
    have KL:((c.ser.take k).map intT).length=c.ser.length:=by rw[KS.out,List.length_map]
    rw[KL]at hV
    subst hV
    have lo:=NS.out.lo
    have h1:=NS.out.p1.lw
    have h2:=NS.out.p2.lw
    have h3:=NS.out.p3.lw
    have XR:=NS.out.has0.num
    have kx:=zd1 XR
    have g1:=NS.out.bx.cell 1
    have I4:Hid (p4.t.InP (fun b=>w.heap.size<=b/\ b≠w.heap.size+1) wr (.agg #[.int .i64 p4.t.tag,.slice p4.A p4.n p4.c,.slice p4.K p4.m p4.d])):=zwd (T.InP.keep (fun b _ hp=>⟨by omega,rfl⟩) (Nat.le_refl _) _ NS.out.p1.has)
    have I6:Hid (p6.t.InP (fun b=>w.heap.size<=b/\ b≠w.heap.size+1) wr (.agg #[.int .i64 p6.t.tag,.slice p6.A p6.n p6.c,.slice p6.K p6.m p6.d])):=zwd (T.InP.keep (fun b _ hp=>⟨by omega,rfl⟩) (Nat.le_refl _) _ NS.out.p2.has)
    have I8:Hid (p8.t.InP (fun b=>w.heap.size<=b/\ b≠w.heap.size+1) wr (.agg #[.int .i64 p8.t.tag,.slice p8.A p8.n p8.c,.slice p8.K p8.m p8.d])):=zwd (T.InP.keep (fun b _ hp=>⟨by omega,rfl⟩) (Nat.le_refl _) _ NS.out.p3.has)
    have IL0:=KO.out.done (z:=48) rfl
    rw[KS.out]at IL0
    have IL:Hid ((serT c.ser).InP (fun b=>w.heap.size<=b/\ b≠w.heap.size+1) wr (.agg #[.int .i64 48,.slice none 0 0,.slice AV c.ser.length cV])):=zwd (T.InP.keep (fun b _ (hp:G<=b)=>⟨by omega,rfl⟩) (Nat.le_refl _) _ IL0)
    have RS:=zwd NS.out.rs
    have BW:=zwd NS.out.bel
    have a0:∀W,zak (w.heap.size+1) wr.drew W->W.cell? ⟨p4.g,0,none⟩=some (.int .i64 p4.t.tag):=fun W hW=>zak.cell hW (by omega) (NS.out.p1.blk.cell 0)
    have a1:∀W,zak (w.heap.size+1) wr.drew W->W.cell? ⟨p4.g,1,none⟩=some (.slice p4.A p4.n p4.c):=fun W hW=>zak.cell hW (by omega) (NS.out.p1.blk.cell 1)
    have a2:∀W,zak (w.heap.size+1) wr.drew W->W.cell? ⟨p4.g,2,none⟩=some (.slice p4.K p4.m p4.d):=fun W hW=>zak.cell hW (by omega) (NS.out.p1.blk.cell 2)
    have b0:∀W,zak (w.heap.size+1) wr.drew W->W.cell? ⟨p6.g,0,none⟩=some (.int .i64 p6.t.tag):=fun W hW=>zak.cell hW (by omega) (NS.out.p2.blk.cell 0)
    have b1:∀W,zak (w.heap.size+1) wr.drew W->W.cell? ⟨p6.g,1,none⟩=some (.slice p6.A p6.n p6.c):=fun W hW=>zak.cell hW (by omega) (NS.out.p2.blk.cell 1)
    have b2:∀W,zak (w.heap.size+1) wr.drew W->W.cell? ⟨p6.g,2,none⟩=some (.slice p6.K p6.m p6.d):=fun W hW=>zak.cell hW (by omega) (NS.out.p2.blk.cell 2)
    have d0:∀W,zak (w.heap.size+1) wr.drew W->W.cell? ⟨p8.g,0,none⟩=some (.int .i64 p8.t.tag):=fun W hW=>zak.cell hW (by omega) (NS.out.p3.blk.cell 0)
    have d1:∀W,zak (w.heap.size+1) wr.drew W->W.cell? ⟨p8.g,1,none⟩=some (.slice p8.A p8.n p8.c):=fun W hW=>zak.cell hW (by omega) (NS.out.p3.blk.cell 1)
    have d2:∀W,zak (w.heap.size+1) wr.drew W->W.cell? ⟨p8.g,2,none⟩=some (.slice p8.K p8.m p8.d):=fun W hW=>zak.cell hW (by omega) (NS.out.p3.blk.cell 2)
    have n1:∀W,zak (w.heap.size+1) wr.drew W->W.cell? ⟨w.heap.size,1,none⟩=some (.int .u32 c.num):=fun W hW=>zak.cell hW (by omega) g1
    have OZ:Hid (nodeC c=(.node 48 [] [p4.t,intT c.num,.node 48 [] [p6.t,p8.t],serT c.ser],0)):=zwd (by rw[F.out,TT.out])
    clear KL KS IL0 KO NS F TT h1 h2 h3 lo hke g1
    go_upto_region 12 with fail
    clear tI hlt
    refine zb6 (zak (w.heap.size+1)) (zak.refl _) zak.trans (.take 0 (.take 1 (.take 2 (.take 3 (.take 5 (.take 6 (.take 9 (.fork 4 (.sole 7 (.sole 8 (.sole 10 (.sole 11 (.sole 12 (.sole 13 (.take 14 .fin))))))) 7 (.sole 4 (.sole 8 (.sole 10 (.sole 11 (.sole 12 (.sole 13 (.take 14 .fin))))))))))))))) (by kernel_rfl) (by kernel_rfl) rfl (by kernel_rfl) (fun _ _ _ _ _ h=>h) ?_
    have D1:Below wr.heap.size wr wr.drew:=(Below.refl _ _).drew
    replace RS:=zwd (RS.out.below D1 RS.out.lt)
    replace BW:=zwd (BW.out.drew)
    replace I4:=zwd (T.InP.below D1 (fun _ h=>h) _ I4.out)
    replace I6:=zwd (T.InP.below D1 (fun _ h=>h) _ I6.out)
    replace I8:=zwd (T.InP.below D1 (fun _ h=>h) _ I8.out)
    replace IL:=zwd (T.InP.below D1 (fun _ h=>h) _ IL.out)
    clear D1
    generalize wr.drew=w3 at*
    iterate 7
     refine zbQ _ rfl (by rfl) (fun W hW=>by go_simp;first|done|rfl) ?_
     simp only[Act.put,zwe,zwg,zwf]
    refine zef ?_ ?_
    · refine zam rfl (by rfl) (fun K1 hK1=> ?_)
      go_simp
      refine(zjK c.num _ XR.1 (by omega)).mono ?_
      rintro e w4 ⟨An,nn,cn,Kn,mn,dn,rfl,hin,hb⟩
      refine hK1 _ _ (zak.below hb) ?_
      have s4:w.heap.size+1<_:=RS.out.lt
      have IN:Hid ((intT c.num).InP (fun b=>w.heap.size<=b/\ b≠w.heap.size+1) w4 (.agg #[.int .i64 (intT c.num).tag,.slice An nn cn,.slice Kn mn dn])):=zwd (T.InP.keep (fun b _ hp=>⟨⟨by omega,by omega⟩,rfl⟩) (Nat.le_refl _) _ hin)
      replace RS:=zwd (RS.out.below hb RS.out.lt)
      replace BW:=zwd (BW.out.trans (hb.mono BW.out.size))
      replace I4:=zwd (T.InP.below hb (fun _ h=>h) _ I4.out)
      replace I6:=zwd (T.InP.below hb (fun _ h=>h) _ I6.out)
      replace I8:=zwd (T.InP.below hb (fun _ h=>h) _ I8.out)
      replace IL:=zwd (T.InP.below hb (fun _ h=>h) _ IL.out)
      clear hin hb s4
      clear hK1 K1
      try simp only[Act.put,zwe,zwg,zwf]
      refine zax (zam rfl (by rfl) (fun K1 hK1=> ?_))
      go_simp
      have s4:=RS.out.lt
      have s5:=BW.out.size
      obtain⟨k2,hb⟩:=zj1 I6.out I8.out ⟨s5,by omega⟩
      refine hK1 _ _ (zak.below hb) ?_
      have K2:=zwd k2
      replace RS:=zwd (RS.out.below hb RS.out.lt)
      replace BW:=zwd (BW.out.trans (hb.mono BW.out.size))
      replace I4:=zwd (T.InP.below hb (fun _ h=>h) _ I4.out)
      replace IL:=zwd (T.InP.below hb (fun _ h=>h) _ IL.out)
      replace IN:=zwd (T.InP.below hb (fun _ h=>h) _ IN.out)
      clear hb s4 s5 I6 I8 k2
      clear hK1 K1
      try simp only[Act.put,zwe,zwg,zwf]
      refine zax (zam rfl (by rfl) (fun K1 hK1=> ?_))
      go_simp
      refine(zbv _ 2 2 _).mono ?_
      rintro e w5 ⟨rfl,hb5⟩
      refine hK1 _ _ (zak.below hb5) ?_
      replace RS:=zwd (RS.out.below hb5 RS.out.lt)
      replace BW:=zwd (BW.out.trans (hb5.mono BW.out.size))
      replace I4:=zwd (T.InP.below hb5 (fun _ h=>h) _ I4.out)
      replace IL:=zwd (T.InP.below hb5 (fun _ h=>h) _ IL.out)
      replace IN:=zwd (T.InP.below hb5 (fun _ h=>h) _ IN.out)
      replace K2:=zwd (K2.out.below hb5 (fun _ h=>h))
      clear hb5
      have IM:=zwd (K2.out.node (z:=48) (by decide))
      clear K2
      clear hK1 K1
      try simp only[Act.put,zwe,zwg,zwf]
      refine zax (zam rfl (by rfl) (fun K1 hK1=> ?_))
      go_simp
      refine(zbv AV c.ser.length cV _).mono ?_
      rintro e w5 ⟨rfl,hb5⟩
      refine hK1 _ _ (zak.below hb5) ?_
      replace RS:=zwd (RS.out.below hb5 RS.out.lt)
      replace BW:=zwd (BW.out.trans (hb5.mono BW.out.size))
      replace I4:=zwd (T.InP.below hb5 (fun _ h=>h) _ I4.out)
      replace IL:=zwd (T.InP.below hb5 (fun _ h=>h) _ IL.out)
      replace IN:=zwd (T.InP.below hb5 (fun _ h=>h) _ IN.out)
      replace IM:=zwd (T.InP.below hb5 (fun _ h=>h) _ IM.out)
      clear hb5
      clear hK1 K1
      try simp only[Act.put,zwe,zwg,zwf]
      refine zax (zam rfl (by rfl) (fun K1 hK1=> ?_))
      go_simp
      have s4:=RS.out.lt
      have s5:=BW.out.size
      obtain⟨k4,hb⟩:=zh5 I4.out IN.out IM.out IL.out ⟨s5,by omega⟩
      refine hK1 _ _ (zak.below hb) ?_
      have K9:=zwd k4
      replace RS:=zwd (RS.out.below hb RS.out.lt)
      replace BW:=zwd (BW.out.trans (hb.mono BW.out.size))
      clear hb k4 s4 s5 I4 IN IM IL
      clear hK1 K1
      try simp only[Act.put,zwe,zwg,zwf]
      refine zax (zam rfl (by rfl) (fun K1 hK1=> ?_))
      go_simp
      refine(zbv _ 4 4 _).mono ?_
      rintro e w5 ⟨rfl,hb5⟩
      refine hK1 _ _ (zak.below hb5) ?_
      replace RS:=zwd (RS.out.below hb5 RS.out.lt)
      replace BW:=zwd (BW.out.trans (hb5.mono BW.out.size))
      replace K9:=zwd (K9.out.below hb5 (fun _ h=>h))
      clear hb5
      clear hK1 K1
      try simp only[Act.put,zwe,zwg,zwf]
      refine zax (zam rfl (by rfl) (fun K1 hK1=> ?_))
      obtain⟨q0,q1,q2,f0,f1,f2⟩:=RS.out.facts
      go_simp
      refine hK1 _ _ (zcl _ _ _ _ _) ?_
      clear hK1 K1
      try simp only[Act.put,zwe,zwg,zwf]
      refine zbQ _ rfl (by rfl) (fun W hW=>by go_simp;first|done|rfl) ?_
      simp only[Act.put,zwe,zwg,zwf]
      refine zdj ?_
      go_wp2_with fail
      have K10:=K9.out.node (z:=48) rfl
      try simp only[World.size_alloc]at K10
      exact zcO (x:=(.node 48 [] [p4.t,intT c.num,.node 48 [] [p6.t,p8.t],serT c.ser],0)) OZ.out rfl rfl rfl RS.out (Nat.le_succ _) BW.out K10
    · refine zam rfl (by rfl) (fun K1 hK1=> ?_)
      go_simp
      have s4:=RS.out.lt
      have s5:=BW.out.size
      obtain⟨k2,hb⟩:=zj1 I6.out I8.out ⟨s5,by omega⟩
      refine hK1 _ _ (zak.below hb) ?_
      have K2:=zwd k2
      replace RS:=zwd (RS.out.below hb RS.out.lt)
      replace BW:=zwd (BW.out.trans (hb.mono BW.out.size))
      replace I4:=zwd (T.InP.below hb (fun _ h=>h) _ I4.out)
      replace IL:=zwd (T.InP.below hb (fun _ h=>h) _ IL.out)
      clear hb s4 s5 I6 I8 k2
      clear hK1 K1
      try simp only[Act.put,zwe,zwg,zwf]
      refine zax (zam rfl (by rfl) (fun K1 hK1=> ?_))
      go_simp
      refine(zjK c.num _ XR.1 (by omega)).mono ?_
      rintro e w4 ⟨An,nn,cn,Kn,mn,dn,rfl,hin,hb⟩
      refine hK1 _ _ (zak.below hb) ?_
      have s4:w.heap.size+1<_:=RS.out.lt
      have IN:Hid ((intT c.num).InP (fun b=>w.heap.size<=b/\ b≠w.heap.size+1) w4 (.agg #[.int .i64 (intT c.num).tag,.slice An nn cn,.slice Kn mn dn])):=zwd (T.InP.keep (fun b _ hp=>⟨⟨by omega,by omega⟩,rfl⟩) (Nat.le_refl _) _ hin)
      replace RS:=zwd (RS.out.below hb RS.out.lt)
      replace BW:=zwd (BW.out.trans (hb.mono BW.out.size))
      replace I4:=zwd (T.InP.below hb (fun _ h=>h) _ I4.out)
      replace IL:=zwd (T.InP.below hb (fun _ h=>h) _ IL.out)
      replace K2:=zwd (K2.out.below hb (fun _ h=>h))
      clear hin hb s4
      clear hK1 K1
      try simp only[Act.put,zwe,zwg,zwf]
      refine zax (zam rfl (by rfl) (fun K1 hK1=> ?_))
      go_simp
      refine(zbv _ 2 2 _).mono ?_
      rintro e w5 ⟨rfl,hb5⟩
      refine hK1 _ _ (zak.below hb5) ?_
      replace RS:=zwd (RS.out.below hb5 RS.out.lt)
      replace BW:=zwd (BW.out.trans (hb5.mono BW.out.size))
      replace I4:=zwd (T.InP.below hb5 (fun _ h=>h) _ I4.out)
      replace IL:=zwd (T.InP.below hb5 (fun _ h=>h) _ IL.out)
      replace K2:=zwd (K2.out.below hb5 (fun _ h=>h))
      replace IN:=zwd (T.InP.below hb5 (fun _ h=>h) _ IN.out)
      clear hb5
      have IM:=zwd (K2.out.node (z:=48) (by decide))
      clear K2
      clear hK1 K1
      try simp only[Act.put,zwe,zwg,zwf]
      refine zax (zam rfl (by rfl) (fun K1 hK1=> ?_))
      go_simp
      refine(zbv AV c.ser.length cV _).mono ?_
      rintro e w5 ⟨rfl,hb5⟩
      refine hK1 _ _ (zak.below hb5) ?_
      replace RS:=zwd (RS.out.below hb5 RS.out.lt)
      replace BW:=zwd (BW.out.trans (hb5.mono BW.out.size))
      replace I4:=zwd (T.InP.below hb5 (fun _ h=>h) _ I4.out)
      replace IL:=zwd (T.InP.below hb5 (fun _ h=>h) _ IL.out)
      replace IN:=zwd (T.InP.below hb5 (fun _ h=>h) _ IN.out)
      replace IM:=zwd (T.InP.below hb5 (fun _ h=>h) _ IM.out)
      clear hb5
      clear hK1 K1
      try simp only[Act.put,zwe,zwg,zwf]
      refine zax (zam rfl (by rfl) (fun K1 hK1=> ?_))
      go_simp
      have s4:=RS.out.lt
      have s5:=BW.out.size
      obtain⟨k4,hb⟩:=zh5 I4.out IN.out IM.out IL.out ⟨s5,by omega⟩
      refine hK1 _ _ (zak.below hb) ?_
      have K9:=zwd k4
      replace RS:=zwd (RS.out.below hb RS.out.lt)
      replace BW:=zwd (BW.out.trans (hb.mono BW.out.size))
      clear hb k4 s4 s5 I4 IN IM IL
      clear hK1 K1
      try simp only[Act.put,zwe,zwg,zwf]
      refine zax (zam rfl (by rfl) (fun K1 hK1=> ?_))
      go_simp
      refine(zbv _ 4 4 _).mono ?_
      rintro e w5 ⟨rfl,hb5⟩
      refine hK1 _ _ (zak.below hb5) ?_
      replace RS:=zwd (RS.out.below hb5 RS.out.lt)
      replace BW:=zwd (BW.out.trans (hb5.mono BW.out.size))
      replace K9:=zwd (K9.out.below hb5 (fun _ h=>h))
      clear hb5
      clear hK1 K1
      try simp only[Act.put,zwe,zwg,zwf]
      refine zax (zam rfl (by rfl) (fun K1 hK1=> ?_))
      obtain⟨q0,q1,q2,f0,f1,f2⟩:=RS.out.facts
      go_simp
      refine hK1 _ _ (zcl _ _ _ _ _) ?_
      clear hK1 K1
      try simp only[Act.put,zwe,zwg,zwf]
      refine zbQ _ rfl (by rfl) (fun W hW=>by go_simp;first|done|rfl) ?_
      simp only[Act.put,zwe,zwg,zwf]
      refine zdj ?_
      go_wp2_with fail
      have K10:=K9.out.node (z:=48) rfl
      try simp only[World.size_alloc]at K10
      exact zcO (x:=(.node 48 [] [p4.t,intT c.num,.node 48 [] [p6.t,p8.t],serT c.ser],0)) OZ.out rfl rfl rfl RS.out (Nat.le_succ _) BW.out K10
theorem zff (c:CrlZ) (a:Option Addr) (ca:Nat) (b:Option Addr) (n cb:Nat) (sig:List Int) (w:World) (h:zbj w c a ca) (hs:c.iss.size<=1000000) (hn:c.ser.length<=1000000) (hr:Row w b n sig) (hl:n<=30000) (hnil:b=none->cb=0):
 Calls Tryz.prog 10 #[.agg (crlC c a c.ser.length ca),.slice b n cb] w (zjT (makeC c sig) w):=by
 have C1:=zwd (zbG.start h)
 have R1:=zwd (hr.below (zac w (.cells (crlC c a c.ser.length ca) 25)))
 have HN:=zwd hnil
 have hsl:=hr.1
 clear h hr hnil
 unfold crlC at C1 R1⊢
 go_enter Tryz.func10,Tryz.ntmps10
 generalize hw1:w.alloc (.cells #[.string c.iss,.int .u32 c.num,.int .i64 c.fr,.int .i64 c.to,.slice a c.ser.length ca] 25)=w1 at*
 obtain⟨g0,g1,g2,g3,g4⟩:=C1.out.cells
 have CN:=zh7 c a ca w1 C1.out.has hs hn
 unfold crlC at CN
 by_cases hrt:zaO c
 · have F:Hid (makeC c sig=zao (zaL (crlT c) sig)):=if_pos hrt
   have e:nodeC c=(crlT c,0):=if_pos hrt
   have hwt:=zqE hrt.2.2.1
   rw[e]at CN
   have CI:=zwd CN
   clear CN hrt e
   go_wp2_with fail
   refine CI.out.mono ?_
   rintro e w2 ⟨A2,n2,c2,K2,m2,d2,rfl,hin,hb⟩
   have A3:=zac w2 (.cells #[.int .i64 (crlT c).tag,.slice A2 n2 c2,.slice K2 m2 d2] 30)
   have E3:=hb.trans (A3.mono hb.size)
   have C3:=zwd (C1.out.go E3)
   have R3:=zwd (R1.out.below E3)
   have I3:=zwd (T.In.below A3 _ (T.InP.in _ hin))
   obtain⟨q0,q1,q2,_,_,_⟩:=(Blk.new w2 30 #[.int .i64 (crlT c).tag,.slice A2 n2 c2,.slice K2 m2 d2]).facts
   clear hw1 CI C1 R1 hin hb A3 E3 g0 g1 g2 g3 g4
   go_wp2_with fail
   generalize w2.alloc (.cells #[.int .i64 (crlT c).tag,.slice A2 n2 c2,.slice K2 m2 d2] 30)=w3 at*
   generalize w2.heap.size=g5 at*
   refine(ztz (crlT c) _ b n cb sig w3 I3.out (by omega) R3.out (by omega) HN.out).mono ?_
   rintro e w4 ⟨a4,c4,rfl,hr4,hn4,hb4,hc4⟩
   have B4:=zwd (C3.out.bel.trans (hb4.mono C3.out.bel.size))
   have R4:=zwd hr4
   have N4:=zwd hn4
   have L4:=zwd hc4
   clear hr4 hn4 hb4 hc4 R3 I3 q0 q1 q2
   go_wp2_with fail
   go_ret2
   rw[F.out]
   exact⟨a4,c4,rfl,R4.out,N4.out,B4.out,L4.out⟩
 · have F:Hid (makeC c sig=([],1)):=if_neg hrt
   have e:nodeC c=(zbz,1):=if_neg hrt
   rw[e]at CN
   have CI:=zwd CN
   clear CN hrt e
   go_wp2_with fail
   refine CI.out.mono ?_
   rintro e w2 ⟨A2,n2,c2,K2,m2,d2,rfl,hin,hb⟩
   have B3:=zwd ((C1.out.bel.trans (hb.mono C1.out.bel.size)).alloc (by have:=hb.size;have:=C1.out.bel.size;omega) (.cells #[.int .i64 zbz.tag,.slice A2 n2 c2,.slice K2 m2 d2] 30))
   clear hw1 CI C1 R1 hin hb g0 g1 g2 g3 g4
   go_wp2_with fail
   go_ret2
   exact zd0 F.out B3.out
def zgk (t:T) (w:World) (e:Ending) (w':World):Prop:=∃(c:CrlZ) (a:Option Addr) (ca:Nat),e= .returned (.agg (crlC c a c.ser.length ca))/\ zh3 t c/\ zbj w' c a ca/\ (∀b off,a=some ⟨b,off,none⟩->w.heap.size<b)/\ Below w.heap.size w w'
theorem zjb {w W:World} {tmps:Array Value} {fn:Func} {p:Tmp} {g:Nat} {x:CrlZ} {v0 v1 v2 v3 v4:Value} {a:Option Addr} {ca:Nat} {R:Ending->World->Prop} (hf:fn.results=#[.cell p 25]) (hp:tmps.getD p undef= .pointer (some ⟨g,0,none⟩)) (hblk:Blk W g 25 #[v0,v1,v2,v3,v4]) (hg:w.heap.size<=g) (hb:Below w.heap.size w W) (hat:zbj W x a ca) (hne:∀b off,a=some ⟨b,off,none⟩->b≠g)
 (hR:∀W',zbj W' x a ca->Below w.heap.size w W'->R (.returned (.agg (crlC x a x.ser.length ca))) W'):
 bodyPost Tryz.prog fn R .ret {tmps:=tmps,defers:=[]} (((((W.setCell ⟨g,0,none⟩ (.string x.iss)).setCell ⟨g,1,none⟩ (.int .u32 x.num)).setCell ⟨g,2,none⟩ (.int .i64 x.fr)).setCell ⟨g,3,none⟩ (.int .i64 x.to)).setCell ⟨g,4,none⟩ (.slice a x.ser.length ca)):=by
 have h1:=((((hblk.set 0 (.string x.iss)).set 1 (.int .u32 x.num)).set 2 (.int .i64 x.fr)).set 3 (.int .i64 x.to)).set 4 (.slice a x.ser.length ca)
 have G:=zdC g W (.string x.iss) (.int .u32 x.num) (.int .i64 x.fr) (.int .i64 x.to) (.slice a x.ser.length ca)
 have h:=results_cell_row (P:=Tryz.prog) hf tmps _ g 25 _ (0,0) _ hp h1 Tryz.underlying25 rfl (Tryz.sizeCrl _ _ _ _ _)
 refine bodyPost_ret h rfl (hR _ (hat.grown G hne) ?_)
 exact((((hb.setCell (p:=⟨g,0,none⟩) hg _).setCell (p:=⟨g,1,none⟩) hg _).setCell (p:=⟨g,2,none⟩) hg _).setCell (p:=⟨g,3,none⟩) hg _).setCell (p:=⟨g,4,none⟩) hg _
theorem zlv (t:T) (v:Value) (w:World) (hin:t.In w v) (hwt:wt t<30000):Calls Tryz.prog 57 #[v] w (zgk t w):=by
 obtain⟨A,nb,cb,K,m,d,rfl⟩:=(T.In.inP t hin).form
 have X1:=(Box.start hin).blk.alloc (.cells #[.string ⟨#[]⟩,.int .u32 0,.int .i64 0,.int .i64 0,.slice none 0 0] 25)
 have S1:=Blk.new (w.alloc (.cells #[.int .i64 t.tag,.slice A nb cb,.slice K m d] 30)) 25 #[.string ⟨#[]⟩,.int .u32 0,.int .i64 0,.int .i64 0,.slice none 0 0]
 rw[show(w.alloc (.cells #[.int .i64 t.tag,.slice A nb cb,.slice K m d] 30)).heap.size=w.heap.size+1 by simp]at S1
 have b1:=(zac w (.cells #[.int .i64 t.tag,.slice A nb cb,.slice K m d] 30)).alloc (by simp) (.cells #[.string ⟨#[]⟩,.int .u32 0,.int .i64 0,.int .i64 0,.slice none 0 0] 25)
 have O1:Hid (OfAt w _ t A nb cb K m d):=zwd ⟨X1,S1,b1,T.InP.keep (fun b hb _=>⟨hb,b1.block b hb⟩) b1.size _ (T.In.inP t hin)⟩
 clear X1 S1 b1 hin
 go_enter Tryz.func57,Tryz.ntmps57
 go_upto_region 1 with fail
 generalize(w.alloc (.cells #[.int .i64 t.tag,.slice A nb cb,.slice K m d] 30)).alloc (.cells #[.string ⟨#[]⟩,.int .u32 0,.int .i64 0,.int .i64 0,.slice none 0 0] 25)=w1 at*
 have hml:t.kids.length=m:=O1.out.has.kidsP.1
 obtain⟨x0,x1,x2,_,_,_⟩:=O1.out.bx.facts
 by_cases hm:m=4
 rotate_left
 · have F:Hid (zh3 t za8):=zrD (by omega)
   have t1:((m:Int) !=4)=true:=by simp;omega
   obtain⟨p0,p1,p2,p3,p4,f0,f1,f2,f3,f4⟩:=O1.out.rs.five
   clear hm hml hwt
   go_wp2_with fail
   exact zjb (x:=za8) (a:=none) (ca:=0) (R:=zgk t w) (W:=w1) (g:=w.heap.size+1) rfl rfl O1.out.rs (Nat.le_succ _) O1.out.bel (zbj.zero _) (fun _ _ e=>by cases e) (fun W' h1 h2=>⟨za8,none,0,rfl,F.out,h1,(fun _ _ e=>by cases e),h2⟩)
 subst hm
 obtain⟨k0,k1,k2,k3,hks⟩:=zls hml
 have KK:=zwd O1.out.has.kidsP
 rw[hks]at KK
 obtain⟨y,b,off,z2,A2,n2,c2,K2,m2,d2,he,rfl,_⟩:=KK.out.kid 2 (by omega)
 have B0:=zeQ (k:=k0) (by rw[hks];simp) hwt
 have B1:=zeQ (k:=k1) (by rw[hks];simp) hwt
 have B2:=zeQ (k:=k2) (by rw[hks];simp) hwt
 have B3:=zeQ (k:=k3) (by rw[hks];simp) hwt
 have HK:=zwd hks
 clear he KK hml
 obtain⟨A0,n0,c0,K0,m0,d0,r0,r1,r2,hin0,_⟩:=zdE O1.out.has (i:=0) (k:=k0) (by omega) (by rw[HK.out];rfl)
 rw[Nat.zero_mul,Nat.add_zero]at r0 r1 r2
 go_wp2_with fail
 refine(zrL k0 _ w1 (T.InP.in _ hin0) (by omega)).mono ?_
 rintro e w2 ⟨rfl,hb2⟩
 have O2:=zwd (O1.out.go hb2)
 clear O1 hb2 hin0 r0 r1 r2 x0 x1 x2 B0
 obtain⟨x0,x1,x2,_,_,_⟩:=O2.out.bx.facts
 obtain⟨A1,n1,c1,K1',m1,d1,r0,r1,r2,hin1,_⟩:=zdE O2.out.has (i:=1) (k:=k1) (by omega) (by rw[HK.out];rfl)
 go_wp2_with fail
 refine(znD k1 _ w2 (T.InP.in _ hin1) (by omega)).mono ?_
 rintro e w3 ⟨rfl,hb3⟩
 have O3:=zwd (O2.out.go hb3)
 clear O2 hb3 hin1 r0 r1 r2 x0 x1 x2 B1
 obtain⟨x0,x1,x2,_,_,_⟩:=O3.out.bx.facts
 obtain⟨A2,n2,c2,K2,m2,d2,r0,r1,r2,hin2,_⟩:=zdE O3.out.has (i:=2) (k:=k2) (by omega) (by rw[HK.out];rfl)
 go_wp2_with fail
 refine(zlt k2 _ w3 (T.InP.in _ hin2) (by omega)).mono ?_
 rintro e w4 ⟨rfl,hb4⟩
 have O4:=zwd (O3.out.go hb4)
 clear O3 hb4 hin2 r0 r1 r2 x0 x1 x2 B2
 obtain⟨x0,x1,x2,_,_,_⟩:=O4.out.bx.facts
 obtain⟨A3,n3,c3,K3,m3,d3,r0,r1,r2,hin3,_⟩:=zdE O4.out.has (i:=3) (k:=k3) (by omega) (by rw[HK.out];rfl)
 obtain⟨nn,wN⟩:∃nn,IntKind.u32.wrap (zaC k1).1=nn:=⟨_,rfl⟩
 have nr:Hid (0<=nn/\ nn<=4294967295):=zwd (by rw[<-wN,IntKind.wrap_u32];omega)
 have PA:Hid (∀l,ztC k3 l->zh3 t ⟨(za1 k0).1,nn,(timesZ k2).1,(timesZ k2).2,l⟩):=zwd (fun l hl=>by
  rw[<-wN,IntKind.wrap_u32]
  exact zrE HK.out hl)
 go_wp2_with fail
 refine(zio k3 _ w4 (T.InP.in _ hin3) (by omega)).mono ?_
 rintro e w5 ⟨l,aV,nV,cV,rfl,hso,hrow,hnil,hfar,hb5⟩
 have O5:=zwd (O4.out.go hb5)
 obtain rfl:l.length=nV:=hrow.1
 have R5:=zwd hrow
 have N5:=zwd hnil
 have L5:=zwd hso
 have F5:Hid (∀b off,aV=some ⟨b,off,none⟩->w.heap.size+1<b):=zwd (fun b off e=>by have:=hfar b off e;have:=O4.out.rs.lt;omega)
 clear O4 hb5 hin3 r0 r1 r2 x0 x1 x2 B3 hrow hnil hso hfar wN
 obtain⟨p0,p1,p2,p3,p4,f0,f1,f2,f3,f4⟩:=O5.out.rs.five
 go_wp2_with fail
 exact zjb (x:=⟨(za1 k0).1,nn,(timesZ k2).1,(timesZ k2).2,l⟩) (a:=aV) (ca:=cV) (R:=zgk t w) (W:=w5) (g:=w.heap.size+1) rfl rfl O5.out.rs (Nat.le_succ _) O5.out.bel ⟨R5.out,nr.out,N5.out⟩ (fun b off e=>by have:=F5.out b off e;omega) (fun W' h1 h2=>⟨_,aV,cV,rfl,PA.out l L5.out,h1,(fun b off e=>by have:=F5.out b off e;omega),h2⟩)
def zgH (w:World) (a:Option Addr) (n c:Nat) (e:Int) (ns:List Int):Prop:=Row w a n ns/\ n<=c/\ (a=none->c=0)/\ 0<=e/\ e<=4294967295
theorem zgH.below {w w':World} {a:Option Addr} {n c:Nat} {e:Int} {ns:List Int} (h:zgH w a n c e ns) (hb:Below w.heap.size w w'):zgH w' a n c e ns:=⟨h.1.below hb,h.2⟩
theorem zer (w:World) (a:Option Addr) (n c:Nat) (e:Int):Blk (w.alloc (.cells #[.slice a n c,.int .u32 e] 43)) w.heap.size 43 #[.slice a n c,.int .u32 e]:=Blk.new _ _ _
theorem zaI (w:World) (o:Obj):Below w.heap.size w (w.alloc o):=(Below.refl _ _).alloc (Nat.le_refl _) o
theorem zlw (s:Int) (w:World) (h0: -9223372036854775808<=s) (h1:s<=9223372036854775807):Calls Tryz.prog 108 #[.int .i64 s] w fun e w'=>e= .returned (.bool (decide (62<=s)&&decide (s<=512)))/\ w'=w:=by
 go_enter Tryz.func108,Tryz.ntmps108
 by_cases h:62<=s
 · have t1:decide ((62:Int)<=s)=true:=decide_eq_true h
   go_wp2_with fail
   go_ret
   exact⟨by rw[t1];rfl,rfl⟩
 · have t1:decide ((62:Int)<=s)=false:=decide_eq_false h
   go_wp2_with fail
   go_ret
   exact⟨rfl,rfl⟩
theorem zo2 (a:Option Addr) (n c:Nat) (e:Int) (ns:List Int) (w:World) (hk:zgH w a n c e ns) (hn:n<=1000000):
 Calls Tryz.prog 102 #[.agg #[.slice a n c,.int .u32 e]] w fun r w'=>r= .returned (.bool (zbM ns e))/\ Below w.heap.size w w':=by
 have BX:=zwd (zer w a n c e)
 have BW:=zwd (zaI w (.cells #[.slice a n c,.int .u32 e] 43))
 have HR:=zwd (hk.1.below BW.out)
 have hl:=hk.1.1
 obtain⟨_,_,_,e0,e1⟩:=hk
 have c0:=BX.out.cell 0
 have c1:=BX.out.cell 1
 simp only[List.getElem?_toArray,List.getElem?_cons_zero,List.getElem?_cons_succ]at c0 c1
 have RZ:Hid (zbM ns e=(decide (62<=n)&&decide (n<=512)&& !(ns[0]?.getD 0==0)&&(ns[n-1]?.getD 0%2==1)&&(e%2==1)&&decide (3<=e))):=by
  unfold zbM
  rw[hl]
  exact zwd rfl
 have b0:=HR.out.byte 0
 have b1:=HR.out.byte (n-1)
 go_enter Tryz.func102,Tryz.ntmps102
 generalize hw2:w.alloc (.cells #[.slice a n c,.int .u32 e] 43)=w2 at*
 have CS:=zwd (zlw (n:Int) w2 (by omega) (by omega))
 clear hl
 by_cases h:62<=n/\ n<=512
 · have t1:(decide ((62:Int)<=(n:Int))&&decide ((n:Int)<=512))=true:=by simp;omega
   rw[t1]at CS
   have t2:(decide (62<=n)&&decide (n<=512))=true:=by simp;omega
   rw[t2]at RZ
   obtain⟨b,o,rfl,hb,hc⟩:=HR.out.2.2 (by omega)
   have d0:=hc 0 (by omega)
   have d1:=hc (n-1) (by omega)
   obtain⟨m,rfl⟩:∃m,n=m+1:=⟨n-1,by omega⟩
   rw[Nat.add_sub_cancel]at d1 b1 RZ
   rw[Nat.add_zero]at d0
   clear hc HR BX t1 t2
   generalize ns[0]?.getD 0=x at*
   generalize ns[m]?.getD 0=y at*
   rw[show((m+1:Nat):Int)=(m:Int)+1 from rfl]at CS
   go_wp2_with fail
   refine CS.out.mono ?_
   rintro r w3 ⟨rfl,rfl⟩
   clear CS hw2
   go_wp2_with fail
   all_goals
    go_ret
    refine⟨zaj ?_,BW.out⟩
    rw[RZ.out]
    rw[Bool.eq_iff_iff]
    simp[*]
 · have t1:(decide ((62:Int)<=(n:Int))&&decide ((n:Int)<=512))=false:=by
    simp only[Bool.and_eq_false_iff,decide_eq_false_iff_not]
    omega
   rw[t1]at CS
   have t2:(decide (62<=n)&&decide (n<=512))=false:=by
    simp only[Bool.and_eq_false_iff,decide_eq_false_iff_not]
    omega
   rw[t2]at RZ
   go_wp2_with fail
   refine CS.out.mono ?_
   rintro r w3 ⟨rfl,rfl⟩
   go_wp2_with fail
   go_ret
   exact⟨by rw[RZ.out];rfl,BW.out⟩
theorem zmy (a:Option Addr) (n c:Nat) (e:Int) (ns:List Int) (w:World) (hk:zgH w a n c e ns) (hn:n<=1000000):
 Calls Tryz.prog 113 #[.agg #[.slice a n c,.int .u32 e]] w fun r w'=>r= .returned (.bool (zbM ns e))/\ Below w.heap.size w w':=by
 have BX:=zwd (zer w a n c e)
 have BW:=zwd (zaI w (.cells #[.slice a n c,.int .u32 e] 43))
 have HR:=zwd (hk.1.below BW.out)
 have hl:=hk.1.1
 obtain⟨_,_,_,e0,e1⟩:=hk
 have c0:=BX.out.cell 0
 have c1:=BX.out.cell 1
 simp only[List.getElem?_toArray,List.getElem?_cons_zero,List.getElem?_cons_succ]at c0 c1
 have RZ:Hid (zbM ns e=(decide (62<=n)&&decide (n<=512)&& !(ns[0]?.getD 0==0)&&(ns[n-1]?.getD 0%2==1)&&(e%2==1)&&decide (3<=e))):=by
  unfold zbM
  rw[hl]
  exact zwd rfl
 have b0:=HR.out.byte 0
 have b1:=HR.out.byte (n-1)
 go_enter Tryz.func113,Tryz.ntmps113
 generalize hw2:w.alloc (.cells #[.slice a n c,.int .u32 e] 43)=w2 at*
 clear hl
 by_cases h:62<=n/\ n<=512
 · have t2:(decide (62<=n)&&decide (n<=512))=true:=by simp;omega
   rw[t2]at RZ
   obtain⟨b,o,rfl,hb,hc⟩:=HR.out.2.2 (by omega)
   have d0:=hc 0 (by omega)
   have d1:=hc (n-1) (by omega)
   obtain⟨m,rfl⟩:∃m,n=m+1:=⟨n-1,by omega⟩
   rw[Nat.add_sub_cancel]at d1 b1 RZ
   rw[Nat.add_zero]at d0
   clear hc HR BX t2
   generalize ns[0]?.getD 0=x at*
   generalize ns[m]?.getD 0=y at*
   have t3:decide ((62:Int)<=(m:Int)+1)=true:=decide_eq_true (by omega)
   have t4:decide ((m:Int)+1<=512)=true:=decide_eq_true (by omega)
   go_wp2_with fail
   all_goals
    go_ret
    refine⟨zaj ?_,BW.out⟩
    rw[RZ.out]
    rw[Bool.eq_iff_iff]
    simp[*]
 · have t2:(decide (62<=n)&&decide (n<=512))=false:=by
    simp only[Bool.and_eq_false_iff,decide_eq_false_iff_not]
    omega
   rw[t2]at RZ
   by_cases h6:62<=n
   · have t3:decide ((62:Int)<=(n:Int))=true:=decide_eq_true (by omega)
     have t4:decide ((n:Int)<=512)=false:=decide_eq_false (by omega)
     go_wp2_with fail
     go_ret
     exact⟨by rw[RZ.out];rfl,BW.out⟩
   · have t3:decide ((62:Int)<=(n:Int))=false:=decide_eq_false (by omega)
     go_wp2_with fail
     go_ret
     exact⟨by rw[RZ.out];rfl,BW.out⟩
theorem zo3 (a:Option Addr) (n c:Nat) (e:Int) (ns:List Int) (w:World) (hk:zgH w a n c e ns) (hn:n<=maxLen):
 Calls Tryz.prog 38 #[.agg #[.slice a n c,.int .u32 e]] w fun r w'=>r= .returned (.bool (decide (n<=140)))/\ Below w.heap.size w w':=by
 have BX:=zwd (zer w a n c e)
 have BW:=zwd (zaI w (.cells #[.slice a n c,.int .u32 e] 43))
 have c0:=BX.out.cell 0
 simp only[List.getElem?_toArray,List.getElem?_cons_zero]at c0
 have TD:Hid (decide ((n:Int)<=140)=decide (n<=140)):=zwd (by rw[decide_eq_decide];omega)
 go_enter Tryz.func38,Tryz.ntmps38
 generalize hw2:w.alloc (.cells #[.slice a n c,.int .u32 e] 43)=w2 at*
 go_wp2_with fail
 go_ret
 exact⟨zaj TD.out,BW.out⟩
theorem zvc (a:Option Addr) (n ca:Nat) (zs:List Int) (w:World) (hr:Row w a n zs) (hca:n<=ca) (hn:n<=100000) (ht:Tab w):
 Calls Tryz.prog 66 #[.slice a n ca] w (zhL (zbV zs) w):=by
 have B1:Hid (Below w.heap.size w (w.alloc (.cells Z32 100))):=zwd ((Below.refl _ _).alloc (Nat.le_refl _) _)
 have A1:Hid (Blk (w.alloc (.cells Z32 100)) w.heap.size 100 Z32):=zwd (Blk.new _ _ _)
 have hs1:(w.alloc (.cells Z32 100)).heap.size=w.heap.size+1:=by simp
 have T1:=zwd (ht.below B1.out)
 have HR:=zwd hr
 have hzn:=hr.1
 have L32:(zbV zs).length<=32:=by rw[zdX];omega
 have h2:=ht.1
 clear hr ht
 go_enter Tryz.func66,Tryz.ntmps66
 go_wp2_with (refine Great.wpList_allocTo rfl (some 2) rfl (.pointer (some ⟨w.heap.size,0,none⟩)) (.cells Z32 100) rfl ?_)
 generalize w.alloc (.cells Z32 100)=w1 at*
 have HS1:=zwd hs1
 clear hs1
 refine(zuP w1 T1.out).mono ?_
 rintro e w2 ⟨rfl,hw2⟩
 have H2:Hid (zfc w2 w1.heap.size []):=by rw[hw2];exact zwd (zqS w1)
 have B2:Hid (Below w1.heap.size w1 w2):=by rw[hw2];exact zwd ((Below.refl _ _).alloc (Nat.le_refl _) _)
 clear hw2
 have T2:=zwd (T1.out.below B2.out)
 have BW:=zwd (Below.step B1.out B2.out)
 have A2:=zwd (A1.out.below B2.out A1.out.lt)
 have AP:Hid (zdm w2 w1.heap.size a n zs):=zwd ⟨HR.out.below BW.out,fun h0=>by
  obtain⟨b,off,e,hb,_⟩:=HR.out.2.2 h0
  exact⟨b,off,e,by have:=HS1.out;omega⟩⟩
 clear B2 T1 A1 HR
 go_wp2_with fail
 refine(ziR w1.heap.size [] a n ca zs w2 H2.out (by have:=HS1.out;omega) AP.out hca T2.out (by simp;omega)).mono ?_
 rintro e w3 ⟨rfl,hh3,hg3⟩
 rw[List.nil_append]at hh3
 have H3:Hid (zfc w3 w1.heap.size zs):=zwd hh3
 have B3:Hid (Below w.heap.size w w3):=zwd (BW.out.grown hg3 BW.out.size (fun k e=>by have:=HS1.out;simp at e;omega))
 have A3:Hid (Blk w3 w.heap.size 100 Z32):=zwd ((hg3.block _ (Blk.lt A2.out) (by have:=HS1.out;simp;omega)).trans A2.out)
 have T3:=zwd (T2.out.grown hg3 (by have:=HS1.out;omega))
 clear hh3 hg3 H2 AP T2 A2 BW
 go_wp2_with fail
 refine(zuQ w1.heap.size zs w3 H3.out T3.out (by omega)).mono ?_
 rintro e w4 ⟨rfl,hb4⟩
 have A4:=zwd (A3.out.below hb4 A3.out.lt)
 have B4:=zwd (Below.step B3.out hb4)
 clear hb4 A3 B3 H3 T3
 generalize zbV zs=hz at*
 go_wp2_with (refine wpList_store_rowTo rfl 100 (.tmp 2) (.tmp 9) rfl rfl w.heap.size (zbc hz) rfl rfl 100 Z32 A4.out (Tryz.size24 hz L32) (by rw[zdW hz L32];rfl) (zgc hz) ?_)
 exact bodyPost_ret (results_cell_row rfl _ _ w.heap.size 100 (zbc hz) (0,0) (.array 32 5) rfl (setRow_heap _ _ _ _ 100 _ A4.out) Tryz.underlying100 rfl (Tryz.size24 hz L32)) rfl ⟨rfl,below_setRow B4.out (Nat.le_refl _) _⟩
end Go.Proofs.YtpgahclpbdpbnaaGreatDoor
