import Derived.Test.YtpgahclpbdpbnaaGreatDoorGAW
import Derived.Test.YtpgahclpbdpbnaaGreatDoorGAZ
import Derived.Test.YtpgahclpbdpbnaaGreatDoorGBA
import Derived.Test.YtpgahclpbdpbnaaGreatDoorGBB
import Derived.Test.YtpgahclpbdpbnaaGreatDoorGBF
set_option maxHeartbeats 8000000
set_option maxRecDepth 100000
namespace Go.Proofs.YtpgahclpbdpbnaaGreatDoor
open Go.RowKit
set_option linter.unusedVariables false
set_option linter.unusedSimpArgs false
theorem zmH (c:CrlZ) (a:Option Addr) (ca:Nat) (b:Option Addr) (n cb:Nat) (sig:List Int) (w:World) (h:zbj w c a ca) (hs:c.iss.size<=1000000) (hn:c.ser.length<=1000000) (hr:Row w b n sig) (hl:n<=30000) (hnil:b=none->cb=0):
 Calls Tryz.prog 11 #[.agg (crlC c a c.ser.length ca),.slice b n cb] w (zdw (makeC c sig) w):=by
 have C1:=zwd (zbG.start h)
 have R1:=zwd (hr.below (zac w (.cells (crlC c a c.ser.length ca) 25)))
 have HN:=zwd hnil
 have hsl:=hr.1
 clear h hr hnil
 unfold crlC at C1 R1⊢
 go_enter Tryz.func11,Tryz.ntmps11
 generalize hw1:w.alloc (.cells #[.string c.iss,.int .u32 c.num,.int .i64 c.fr,.int .i64 c.to,.slice a c.ser.length ca] 25)=w1 at*
 obtain⟨g0,g1,g2,g3,g4⟩:=C1.out.cells
 have CN:=zd2 c a ca w1 C1.out.has hs hn
 unfold crlC at CN
 by_cases hrt:zaO c
 · have F:Hid (makeC c sig=zao (zaL (crlT c) sig)):=if_pos hrt
   have e:nodeC c=(crlT c,0):=if_pos hrt
   have hwt:=zqE hrt.2.2.1
   rw[e]at CN
   have CI:=zwd CN
   clear CN hrt e
   go_wp2_with fail
   refine CI.out.mono ?_
   rintro e w2 ⟨A2,n2,c2,K2,m2,d2,rfl,hin,hb⟩
   have A3:=zac w2 (.cells #[.int .i64 (crlT c).tag,.slice A2 n2 c2,.slice K2 m2 d2] 30)
   have E3:=hb.trans (A3.mono hb.size)
   have C3:=zwd (C1.out.go E3)
   have R3:=zwd (R1.out.below E3)
   have I3:=zwd (T.In.below A3 _ (T.InP.in _ hin))
   obtain⟨q0,q1,q2,_,_,_⟩:=(Blk.new w2 30 #[.int .i64 (crlT c).tag,.slice A2 n2 c2,.slice K2 m2 d2]).facts
   clear hw1 CI C1 R1 hin hb A3 E3 g0 g1 g2 g3 g4
   go_wp2_with fail
   generalize w2.alloc (.cells #[.int .i64 (crlT c).tag,.slice A2 n2 c2,.slice K2 m2 d2] 30)=w3 at*
   generalize w2.heap.size=g5 at*
   refine(zif (crlT c) _ b n cb sig w3 I3.out (by omega) R3.out HN.out).mono ?_
   rintro e w4 ⟨a4,c4,rfl,hr4,hn4,hb4⟩
   have B4:=zwd (C3.out.bel.trans (hb4.mono C3.out.bel.size))
   have R4:=zwd hr4
   have N4:=zwd hn4
   clear hr4 hn4 hb4 R3 I3 q0 q1 q2
   go_wp2_with fail
   go_ret2
   rw[F.out]
   exact⟨a4,c4,rfl,R4.out,N4.out,B4.out⟩
 · have F:Hid (makeC c sig=([],1)):=if_neg hrt
   have e:nodeC c=(zbz,1):=if_neg hrt
   rw[e]at CN
   have CI:=zwd CN
   clear CN hrt e
   go_wp2_with fail
   refine CI.out.mono ?_
   rintro e w2 ⟨A2,n2,c2,K2,m2,d2,rfl,hin,hb⟩
   have B3:=zwd ((C1.out.bel.trans (hb.mono C1.out.bel.size)).alloc (by have:=hb.size;have:=C1.out.bel.size;omega) (.cells #[.int .i64 zbz.tag,.slice A2 n2 c2,.slice K2 m2 d2] 30))
   clear hw1 CI C1 R1 hin hb g0 g1 g2 g3 g4
   go_wp2_with fail
   go_ret2
   exact zeK F.out B3.out
theorem zn7 {wr:World} {a:Option Addr} {n:Nat} {zs:List Int} (c:Nat) (h:Row wr a n zs):∀W,Ext wr.drew W->(convert 26 9 (.slice a n c)).run Tryz.prog W= .ok (.string (strOfNums zs)) W:=by
 intro W hW
 exact zbx c (Row.below (w:=wr.drew) h hW)
theorem zis (c:CrlZ) (a:Option Addr) (ca:Nat) (s:Option Addr) (ls cs:Nat) (sig:List Int) (b:Option Addr) (n cb:Nat) (zs:List Int) (w:World) (hta:Tab w) (h:zbj w c a ca) (hn:c.ser.length<=maxLen) (hs:c.iss.size<=maxLen) (hr:Row w s ls sig) (hnil:s=none->cs=0) (hz:Row w b n zs) (hnc:n<=cb) (hnilb:b=none->cb=0):
 Calls Tryz.prog 3 #[.agg (crlC c a c.ser.length ca),.slice s ls cs,.slice b n cb] w fun e w'=>e= .returned (.bool true)/\ Below w.heap.size w w':=by
 have b1:=zac w (.cells (crlC c a c.ser.length ca) 25)
 have CB:=zwd (zbG.start h)
 have RS:=zwd (hr.below b1)
 have RZ:=zwd (hz.below b1)
 have TB:=zwd (hta.below b1)
 have NS:=zwd hnil
 have NB:=zwd hnilb
 clear b1 h hr hz hta hnil hnilb
 unfold crlC at*
 unfold maxLen at*
 go_enter Tryz.func3,Tryz.ntmps3
 go_upto_region 1 with fail
 generalize w.alloc (.cells #[.string c.iss,.int .u32 c.num,.int .i64 c.fr,.int .i64 c.to,.slice a c.ser.length ca] 25)=w1 at*
 go_wp2_with fail
 refine(zew w1 TB.out).mono ?_
 rintro e w2 ⟨rfl,hb⟩
 replace CB:=zwd (CB.out.go hb)
 replace RS:=zwd (RS.out.below hb)
 replace RZ:=zwd (RZ.out.below hb)
 clear hb TB
 obtain⟨g0,g1,g2,g3,g4⟩:=CB.out.cells
 by_cases h0:1000<c.iss.size
 · have t1:decide ((1000:Int)<(c.iss.size:Int))=true:=decide_eq_true (by omega)
   have t1':decide (1000<c.iss.size)=true:=decide_eq_true h0
   clear h0 hn hs hnc
   go_wp2_with fail
   go_ret
   exact⟨rfl,CB.out.bel⟩
 have t0:decide ((1000:Int)<(c.iss.size:Int))=false:=decide_eq_false (by omega)
 have t0':decide (1000<c.iss.size)=false:=decide_eq_false h0
 by_cases h1:500<c.ser.length
 · have t1:decide ((500:Int)<(c.ser.length:Int))=true:=decide_eq_true (by omega)
   have t1':decide (500<c.ser.length)=true:=decide_eq_true h1
   clear h0 h1 hn hs hnc
   go_wp2_with fail
   go_ret
   exact⟨rfl,CB.out.bel⟩
 have t1:decide ((500:Int)<(c.ser.length:Int))=false:=decide_eq_false (by omega)
 have t1':decide (500<c.ser.length)=false:=decide_eq_false h1
 by_cases h2:300<ls
 · have t1:decide ((300:Int)<(ls:Int))=true:=decide_eq_true (by omega)
   have t1':decide (300<ls)=true:=decide_eq_true h2
   clear h0 h1 h2 hn hs hnc
   go_wp2_with fail
   go_ret
   exact⟨rfl,CB.out.bel⟩
 have t2:decide ((300:Int)<(ls:Int))=false:=decide_eq_false (by omega)
 have t2':decide (300<ls)=false:=decide_eq_false h2
 by_cases h3:5000<n
 · have t1:decide ((5000:Int)<(n:Int))=true:=decide_eq_true (by omega)
   have t1':decide (5000<n)=true:=decide_eq_true h3
   clear h0 h1 h2 h3 hn hs hnc
   go_wp2_with fail
   go_ret
   exact⟨rfl,CB.out.bel⟩
 have t3:decide ((5000:Int)<(n:Int))=false:=decide_eq_false (by omega)
 have t3':decide (5000<n)=false:=decide_eq_false h3
 have i1:c.iss.size<=1000000:=by omega
 have i2:c.ser.length<=1000000:=by omega
 have i3:ls<=30000:=by omega
 have i4:n<=30000:=by omega
 clear h0 h1 h2 h3 hn hs
 have CX:=zh7 c a ca w2 CB.out.has i1 i2
 unfold crlC at CX
 have CI:=zwd CX
 clear CX
 have NR:=zwd (fun W (h:zbj W c a ca)=>zd2 c a ca W h i1 i2)
 unfold crlC at NR
 have MK:=zwd (fun W (h:zbj W c a ca) (hr:Row W s ls sig)=>zff c a ca s ls cs sig W h i1 i2 hr i3 NS.out)
 unfold crlC at MK
 have MR:=zwd (fun W (h:zbj W c a ca) (hr:Row W s ls sig)=>zmH c a ca s ls cs sig W h i1 i2 hr i3 NS.out)
 unfold crlC at MR
 have RR:=zwd (fun W (h:zbj W c a ca)=>zcP c a ca W h i1 i2)
 unfold crlC at RR
 have RF:=zwd (fun W (h:zbj W c a ca)=>zgw c a ca W h i1 i2)
 unfold crlC at RF
 have LR:=zwd (zn6 zs)
 generalize hNX:nodeC c=NX at*
 generalize hM:makeC c sig=M at*
 generalize hRD:readC zs=RD at*
 clear hNX hM
 go_wp2_with fail
 refine CI.out.mono ?_
 rintro e w3 ⟨A1,n1,c1,K1,m1,d1,rfl,hin,hb⟩
 clear CI t0 t0' t1 t1' t2 t2' t3 t3'
 have AX:=zac w3 (.cells #[.int .i64 NX.1.tag,.slice A1 n1 c1,.slice K1 m1 d1] 30)
 have N1:=zwd (Blk.new w3 30 #[.int .i64 NX.1.tag,.slice A1 n1 c1,.slice K1 m1 d1])
 have I1:=zwd (T.In.below AX _ (T.InP.in _ hin))
 have EX:=hb.trans (AX.mono hb.size)
 replace CB:=zwd (CB.out.go EX)
 replace RS:=zwd (RS.out.below EX)
 replace RZ:=zwd (RZ.out.below EX)
 clear hin hb AX EX
 clear g0 g1 g2 g3 g4
 go_upto_region 5 with fail
 generalize w3.alloc (.cells #[.int .i64 NX.1.tag,.slice A1 n1 c1,.slice K1 m1 d1] 30)=w4 at*
 generalize w3.heap.size=h1 at*
 obtain⟨g0,g1,g2,g3,g4⟩:=CB.out.cells
 go_wp2_with fail
 refine(NR.out w4 CB.out.has).mono ?_
 rintro e w5 ⟨A2,n2,c2,K2,m2,d2,rfl,hin,hb⟩
 clear NR
 have AX:=zac w5 (.cells #[.int .i64 NX.1.tag,.slice A2 n2 c2,.slice K2 m2 d2] 30)
 have N2:=zwd (Blk.new w5 30 #[.int .i64 NX.1.tag,.slice A2 n2 c2,.slice K2 m2 d2])
 have I2:=zwd (T.In.below AX _ (T.InP.in _ hin))
 have EX:=hb.trans (AX.mono hb.size)
 replace CB:=zwd (CB.out.go EX)
 replace RS:=zwd (RS.out.below EX)
 replace RZ:=zwd (RZ.out.below EX)
 replace N1:=zwd (N1.out.below EX N1.out.lt)
 replace I1:=zwd (T.In.below EX _ I1.out)
 clear hin hb AX EX
 clear g0 g1 g2 g3 g4
 go_upto_region 6 with fail
 generalize w5.alloc (.cells #[.int .i64 NX.1.tag,.slice A2 n2 c2,.slice K2 m2 d2] 30)=w6 at*
 generalize w5.heap.size=h2 at*
 obtain⟨x0,x1,x2,_,_,_⟩:=N1.out.facts
 obtain⟨y0,y1,y2,_,_,_⟩:=N2.out.facts
 have CS:=zwd (zdR NX.1 NX.1 _ _ w6 I1.out I2.out)
 have SS:=zwd (zb1 NX.1)
 go_wp2_with fail
 refine CS.out.mono ?_
 rintro e w7 ⟨rfl,hb⟩
 replace CB:=zwd (CB.out.go hb)
 replace RS:=zwd (RS.out.below hb)
 replace RZ:=zwd (RZ.out.below hb)
 rw[SS.out]
 clear CS SS hb N1 N2 I1 I2 x0 x1 x2 y0 y1 y2
 obtain⟨g0,g1,g2,g3,g4⟩:=CB.out.cells
 go_wp2_with fail
 refine(MK.out w7 CB.out.has RS.out).mono ?_
 rintro e w8 ⟨a8,c8,rfl,hr8,_,hb,_⟩
 replace CB:=zwd (CB.out.go hb)
 replace RS:=zwd (RS.out.below hb)
 replace RZ:=zwd (RZ.out.below hb)
 have P8:=zwd hr8
 clear MK hr8 hb
 clear g0 g1 g2 g3 g4
 obtain⟨g0,g1,g2,g3,g4⟩:=CB.out.cells
 go_wp2_with fail
 refine(MR.out w8 CB.out.has RS.out).mono ?_
 rintro e w9 ⟨a9,c9,rfl,hr9,_,hb⟩
 replace CB:=zwd (CB.out.go hb)
 replace RS:=zwd (RS.out.below hb)
 replace RZ:=zwd (RZ.out.below hb)
 replace P8:=zwd (P8.out.below hb)
 have P9:=zwd hr9
 clear MR hr9 hb RS
 clear g0 g1 g2 g3 g4
 have CD:=zig b n cb zs w9 RZ.out hnc i4 NB.out
 rw[hRD]at CD
 have CI:=zwd CD
 clear CD
 have DR:=zwd (fun W (hz:Row W b n zs)=>zih b n cb zs W hz hnc i4)
 rw[hRD]at DR
 clear hRD
 go_wp2_with fail
 refine CI.out.mono ?_
 rintro e w10 ⟨q3,k3,rfl,hat,hb⟩
 clear CI
 have AX:=zac w10 (.cells #[.string RD.1.iss,.int .u32 RD.1.num,.int .i64 RD.1.fr,.int .i64 RD.1.to,.slice q3 RD.1.ser.length k3] 25)
 have N3:=zwd (Blk.new w10 25 #[.string RD.1.iss,.int .u32 RD.1.num,.int .i64 RD.1.fr,.int .i64 RD.1.to,.slice q3 RD.1.ser.length k3])
 have L3:=zwd (hat.below AX)
 have EX:=hb.trans (AX.mono hb.size)
 replace CB:=zwd (CB.out.go EX)
 replace RZ:=zwd (RZ.out.below EX)
 replace P8:=zwd (P8.out.below EX)
 replace P9:=zwd (P9.out.below EX)
 clear hat hb AX EX
 unfold crlC
 go_upto_region 10 with fail
 generalize w10.alloc (.cells #[.string RD.1.iss,.int .u32 RD.1.num,.int .i64 RD.1.fr,.int .i64 RD.1.to,.slice q3 RD.1.ser.length k3] 25)=w11 at*
 generalize w10.heap.size=h3 at*
 go_wp2_with fail
 refine(DR.out w11 RZ.out).mono ?_
 rintro e w12 ⟨q4,k4,rfl,hat,_,hb⟩
 clear DR RZ
 have AX:=zac w12 (.cells #[.string RD.1.iss,.int .u32 RD.1.num,.int .i64 RD.1.fr,.int .i64 RD.1.to,.slice q4 RD.1.ser.length k4] 25)
 have N4:=zwd (Blk.new w12 25 #[.string RD.1.iss,.int .u32 RD.1.num,.int .i64 RD.1.fr,.int .i64 RD.1.to,.slice q4 RD.1.ser.length k4])
 have L4:=zwd (hat.below AX)
 have EX:=hb.trans (AX.mono hb.size)
 replace CB:=zwd (CB.out.go EX)
 replace P8:=zwd (P8.out.below EX)
 replace P9:=zwd (P9.out.below EX)
 replace N3:=zwd (N3.out.below EX N3.out.lt)
 replace L3:=zwd (L3.out.below EX)
 clear hat hb AX EX
 unfold crlC
 go_upto_region 11 with fail
 generalize w12.alloc (.cells #[.string RD.1.iss,.int .u32 RD.1.num,.int .i64 RD.1.fr,.int .i64 RD.1.to,.slice q4 RD.1.ser.length k4] 25)=w13 at*
 generalize w12.heap.size=h4 at*
 obtain⟨x0,x1,x2,x3,x4,_,_,_,_,_⟩:=N3.out.five
 obtain⟨y0,y1,y2,y3,y4,_,_,_,_,_⟩:=N4.out.five
 have CS:=zev RD.1 q3 q4 k3 k4 w13 L3.out L4.out LR.out
 unfold crlC at CS
 have CT:=zwd CS
 clear CS
 go_wp2_with fail
 refine CT.out.mono ?_
 rintro e w14 ⟨rfl,hb⟩
 replace CB:=zwd (CB.out.go hb)
 replace P8:=zwd (P8.out.below hb)
 replace P9:=zwd (P9.out.below hb)
 clear CT hb N3 N4 L3 L4 x0 x1 x2 x3 x4 y0 y1 y2 y3 y4
 have e1:(NX.2==NX.2)=true:=by simp
 have e2:(M.2==M.2)=true:=by simp
 have e3:(RD.2==RD.2)=true:=by simp
 have e4:((strOfNums M.1).toList==(strOfNums M.1).toList)=true:=by simp
 have v1:=zn7 c8 P8.out
 have v2:=zn7 c9 P9.out
 have l0:=zaf (CB.out.blk.cell 0)
 have l1:=zaf (CB.out.blk.cell 1)
 have l2:=zaf (CB.out.blk.cell 2)
 have l3:=zaf (CB.out.blk.cell 3)
 have l4:=zaf (CB.out.blk.cell 4)
 go_upto_region 12 with fail
 refine zaa Ext Ext.refl (fun _ _ _=>Ext.trans) ((0,false)::(1,false)::(2,false)::(3,false)::(4,false)::(5,false)::(6,false)::(7,false)::(8,false)::(9,false)::(10,false)::(11,false)::(12,false)::(13,false)::(14,false)::(15,false)::(16,false)::(17,false)::(18,false)::(19,false)::(20,false)::(21,false)::(22,false)::(23,false)::(24,false)::(25,false)::(26,false)::(27,false)::(28,false)::(29,false)::(30,false)::(32,false)::(31,true)::(33,true)::(34,false)::(35,false)::(36,false)::[]) (by kernel_rfl) (by kernel_rfl) rfl (by kernel_rfl) (fun _ _ _ _ _ h=>h) ?_
 repeat(refine zab _ rfl (by rfl) (fun W hW=>by go_simp;first|done|rfl) ?_;simp only[Act.put,zwe,zwg,zwf])
 have C5:=zwd (CB.out.go (Below.refl w14.heap.size w14).drew)
 clear l0 l1 l2 l3 l4 v1 v2 P8 P9 CB
 generalize w14.drew=w15 at*
 refine zad rfl (by rfl) (fun K1 hK1=> ?_)
 go_simp
 refine(RR.out w15 C5.out.has).mono ?_
 rintro e w16 ⟨rfl,hb⟩
 refine hK1 _ _ hb ?_
 have C6:=zwd (C5.out.go hb)
 clear hK1 K1 hb C5 RR
 try simp only[Act.put,zwe,zwg,zwf]
 refine zad rfl (by rfl) (fun K1 hK1=> ?_)
 go_simp
 refine(RF.out w16 C6.out.has).mono ?_
 rintro e w17 ⟨rfl,hb⟩
 refine hK1 _ _ hb ?_
 have C7:=zwd (C6.out.go hb)
 clear hK1 K1 hb C6 RF
 try simp only[Act.put,zwe,zwg,zwf]
 generalize decide (zaO c)=rc at*
 have e5:(rc==rc)=true:=by simp
 repeat(refine zab _ rfl (by rfl) (fun W hW=>by go_simp;first|done|rfl) ?_;simp only[Act.put,zwe,zwg,zwf])
 refine zai ?_
 go_wp2_with fail
 go_ret
 exact⟨rfl,C7.out.bel⟩
end Go.Proofs.YtpgahclpbdpbnaaGreatDoor
