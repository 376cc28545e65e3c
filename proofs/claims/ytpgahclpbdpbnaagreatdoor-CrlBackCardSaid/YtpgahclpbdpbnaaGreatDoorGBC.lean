import Derived.Test.YtpgahclpbdpbnaaGreatDoorGBA
import Derived.Test.YtpgahclpbdpbnaaGreatDoorGBF
set_option maxHeartbeats 4000000
set_option maxRecDepth 100000
namespace Go.Proofs.YtpgahclpbdpbnaaGreatDoor
open Go.RowKit
set_option linter.unusedVariables false
set_option linter.unusedSimpArgs false
theorem ztW {c:CrlZ} {sig:List Int} (h:(makeC c sig).2=0):(makeC c sig).1.length<=20000:=by
 unfold makeC at h⊢
 split
 · rename_i k
   rw[if_pos k]at h
   have f:=zb7 h
   rw[zcI f.1 f.2.1 f.2.2]
   have:=zcS _ f.1
   show(layT (zaL (crlT c) sig)).length<=20000
   omega
 · exact Nat.zero_le _
theorem zka (c:CrlZ) (a:Option Addr) (ca:Nat) (s:Option Addr) (ls cs:Nat) (sig:List Int) (w:World) (hta:Tab w) (h:zbj w c a ca) (hn:c.ser.length<=maxLen) (hs:c.iss.size<=maxLen) (hr:Row w s ls sig) (hls:ls<=maxLen) (hnil:s=none->cs=0):
 Calls Tryz.prog 5 #[.agg (crlC c a c.ser.length ca),.slice s ls cs] w fun e w'=>e= .returned (.bool true)/\ Below w.heap.size w w':=by
 have b1:=zac w (.cells (crlC c a c.ser.length ca) 25)
 have C1:=zwd (zbG.start h)
 have R1:=zwd (hr.below b1)
 have T1:=zwd (hta.below b1)
 have RG:=zwd h.range
 have NS:=zwd hnil
 clear b1 h hr hta hnil
 unfold crlC at*
 unfold maxLen at*
 go_enter Tryz.func5,Tryz.ntmps5
 go_upto_region 1 with fail
 generalize w.alloc (.cells #[.string c.iss,.int .u32 c.num,.int .i64 c.fr,.int .i64 c.to,.slice a c.ser.length ca] 25)=w1 at*
 go_wp2_with fail
 refine(zew w1 T1.out).mono ?_
 rintro e w2 ⟨rfl,hb⟩
 have C2:=zwd (C1.out.go hb)
 have R2:=zwd (R1.out.below hb)
 clear C1 R1 T1 hb
 obtain⟨g0,g1,g2,g3,g4⟩:=C2.out.cells
 by_cases h1:1000<c.iss.size
 · have t1:decide ((1000:Int)<(c.iss.size:Int))=true:=decide_eq_true (by omega)
   have t1':decide (1000<c.iss.size)=true:=decide_eq_true h1
   clear h1 hn hs hls
   go_wp2_with fail
   go_ret
   exact⟨rfl,C2.out.bel⟩
 have t1:decide ((1000:Int)<(c.iss.size:Int))=false:=decide_eq_false (by omega)
 have t1':decide (1000<c.iss.size)=false:=decide_eq_false h1
 by_cases h2:500<c.ser.length
 · have t2:decide ((500:Int)<(c.ser.length:Int))=true:=decide_eq_true (by omega)
   have t2':decide (500<c.ser.length)=true:=decide_eq_true h2
   clear h1 h2 hn hs hls
   go_wp2_with fail
   go_ret
   exact⟨rfl,C2.out.bel⟩
 have t2:decide ((500:Int)<(c.ser.length:Int))=false:=decide_eq_false (by omega)
 have t2':decide (500<c.ser.length)=false:=decide_eq_false h2
 by_cases h3:300<ls
 · have t3:decide ((300:Int)<(ls:Int))=true:=decide_eq_true (by omega)
   have t3':decide (300<ls)=true:=decide_eq_true h3
   clear h1 h2 h3 hn hs hls
   go_wp2_with fail
   go_ret
   exact⟨rfl,C2.out.bel⟩
 have t3:decide ((300:Int)<(ls:Int))=false:=decide_eq_false (by omega)
 have t3':decide (300<ls)=false:=decide_eq_false h3
 have i1:c.iss.size<=1000000:=by omega
 have i2:c.ser.length<=1000000:=by omega
 have i3:ls<=30000:=by omega
 clear h1 h2 h3 hn hs hls
 have CM:=zff c a ca s ls cs sig w2 C2.out.has i1 i2 R2.out i3 NS.out
 unfold crlC at CM
 have CI:=zwd CM
 clear CM i3 NS
 by_cases hrt:zaO c
 rotate_left
 · rw[zuF sig hrt]at CI
   have HR:Hid (decide (zaO c)=false):=decide_eq_false hrt
   clear hrt RG
   go_wp2_with fail
   refine CI.out.mono ?_
   rintro e w3 ⟨a3,c3,he,_,_,hb3,_⟩
   replace he:e= .returned (.tuple #[.slice a3 0 c3,.int .i64 1]):=he
   subst he
   have C3:=zwd (C2.out.go hb3)
   clear CI C2 R2 hb3 g0 g1 g2 g3 g4 t1 t1' t2 t2' t3 t3'
   obtain⟨g0,g1,g2,g3,g4⟩:=C3.out.cells
   have CR:=zcP c a ca w3 C3.out.has i1 i2
   unfold crlC at CR
   rw[HR.out]at CR
   have CQ:=zwd CR
   clear CR i1 i2
   go_wp2_with fail
   refine CQ.out.mono ?_
   rintro e w4 ⟨rfl,hb4⟩
   have C4:=zwd (C3.out.go hb4)
   clear CQ C3 hb4 g0 g1 g2 g3 g4 HR
   go_wp2_with fail
   go_ret
   exact⟨rfl,C4.out.bel⟩
 rcases znt sig hrt with hm|hm
 rotate_left
 · rw[hm]at CI
   have HR:Hid (decide (zaO c)=true):=decide_eq_true hrt
   clear hrt RG hm
   go_wp2_with fail
   refine CI.out.mono ?_
   rintro e w3 ⟨a3,c3,he,_,_,hb3,_⟩
   replace he:e= .returned (.tuple #[.slice a3 0 c3,.int .i64 5]):=he
   subst he
   have C3:=zwd (C2.out.go hb3)
   clear CI C2 R2 hb3 g0 g1 g2 g3 g4 t1 t1' t2 t2' t3 t3'
   obtain⟨g0,g1,g2,g3,g4⟩:=C3.out.cells
   have CR:=zcP c a ca w3 C3.out.has i1 i2
   unfold crlC at CR
   rw[HR.out]at CR
   have CQ:=zwd CR
   clear CR i1 i2
   go_wp2_with fail
   refine CQ.out.mono ?_
   rintro e w4 ⟨rfl,hb4⟩
   have C4:=zwd (C3.out.go hb4)
   clear CQ C3 hb4 g0 g1 g2 g3 g4 HR
   go_wp2_with fail
   go_ret
   exact⟨rfl,C4.out.bel⟩
 have HR:Hid (decide (zaO c)=true):=decide_eq_true hrt
 have RD:=zwd (zk4 RG.out hm).2
 have ML:=zwd (ztW hm)
 clear hrt RG
 generalize makeC c sig=M at*
 obtain⟨M1,M2⟩:=M
 dsimp only at hm RD ML
 subst hm
 go_wp2_with fail
 refine CI.out.mono ?_
 rintro e w3 ⟨a3,c3,he,hr3,hn3,hb3,hc3⟩
 replace he:e= .returned (.tuple #[.slice a3 M1.length c3,.int .i64 0]):=he
 subst he
 have C3:=zwd (C2.out.go hb3)
 have CRd:=zig a3 M1.length c3 M1 w3 hr3 hc3 (by have:=ML.out;omega) hn3
 rw[RD.out]at CRd
 have CK:=zwd CRd
 clear CI C2 R2 hb3 hr3 hn3 hc3 CRd RD ML g0 g1 g2 g3 g4 t1 t1' t2 t2' t3 t3'
 obtain⟨g0,g1,g2,g3,g4⟩:=C3.out.cells
 go_wp2_with fail
 refine CK.out.mono ?_
 rintro e w4 ⟨a4,c4,he,hat,hb4⟩
 replace he:e= .returned (.tuple #[.agg #[.string c.iss,.int .u32 c.num,.int .i64 c.fr,.int .i64 c.to,.slice a4 c.ser.length c4],.int .i64 0]):=he
 subst he
 have A5:=zac w4 (.cells #[.string c.iss,.int .u32 c.num,.int .i64 c.fr,.int .i64 c.to,.slice a4 c.ser.length c4] 25)
 have E5:=hb4.trans (A5.mono hb4.size)
 have Y5:=zwd (Blk.new w4 25 #[.string c.iss,.int .u32 c.num,.int .i64 c.fr,.int .i64 c.to,.slice a4 c.ser.length c4])
 have C5:=zwd (C3.out.go E5)
 have L5:=zwd (show zbj _ c a4 c4 from hat.below A5)
 clear CK C3 hat hb4 A5 E5 g0 g1 g2 g3 g4
 go_upto_region 8 with fail
 generalize w4.alloc (.cells #[.string c.iss,.int .u32 c.num,.int .i64 c.fr,.int .i64 c.to,.slice a4 c.ser.length c4] 25)=w5 at*
 generalize w4.heap.size=g5 at*
 obtain⟨g0,g1,g2,g3,g4⟩:=C5.out.cells
 obtain⟨y0,y1,y2,y3,y4,_,_,_,_,_⟩:=Y5.out.five
 have CS:=zev c a a4 ca c4 w5 C5.out.has L5.out i2
 unfold crlC at CS
 have CT:=zwd CS
 clear CS
 go_wp2_with fail
 refine CT.out.mono ?_
 rintro e w6 ⟨rfl,hb6⟩
 have C6:=zwd (C5.out.go hb6)
 have L6:=zwd (L5.out.below hb6)
 have Y6:=zwd (Y5.out.below hb6 Y5.out.lt)
 clear CT C5 L5 Y5 hb6 g0 g1 g2 g3 g4 y0 y1 y2 y3 y4
 obtain⟨y0,y1,y2,y3,y4,_,_,_,_,_⟩:=Y6.out.five
 have CR:=zcP c a4 c4 w6 L6.out i1 i2
 unfold crlC at CR
 rw[HR.out]at CR
 have CQ:=zwd CR
 clear CR i1 i2
 go_wp2_with fail
 refine CQ.out.mono ?_
 rintro e w7 ⟨rfl,hb7⟩
 have C7:=zwd (C6.out.go hb7)
 clear CQ C6 L6 Y6 hb7 y0 y1 y2 y3 y4 HR
 go_wp2_with fail
 go_ret
 exact⟨rfl,C7.out.bel⟩
end Go.Proofs.YtpgahclpbdpbnaaGreatDoor
