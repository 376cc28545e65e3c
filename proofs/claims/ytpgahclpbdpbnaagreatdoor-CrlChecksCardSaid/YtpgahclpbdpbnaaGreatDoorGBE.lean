import Derived.Test.YtpgahclpbdpbnaaGreatDoorGBB
import Derived.Test.YtpgahclpbdpbnaaGreatDoorGAZ
import Derived.Test.YtpgahclpbdpbnaaGreatDoorGBA
import Derived.ChangeArms
set_option maxHeartbeats 4000000
namespace Go.Proofs.YtpgahclpbdpbnaaGreatDoor
open Go.RowKit
set_option linter.unusedVariables false
set_option linter.unusedSimpArgs false
theorem zlH (b:Option Addr) (n cb:Nat) (zs:List Int) (x:ziq) (now:Int) (w:World) (hr:Row w b n zs) (hnc:n<=cb) (hn:n<=10000) (hnil:b=none->cb=0) (hx:zeu w x) (hk:x.kn<=10000):
 Calls Tryz.prog 19 #[.slice b n cb,.agg (zcF x),.int .i64 now] w (zbk (checkC zs x.sub x.ns x.ke now) w):=by
 have X1:=(Blk.new w 49 (zcF x)).alloc (.cells #[.string ⟨#[]⟩,.int .u32 0,.int .i64 0,.int .i64 0,.slice none 0 0] 25)
 have S1:=Blk.new (w.alloc (.cells (zcF x) 49)) 25 #[.string ⟨#[]⟩,.int .u32 0,.int .i64 0,.int .i64 0,.slice none 0 0]
 rw[show(w.alloc (.cells (zcF x) 49)).heap.size=w.heap.size+1 by simp]at S1
 have b1:=(zac w (.cells (zcF x) 49)).alloc (by simp) (.cells #[.string ⟨#[]⟩,.int .u32 0,.int .i64 0,.int .i64 0,.slice none 0 0] 25)
 have C1:=zwd X1
 have R1:=zwd S1
 have B1:=zwd b1
 have K1:=zwd (hx.below b1)
 have Z1:=zwd (hr.below b1)
 have CO:=zwd (zih b n cb zs _ (hr.below b1) hnc (by omega))
 have HB:=zwd hr.2.1
 have HL:Hid (zs.length<=10000):=zwd (by rw[hr.1];exact hn)
 clear X1 S1 b1 hr hx
 unfold zcF at*
 go_enter Tryz.func19,Tryz.ntmps19
 go_upto_region 1 with fail
 generalize(w.alloc (.cells #[.int .u32 x.ser,.string x.iss,.string x.sub,.int .i64 x.fr,.int .i64 x.to,.slice x.ka x.kn x.kc,.int .u32 x.ke,.bool x.ca,.bool x.inh,.slice x.sa x.sn x.sc,.slice x.ra x.rn x.rc,.string x.repo,.string x.crl] 49)).alloc (.cells #[.string ⟨#[]⟩,.int .u32 0,.int .i64 0,.int .i64 0,.slice none 0 0] 25)=w1 at*
 have s1:Hid (w.heap.size+1<w1.heap.size):=R1.out.lt
 go_wp2_with fail
 refine CO.out.mono ?_
 rintro e w2 ⟨a,ca,rfl,hat,hfar,hb2⟩
 have A3:=zac w2 (.cells #[.string (readC zs).1.iss,.int .u32 (readC zs).1.num,.int .i64 (readC zs).1.fr,.int .i64 (readC zs).1.to,.slice a (readC zs).1.ser.length ca] 25)
 have E3:=hb2.trans (A3.mono hb2.size)
 have Y3:=zwd (Blk.new w2 25 #[.string (readC zs).1.iss,.int .u32 (readC zs).1.num,.int .i64 (readC zs).1.fr,.int .i64 (readC zs).1.to,.slice a (readC zs).1.ser.length ca])
 have C3:=zwd (C1.out.below E3 C1.out.lt)
 have R3:=zwd (R1.out.below E3 R1.out.lt)
 have B3:=zwd (B1.out.trans (E3.mono B1.out.size))
 have K3:=zwd (K1.out.below E3)
 have Z3:=zwd (Z1.out.below E3)
 have L3:=zwd (hat.below A3)
 have F3:Hid (∀b off,a=some ⟨b,off,none⟩->b≠w.heap.size+1):=zwd (fun b off e=>by have:=hfar b off e;have:=s1.out;omega)
 have FN:Hid (¬(readC zs).2=0->checkC zs x.sub x.ns x.ke now=(za8,(readC zs).2)):=fun h=>znO h
 have FY:Hid (∀c said sig,readC zs=(c,0)->zbR zs= .ok (crlT c,said,sig)->checkC zs x.sub x.ns x.ke now=if c.iss=x.sub then(if verZ x.ns x.ke said sig=0 then(if c.fr<=now/\ now<=c.to then(c,0)else(za8,7))else(za8,verZ x.ns x.ke said sig))else(za8,12)):=fun c said sig h ho=>zjZ x.sub x.ns x.ke now h ho
 have FO:Hid (∀c,readC zs=(c,0)->∃said sig,zbR zs= .ok (crlT c,said,sig)):=fun c h=>by
  obtain⟨said,sig,h1,_⟩:=zjY h
  exact⟨said,sig,h1⟩
 clear C1 R1 B1 K1 Z1 CO hb2 hat hfar A3 E3 s1
 generalize checkC zs x.sub x.ns x.ke now=Y at*
 generalize readC zs=RZ at*
 obtain⟨c,er⟩:=RZ
 dsimp only at Y3 L3 FN⊢
 unfold crlC
 go_upto_region 2 with fail
 generalize w2.alloc (.cells #[.string c.iss,.int .u32 c.num,.int .i64 c.fr,.int .i64 c.to,.slice a c.ser.length ca] 25)=w3 at*
 generalize w2.heap.size=g3 at*
 obtain⟨y0,y1,y2,y3,y4,_,_,_,_,_⟩:=Y3.out.five
 obtain⟨p0,p1,p2,p3,p4,f0,f1,f2,f3,f4⟩:=R3.out.five
 have q2:w3.cell? ⟨w.heap.size,2,none⟩=some (.string x.sub):=C3.out.cell 2
 by_cases he:er=0
 rotate_left
 · have F:=zwd (FN.out he)
   have t0:(er !=0)=true:=by simpa using he
   clear FN FY FO he q2
   go_wp2_with fail
   exact zaV (R:=zbk Y w) (W:=w3) (g:=w.heap.size+1) rfl rfl rfl R3.out (Nat.le_succ _) B3.out (fun W' h1 h2=>by rw[F.out];exact⟨none,0,rfl,h1,h2⟩)
 subst he
 obtain⟨said,sig,ho⟩:=FO.out c rfl
 have F:=zwd (FY.out c said sig rfl ho)
 obtain⟨sl,dl⟩:=zn1 HB.out ho
 have lsd:said.length<=10000:=by have:=HL.out;omega
 have lsg:sig.length<=10000:=by have:=HL.out;omega
 have OZ:=zwd ho
 clear FN FY FO ho sl dl HB HL
 by_cases hs:c.iss=x.sub
 rotate_left
 · obtain⟨ts,tn⟩:=zlE hs
   rw[if_neg hs]at F
   clear hs
   go_wp2_with fail
   exact zaV (R:=zbk Y w) (W:=w3) (g:=w.heap.size+1) rfl rfl rfl R3.out (Nat.le_succ _) B3.out (fun W' h1 h2=>by rw[F.out];exact⟨none,0,rfl,h1,h2⟩)
 obtain⟨ts,tn⟩:=zn2 hs
 rw[if_pos hs]at F
 clear hs
 have CP:=zlG b n cb zs w3 Z3.out hnc (by omega)
 rw[OZ.out]at CP
 have CQ:=zwd CP
 clear CP OZ
 go_wp2_with fail
 refine CQ.out.mono ?_
 rintro e w4 ⟨hb4,hways⟩
 rcases hways with⟨z,hz,_⟩|⟨t,said',sig',A,nb,c5,K,m,d,a1,c1,a2,c2,hz,rfl,hin,hr1,hn1,hr2,hn2⟩
 · cases hz
 obtain⟨hq1,hq2⟩:=Prod.mk.inj (Except.ok.inj hz)
 obtain⟨hq2,hq3⟩:=Prod.mk.inj hq2
 subst hq1
 subst hq2
 subst hq3
 have A5:=zac w4 (.cells #[.int .i64 (crlT c).tag,.slice A nb c5,.slice K m d] 30)
 have E5:=hb4.trans (A5.mono hb4.size)
 have C5:=zwd (C3.out.below E5 C3.out.lt)
 have R5:=zwd (R3.out.below E5 R3.out.lt)
 have B5:=zwd (B3.out.trans (E5.mono B3.out.size))
 have K5:=zwd (K3.out.below E5)
 have L5:=zwd (L3.out.below E5)
 have Y5:=zwd (Y3.out.below E5 Y3.out.lt)
 have D5:=zwd (hr1.below A5)
 have G5:=zwd (hr2.below A5)
 have n1:=zwd hn1.1
 clear CQ C3 R3 B3 K3 L3 Y3 Z3 hb4 hz hin hr1 hr2 hn1 hn2 A5 E5 p0 p1 p2 p3 p4 f0 f1 f2 f3 f4 q2 y0 y1 y2 y3 y4
 go_upto_region 7 with fail
 generalize w4.alloc (.cells #[.int .i64 (crlT c).tag,.slice A nb c5,.slice K m d] 30)=w5 at*
 generalize w4.heap.size=g5 at*
 obtain⟨y0,y1,y2,y3,y4,_,_,_,_,_⟩:=Y5.out.five
 obtain⟨p0,p1,p2,p3,p4,f0,f1,f2,f3,f4⟩:=R5.out.five
 have q5:w5.cell? ⟨w.heap.size,5,none⟩=some (.slice x.ka x.kn x.kc):=C5.out.cell 5
 have q6:w5.cell? ⟨w.heap.size,6,none⟩=some (.int .u32 x.ke):=C5.out.cell 6
 have CV:=zwd (zmC x.ka a2 a1 x.kn x.kc sig.length c2 said.length c1 x.ke x.ns sig said w5 K5.out.key hk D5.out lsd n1.out G5.out lsg)
 go_wp2_with fail
 refine CV.out.mono ?_
 rintro e w6 ⟨rfl,hb6⟩
 have R6:=zwd (R5.out.below hb6 R5.out.lt)
 have B6:=zwd (B5.out.trans (hb6.mono B5.out.size))
 have L6:=zwd (L5.out.below hb6)
 have Y6:=zwd (Y5.out.below hb6 Y5.out.lt)
 clear CV C5 R5 B5 L5 K5 D5 G5 Y5 hb6 p0 p1 p2 p3 p4 f0 f1 f2 f3 f4 q5 q6 y0 y1 y2 y3 y4
 obtain⟨y0,y1,y2,y3,y4,_,_,_,_,_⟩:=Y6.out.five
 obtain⟨p0,p1,p2,p3,p4,f0,f1,f2,f3,f4⟩:=R6.out.five
 generalize verZ x.ns x.ke said sig=vz at*
 by_cases hv:vz=0
 rotate_left
 · have tv:(vz !=0)=true:=by simpa using hv
   rw[if_neg hv]at F
   clear hv
   go_wp2_with fail
   exact zaV (R:=zbk Y w) (W:=w6) (g:=w.heap.size+1) rfl rfl rfl R6.out (Nat.le_succ _) B6.out (fun W' h1 h2=>by rw[F.out];exact⟨none,0,rfl,h1,h2⟩)
 have tv:(vz !=0)=false:=by simpa using hv
 rw[if_pos hv]at F
 clear hv
 by_cases h1:now<c.fr
 · have t1:decide (now<c.fr)=true:=decide_eq_true h1
   rw[if_neg (by omega)]at F
   clear h1
   go_wp2_with fail
   exact zaV (R:=zbk Y w) (W:=w6) (g:=w.heap.size+1) rfl rfl rfl R6.out (Nat.le_succ _) B6.out (fun W' h1 h2=>by rw[F.out];exact⟨none,0,rfl,h1,h2⟩)
 have t1:decide (now<c.fr)=false:=decide_eq_false h1
 by_cases h2:c.to<now
 · have t2:decide (c.to<now)=true:=decide_eq_true h2
   rw[if_neg (by omega)]at F
   clear h1 h2
   go_wp2_with fail
   exact zaV (R:=zbk Y w) (W:=w6) (g:=w.heap.size+1) rfl rfl rfl R6.out (Nat.le_succ _) B6.out (fun W' h1 h2=>by rw[F.out];exact⟨none,0,rfl,h1,h2⟩)
 have t2:decide (c.to<now)=false:=decide_eq_false h2
 rw[if_pos (by omega)]at F
 clear h1 h2
 go_wp2_with fail
 exact zdF (x:=c) (a:=a) (ca:=ca) (R:=zbk Y w) (W:=w6) (g:=w.heap.size+1) rfl rfl rfl R6.out (Nat.le_succ _) B6.out L6.out F3.out (fun W' h1 h2=>by rw[F.out];exact⟨a,ca,rfl,h1,h2⟩)
theorem zlI (u:Bool) (a b:Option Addr) (n c m d:Nat) (w:World):Calls Tryz.prog 39 #[.agg #[.bool u,.slice a n c,.slice b m d]] w fun e w'=>e= .returned (.bool (decide (n<=30)&&decide (m<=30)))/\ Below w.heap.size w w':=by
 have b1:=zac w (.cells #[.bool u,.slice a n c,.slice b m d] 47)
 have X:=zwd (Blk.new w 47 #[.bool u,.slice a n c,.slice b m d])
 have B1:=zwd b1
 clear b1
 go_enter Tryz.func39,Tryz.ntmps39
 go_upto_region 1 with fail
 generalize w.alloc (.cells #[.bool u,.slice a n c,.slice b m d] 47)=w1 at*
 have x1:w1.cell? ⟨w.heap.size,1,none⟩=some (.slice a n c):=X.out.cell 1
 have x2:w1.cell? ⟨w.heap.size,2,none⟩=some (.slice b m d):=X.out.cell 2
 by_cases h:n<=30
 · have t1:decide ((n:Int)<=30)=true:=decide_eq_true (by omega)
   have t2:decide (n<=30)=true:=decide_eq_true h
   by_cases h2:m<=30
   · have t3:decide ((m:Int)<=30)=true:=decide_eq_true (by omega)
     have t4:decide (m<=30)=true:=decide_eq_true h2
     have F:Hid ((decide (n<=30)&&decide (m<=30))=true):=zwd (by rw[t2,t4];rfl)
     clear h h2
     go_wp2_with fail
     go_ret
     exact⟨zaj F.out.symm,B1.out⟩
   · have t3:decide ((m:Int)<=30)=false:=decide_eq_false (by omega)
     have t4:decide (m<=30)=false:=decide_eq_false h2
     have F:Hid ((decide (n<=30)&&decide (m<=30))=false):=zwd (by rw[t2,t4];rfl)
     clear h h2
     go_wp2_with fail
     go_ret
     exact⟨zaj F.out.symm,B1.out⟩
 · have t1:decide ((n:Int)<=30)=false:=decide_eq_false (by omega)
   have t2:decide (n<=30)=false:=decide_eq_false h
   have F:Hid ((decide (n<=30)&&decide (m<=30))=false):=zwd (by rw[t2];rfl)
   clear h
   go_wp2_with fail
   go_ret
   exact⟨zaj F.out.symm,B1.out⟩
theorem zlJ (x:ziq) (w:World) (hx:zeu w x):Calls Tryz.prog 17 #[.agg (zcF x)] w fun e w'=>(∃v:Bool,e= .returned (.bool v)/\ (v=true->x.kn<=140))/\ Below w.heap.size w w':=by
 have b1:=zac w (.cells (zcF x) 49)
 have X1:=zwd (Blk.new w 49 (zcF x))
 have B1:=zwd b1
 have K1:=zwd (hx.below b1)
 obtain⟨z1,z2,z3,z4,z5⟩:=hx.sz
 clear b1 hx
 unfold zcF at*
 unfold maxLen at*
 go_enter Tryz.func17,Tryz.ntmps17
 go_upto_region 1 with fail
 generalize w.alloc (.cells #[.int .u32 x.ser,.string x.iss,.string x.sub,.int .i64 x.fr,.int .i64 x.to,.slice x.ka x.kn x.kc,.int .u32 x.ke,.bool x.ca,.bool x.inh,.slice x.sa x.sn x.sc,.slice x.ra x.rn x.rc,.string x.repo,.string x.crl] 49)=w1 at*
 have q1:w1.cell? ⟨w.heap.size,1,none⟩=some (.string x.iss):=X1.out.cell 1
 have q2:w1.cell? ⟨w.heap.size,2,none⟩=some (.string x.sub):=X1.out.cell 2
 have q5:w1.cell? ⟨w.heap.size,5,none⟩=some (.slice x.ka x.kn x.kc):=X1.out.cell 5
 have q6:w1.cell? ⟨w.heap.size,6,none⟩=some (.int .u32 x.ke):=X1.out.cell 6
 have q8:w1.cell? ⟨w.heap.size,8,none⟩=some (.bool x.inh):=X1.out.cell 8
 have q9:w1.cell? ⟨w.heap.size,9,none⟩=some (.slice x.sa x.sn x.sc):=X1.out.cell 9
 have q10:w1.cell? ⟨w.heap.size,10,none⟩=some (.slice x.ra x.rn x.rc):=X1.out.cell 10
 have q11:w1.cell? ⟨w.heap.size,11,none⟩=some (.string x.repo):=X1.out.cell 11
 have q12:w1.cell? ⟨w.heap.size,12,none⟩=some (.string x.crl):=X1.out.cell 12
 obtain⟨s1,e1⟩:∃s,IntKind.i64.wrap ((x.iss.size:Int)+(x.sub.size:Int))=s:=⟨_,rfl⟩
 obtain⟨s2,e2⟩:∃s,IntKind.i64.wrap (s1+(x.repo.size:Int))=s:=⟨_,rfl⟩
 obtain⟨s3,e3⟩:∃s,IntKind.i64.wrap (s2+(x.crl.size:Int))=s:=⟨_,rfl⟩
 by_cases h:s3<3000
 rotate_left
 · have t1:decide (s3<3000)=false:=decide_eq_false h
   clear h z1 z2 z3 z4 z5
   go_wp2_with fail
   go_ret
   exact⟨⟨false,rfl,fun h=>by cases h⟩,B1.out⟩
 have t1:decide (s3<3000)=true:=decide_eq_true h
 clear h
 go_wp2_with fail
 refine(zo3 x.ka x.kn x.kc x.ke x.ns w1 K1.out.key (by unfold maxLen;omega)).mono ?_
 rintro e w2 ⟨rfl,hb2⟩
 have B2:=zwd (B1.out.trans (hb2.mono B1.out.size))
 have X2:=zwd (X1.out.below hb2 X1.out.lt)
 clear B1 X1 K1 hb2 q1 q2 q5 q6 q8 q9 q10 q11 q12 z1 z2 z3 z4 z5
 have q8:w2.cell? ⟨w.heap.size,8,none⟩=some (.bool x.inh):=X2.out.cell 8
 have q9:w2.cell? ⟨w.heap.size,9,none⟩=some (.slice x.sa x.sn x.sc):=X2.out.cell 9
 have q10:w2.cell? ⟨w.heap.size,10,none⟩=some (.slice x.ra x.rn x.rc):=X2.out.cell 10
 by_cases hk:x.kn<=140
 rotate_left
 · rw[decide_eq_false hk]
   clear hk
   go_wp2_with fail
   go_ret
   exact⟨⟨false,rfl,fun h=>by cases h⟩,B2.out⟩
 rw[decide_eq_true hk]
 have HK:=zwd hk
 clear hk
 go_wp2_with fail
 refine(zlI x.inh x.sa x.ra x.sn x.sc x.rn x.rc w2).mono ?_
 rintro e w3 ⟨rfl,hb3⟩
 have B3:=zwd (B2.out.trans (hb3.mono B2.out.size))
 clear B2 X2 hb3 q8 q9 q10
 go_wp2_with fail
 go_ret
 exact⟨⟨_,rfl,fun _=>HK.out⟩,B3.out⟩
end Go.Proofs.YtpgahclpbdpbnaaGreatDoor
namespace Go.Proofs.YtpgahclpbdpbnaaGreatDoor
open Go.RowKit
set_option linter.unusedVariables false
set_option linter.unusedSimpArgs false
theorem zr7 (zs:List Int) (sub:ByteArray) (ns:List Int) (e now:Int):(checkC zs sub ns e now).1.ser.length<=1000000:=by
 have h:=zn6 zs
 unfold checkC
 repeat' split
 all_goals first|exact h|exact Nat.zero_le _
theorem zii (b:Option Addr) (n cb:Nat) (zs:List Int) (x:ziq) (now:Int) (w:World) (hta:Tab w) (hr:Row w b n zs) (hnc:n<=cb) (hnil:b=none->cb=0) (hx:zeu w x):
 Calls Tryz.prog 4 #[.slice b n cb,.agg (zcF x),.int .i64 now] w fun e w'=>e= .returned (.bool true)/\ Below w.heap.size w w':=by
 have b1:=zac w (.cells (zcF x) 49)
 have X1:=zwd (Blk.new w 49 (zcF x))
 have B1:=zwd b1
 have R1:=zwd (hr.below b1)
 have K1:=zwd (hx.below b1)
 have T1:=zwd (hta.below b1)
 have NI:=zwd hnil
 clear b1 hr hx hta hnil
 unfold zcF at*
 go_enter Tryz.func4,Tryz.ntmps4
 go_upto_region 1 with fail
 generalize w.alloc (.cells #[.int .u32 x.ser,.string x.iss,.string x.sub,.int .i64 x.fr,.int .i64 x.to,.slice x.ka x.kn x.kc,.int .u32 x.ke,.bool x.ca,.bool x.inh,.slice x.sa x.sn x.sc,.slice x.ra x.rn x.rc,.string x.repo,.string x.crl] 49)=w1 at*
 go_wp2_with fail
 refine(zew w1 T1.out).mono ?_
 rintro e w2 ⟨rfl,hb⟩
 have X2:=zwd (X1.out.below hb X1.out.lt)
 have B2:=zwd (B1.out.trans (hb.mono B1.out.size))
 have R2:=zwd (R1.out.below hb)
 have K2:=zwd (K1.out.below hb)
 have T2:=zwd (T1.out.below hb)
 clear X1 B1 R1 K1 T1 hb
 have q0:w2.cell? ⟨w.heap.size,0,none⟩=some (.int .u32 x.ser):=X2.out.cell 0
 have q1:w2.cell? ⟨w.heap.size,1,none⟩=some (.string x.iss):=X2.out.cell 1
 have q2:w2.cell? ⟨w.heap.size,2,none⟩=some (.string x.sub):=X2.out.cell 2
 have q3:w2.cell? ⟨w.heap.size,3,none⟩=some (.int .i64 x.fr):=X2.out.cell 3
 have q4:w2.cell? ⟨w.heap.size,4,none⟩=some (.int .i64 x.to):=X2.out.cell 4
 have q5:w2.cell? ⟨w.heap.size,5,none⟩=some (.slice x.ka x.kn x.kc):=X2.out.cell 5
 have q6:w2.cell? ⟨w.heap.size,6,none⟩=some (.int .u32 x.ke):=X2.out.cell 6
 have q7:w2.cell? ⟨w.heap.size,7,none⟩=some (.bool x.ca):=X2.out.cell 7
 have q8:w2.cell? ⟨w.heap.size,8,none⟩=some (.bool x.inh):=X2.out.cell 8
 have q9:w2.cell? ⟨w.heap.size,9,none⟩=some (.slice x.sa x.sn x.sc):=X2.out.cell 9
 have q10:w2.cell? ⟨w.heap.size,10,none⟩=some (.slice x.ra x.rn x.rc):=X2.out.cell 10
 have q11:w2.cell? ⟨w.heap.size,11,none⟩=some (.string x.repo):=X2.out.cell 11
 have q12:w2.cell? ⟨w.heap.size,12,none⟩=some (.string x.crl):=X2.out.cell 12
 have CL:=zlJ x w2 K2.out
 unfold zcF at CL
 have CM:=zwd CL
 clear CL
 go_wp2_with fail
 refine CM.out.mono ?_
 rintro e w3 ⟨⟨v,rfl,hv⟩,hb⟩
 have X3:=zwd (X2.out.below hb X2.out.lt)
 have B3:=zwd (B2.out.trans (hb.mono B2.out.size))
 have R3:=zwd (R2.out.below hb)
 have K3:=zwd (K2.out.below hb)
 have T3:=zwd (T2.out.below hb)
 clear CM X2 B2 R2 K2 T2 hb q0 q1 q2 q3 q4 q5 q6 q7 q8 q9 q10 q11 q12
 cases v
 · clear hv
   go_wp2_with fail
   go_ret
   exact⟨rfl,B3.out⟩
 have hk:x.kn<=10000:=by have:=hv rfl;omega
 clear hv
 by_cases h:5000<n
 · have t1:decide ((5000:Int)<(n:Int))=true:=decide_eq_true (by omega)
   have t1':decide (5000<n)=true:=decide_eq_true h
   clear h hnc hk
   go_wp2_with fail
   go_ret
   exact⟨rfl,B3.out⟩
 have t1:decide ((5000:Int)<(n:Int))=false:=decide_eq_false (by omega)
 have t1':decide (5000<n)=false:=decide_eq_false h
 have q0:w3.cell? ⟨w.heap.size,0,none⟩=some (.int .u32 x.ser):=X3.out.cell 0
 have q1:w3.cell? ⟨w.heap.size,1,none⟩=some (.string x.iss):=X3.out.cell 1
 have q2:w3.cell? ⟨w.heap.size,2,none⟩=some (.string x.sub):=X3.out.cell 2
 have q3:w3.cell? ⟨w.heap.size,3,none⟩=some (.int .i64 x.fr):=X3.out.cell 3
 have q4:w3.cell? ⟨w.heap.size,4,none⟩=some (.int .i64 x.to):=X3.out.cell 4
 have q5:w3.cell? ⟨w.heap.size,5,none⟩=some (.slice x.ka x.kn x.kc):=X3.out.cell 5
 have q6:w3.cell? ⟨w.heap.size,6,none⟩=some (.int .u32 x.ke):=X3.out.cell 6
 have q7:w3.cell? ⟨w.heap.size,7,none⟩=some (.bool x.ca):=X3.out.cell 7
 have q8:w3.cell? ⟨w.heap.size,8,none⟩=some (.bool x.inh):=X3.out.cell 8
 have q9:w3.cell? ⟨w.heap.size,9,none⟩=some (.slice x.sa x.sn x.sc):=X3.out.cell 9
 have q10:w3.cell? ⟨w.heap.size,10,none⟩=some (.slice x.ra x.rn x.rc):=X3.out.cell 10
 have q11:w3.cell? ⟨w.heap.size,11,none⟩=some (.string x.repo):=X3.out.cell 11
 have q12:w3.cell? ⟨w.heap.size,12,none⟩=some (.string x.crl):=X3.out.cell 12
 have CL:=zgz b n cb zs x now w3 R3.out hnc (by omega) NI.out K3.out hk T3.out
 unfold zcF at CL
 have CM:=zwd CL
 have CH:=zwd (fun W (hr:Row W b n zs) (hx:zeu W x)=>zlH b n cb zs x now W hr hnc (by omega) NI.out hx hk)
 unfold zcF at CH
 clear CL h hnc hk
 have SL:Hid ((checkC zs x.sub x.ns x.ke now).1.ser.length<=1000000):=zwd (zr7 zs x.sub x.ns x.ke now)
 generalize checkC zs x.sub x.ns x.ke now=Y at*
 go_wp2_with fail
 refine CM.out.mono ?_
 rintro e w4 ⟨a4,c4,rfl,hat,hb⟩
 have A5:=zac w4 (.cells #[.string Y.1.iss,.int .u32 Y.1.num,.int .i64 Y.1.fr,.int .i64 Y.1.to,.slice a4 Y.1.ser.length c4] 25)
 have E5:=hb.trans (A5.mono hb.size)
 have Y5:=zwd (Blk.new w4 25 #[.string Y.1.iss,.int .u32 Y.1.num,.int .i64 Y.1.fr,.int .i64 Y.1.to,.slice a4 Y.1.ser.length c4])
 have X5:=zwd (X3.out.below E5 X3.out.lt)
 have B5:=zwd (B3.out.trans (E5.mono B3.out.size))
 have R5:=zwd (R3.out.below E5)
 have K5:=zwd (K3.out.below E5)
 have L5:=zwd (hat.below A5)
 clear CM X3 B3 R3 K3 T3 hat hb A5 E5 q0 q1 q2 q3 q4 q5 q6 q7 q8 q9 q10 q11 q12
 unfold crlC
 go_upto_region 6 with fail
 generalize w4.alloc (.cells #[.string Y.1.iss,.int .u32 Y.1.num,.int .i64 Y.1.fr,.int .i64 Y.1.to,.slice a4 Y.1.ser.length c4] 25)=w5 at*
 generalize w4.heap.size=g5 at*
 have q0:w5.cell? ⟨w.heap.size,0,none⟩=some (.int .u32 x.ser):=X5.out.cell 0
 have q1:w5.cell? ⟨w.heap.size,1,none⟩=some (.string x.iss):=X5.out.cell 1
 have q2:w5.cell? ⟨w.heap.size,2,none⟩=some (.string x.sub):=X5.out.cell 2
 have q3:w5.cell? ⟨w.heap.size,3,none⟩=some (.int .i64 x.fr):=X5.out.cell 3
 have q4:w5.cell? ⟨w.heap.size,4,none⟩=some (.int .i64 x.to):=X5.out.cell 4
 have q5:w5.cell? ⟨w.heap.size,5,none⟩=some (.slice x.ka x.kn x.kc):=X5.out.cell 5
 have q6:w5.cell? ⟨w.heap.size,6,none⟩=some (.int .u32 x.ke):=X5.out.cell 6
 have q7:w5.cell? ⟨w.heap.size,7,none⟩=some (.bool x.ca):=X5.out.cell 7
 have q8:w5.cell? ⟨w.heap.size,8,none⟩=some (.bool x.inh):=X5.out.cell 8
 have q9:w5.cell? ⟨w.heap.size,9,none⟩=some (.slice x.sa x.sn x.sc):=X5.out.cell 9
 have q10:w5.cell? ⟨w.heap.size,10,none⟩=some (.slice x.ra x.rn x.rc):=X5.out.cell 10
 have q11:w5.cell? ⟨w.heap.size,11,none⟩=some (.string x.repo):=X5.out.cell 11
 have q12:w5.cell? ⟨w.heap.size,12,none⟩=some (.string x.crl):=X5.out.cell 12
 go_wp2_with fail
 refine(CH.out w5 R5.out K5.out).mono ?_
 rintro e w6 ⟨a6,c6,rfl,hat,hb⟩
 have A7:=zac w6 (.cells #[.string Y.1.iss,.int .u32 Y.1.num,.int .i64 Y.1.fr,.int .i64 Y.1.to,.slice a6 Y.1.ser.length c6] 25)
 have E7:=hb.trans (A7.mono hb.size)
 have Z7:=zwd (Blk.new w6 25 #[.string Y.1.iss,.int .u32 Y.1.num,.int .i64 Y.1.fr,.int .i64 Y.1.to,.slice a6 Y.1.ser.length c6])
 have Y7:=zwd (Y5.out.below E7 Y5.out.lt)
 have B7:=zwd (B5.out.trans (E7.mono B5.out.size))
 have L7:=zwd (L5.out.below E7)
 have M7:=zwd (hat.below A7)
 clear CH X5 B5 R5 K5 L5 Y5 hat hb A7 E7 q0 q1 q2 q3 q4 q5 q6 q7 q8 q9 q10 q11 q12
 unfold crlC
 go_upto_region 7 with fail
 generalize w6.alloc (.cells #[.string Y.1.iss,.int .u32 Y.1.num,.int .i64 Y.1.fr,.int .i64 Y.1.to,.slice a6 Y.1.ser.length c6] 25)=w7 at*
 generalize w6.heap.size=g7 at*
 obtain⟨y0,y1,y2,y3,y4,_,_,_,_,_⟩:=Y7.out.five
 obtain⟨z0,z1,z2,z3,z4,_,_,_,_,_⟩:=Z7.out.five
 have CS:=zev Y.1 a4 a6 c4 c6 w7 L7.out M7.out SL.out
 unfold crlC at CS
 have CT:=zwd CS
 have te:(Y.2==Y.2)=true:=by simp
 clear CS SL
 go_wp2_with fail
 refine CT.out.mono ?_
 rintro e w8 ⟨rfl,hb⟩
 have B8:=zwd (B7.out.trans (hb.mono B7.out.size))
 clear CT hb y0 y1 y2 y3 y4 z0 z1 z2 z3 z4 B7 Y7 Z7 L7 M7
 go_wp2_with fail
 go_ret
 exact⟨rfl,B8.out⟩
end Go.Proofs.YtpgahclpbdpbnaaGreatDoor
namespace Go.Proofs.YtpgahclpbdpbnaaGreatDoor
open Go.ChangeShapes Go.WideShapes Go.ChangeAt Go.RowKit
set_option linter.unusedVariables false
set_option linter.unusedSimpArgs false
set_option maxRecDepth 100000
section
variable {H : Type} {enc : TypeId × Value -> H} {W : World} {base b0 : Nat} {held : Bool} {r : Reach} {v : Value} {d : DataW H} {ps : List MemPlace}
theorem ztZ {l:List Value} (h:l.length=13):∃v0 v1 v2 v3 v4 v5 v6 v7 v8 v9 v10 v11 v12,l=[v0,v1,v2,v3,v4,v5,v6,v7,v8,v9,v10,v11,v12]:=by
 match l,h with
 | [v0,v1,v2,v3,v4,v5,v6,v7,v8,v9,v10,v11,v12],_=>exact⟨v0,v1,v2,v3,v4,v5,v6,v7,v8,v9,v10,v11,v12,rfl⟩
theorem zpk:Tryz.prog.cellsOf 49=13:=by kernel_rfl
theorem zjg:Tryz.prog.cellsOf 4=1:=by kernel_rfl
theorem zpl:Tryz.prog.cellsOf 47=3:=by kernel_rfl
theorem zlK {P:Program} {t e:TypeId} {fuel:Nat} {v:Value} {x:DataW H×List MemPlace} (ht:P.underlying t=some (.slice e)) (h:DataW.trod enc P W base (fun _=>true) held fuel t [v]=some x):∃a n c,v= .slice a n c:=by
 rcases DataW.trod_slice ht h with⟨hcs,_⟩|⟨a,len,cap,elems,rest,n',hn',hcs,_⟩
 · injection hcs with e _
   exact⟨_,_,_,e⟩
 · injection hcs with e _
   exact⟨_,_,_,e⟩
theorem zr8 (hok:Value.okWide Tryz.prog W r b0 49 v) (hd:DataW.Trod enc Tryz.prog W base (fun _=>true) held 49 v d ps):∃x:ziq,v= .agg (zcF x)/\ zeu W x:=by
 obtain⟨cs,rfl,_⟩:=okWide_struct Tryz.underlying49 hok
 obtain⟨fuel,hf⟩:=hd
 obtain⟨xs,n,_,_,hl,hn,hf⟩:=DataW.trod_struct Tryz.underlying49 hf
 rw[zpk]at hl
 obtain⟨l⟩:=cs
 obtain⟨v0,v1,v2,v3,v4,v5,v6,v7,v8,v9,v10,v11,v12,rfl⟩:=ztZ (show l.length=13 from hl)
 have hn':xs.length=10:=hn
 have E:∀i,i<10->∃y,xs[i]?=some y:=fun i hi=>⟨_,List.getElem?_eq_getElem (by omega)⟩
 obtain⟨y0,e0⟩:=E 0 (by decide)
 have h0:DataW.trod enc Tryz.prog W base (fun _=>true) held n 22 (List.take (Tryz.prog.cellsOf 22) (List.drop 0 [v0,v1,v2,v3,v4,v5,v6,v7,v8,v9,v10,v11,v12]))=some y0:=(hf 0 _ rfl).trans e0
 rw[Tryz.cellsU]at h0
 obtain⟨y1,e1⟩:=E 1 (by decide)
 have h1:DataW.trod enc Tryz.prog W base (fun _=>true) held n 9 (List.take (Tryz.prog.cellsOf 9) (List.drop 1 [v0,v1,v2,v3,v4,v5,v6,v7,v8,v9,v10,v11,v12]))=some y1:=(hf 1 _ rfl).trans e1
 rw[zet]at h1
 obtain⟨y2,e2⟩:=E 2 (by decide)
 have h2:DataW.trod enc Tryz.prog W base (fun _=>true) held n 9 (List.take (Tryz.prog.cellsOf 9) (List.drop 2 [v0,v1,v2,v3,v4,v5,v6,v7,v8,v9,v10,v11,v12]))=some y2:=(hf 2 _ rfl).trans e2
 rw[zet]at h2
 obtain⟨y3,e3⟩:=E 3 (by decide)
 have h3:DataW.trod enc Tryz.prog W base (fun _=>true) held n 2 (List.take (Tryz.prog.cellsOf 2) (List.drop 3 [v0,v1,v2,v3,v4,v5,v6,v7,v8,v9,v10,v11,v12]))=some y3:=(hf 3 _ rfl).trans e3
 rw[zie]at h3
 obtain⟨y4,e4⟩:=E 4 (by decide)
 have h4:DataW.trod enc Tryz.prog W base (fun _=>true) held n 2 (List.take (Tryz.prog.cellsOf 2) (List.drop 4 [v0,v1,v2,v3,v4,v5,v6,v7,v8,v9,v10,v11,v12]))=some y4:=(hf 4 _ rfl).trans e4
 rw[zie]at h4
 obtain⟨y5,e5⟩:=E 5 (by decide)
 have h5:DataW.trod enc Tryz.prog W base (fun _=>true) held n 43 (List.take (Tryz.prog.cellsOf 43) (List.drop 5 [v0,v1,v2,v3,v4,v5,v6,v7,v8,v9,v10,v11,v12]))=some y5:=(hf 5 _ rfl).trans e5
 rw[Tryz.cellsK]at h5
 obtain⟨y6,e6⟩:=E 6 (by decide)
 have h6:DataW.trod enc Tryz.prog W base (fun _=>true) held n 4 (List.take (Tryz.prog.cellsOf 4) (List.drop 7 [v0,v1,v2,v3,v4,v5,v6,v7,v8,v9,v10,v11,v12]))=some y6:=(hf 6 _ rfl).trans e6
 rw[zjg]at h6
 obtain⟨y7,e7⟩:=E 7 (by decide)
 have h7:DataW.trod enc Tryz.prog W base (fun _=>true) held n 47 (List.take (Tryz.prog.cellsOf 47) (List.drop 8 [v0,v1,v2,v3,v4,v5,v6,v7,v8,v9,v10,v11,v12]))=some y7:=(hf 7 _ rfl).trans e7
 rw[zpl]at h7
 obtain⟨y8,e8⟩:=E 8 (by decide)
 have h8:DataW.trod enc Tryz.prog W base (fun _=>true) held n 9 (List.take (Tryz.prog.cellsOf 9) (List.drop 11 [v0,v1,v2,v3,v4,v5,v6,v7,v8,v9,v10,v11,v12]))=some y8:=(hf 8 _ rfl).trans e8
 rw[zet]at h8
 obtain⟨y9,e9⟩:=E 9 (by decide)
 have h9:DataW.trod enc Tryz.prog W base (fun _=>true) held n 9 (List.take (Tryz.prog.cellsOf 9) (List.drop 12 [v0,v1,v2,v3,v4,v5,v6,v7,v8,v9,v10,v11,v12]))=some y9:=(hf 9 _ rfl).trans e9
 rw[zet]at h9
 obtain⟨z0,q0,_,w0⟩:=DataW.trod_int Tryz.underlying22 h0
 obtain rfl:v0= .int .u32 z0:=by simpa[Value.cells]using q0
 obtain⟨s1,q1,_,m1⟩:=DataW.trod_string Tryz.underlying9 h1
 obtain rfl:v1= .string s1:=by simpa[Value.cells]using q1
 obtain⟨s2,q2,_,m2⟩:=DataW.trod_string Tryz.underlying9 h2
 obtain rfl:v2= .string s2:=by simpa[Value.cells]using q2
 obtain⟨z3,q3,_,w3⟩:=DataW.trod_int Tryz.underlying2 h3
 obtain rfl:v3= .int .i64 z3:=by simpa[Value.cells]using q3
 obtain⟨z4,q4,_,w4⟩:=DataW.trod_int Tryz.underlying2 h4
 obtain rfl:v4= .int .i64 z4:=by simpa[Value.cells]using q4
 obtain⟨u6,q6,_⟩:=DataW.trod_bool Tryz.underlying4 h6
 obtain rfl:v7= .bool u6:=by simpa[Value.cells]using q6
 obtain⟨s8,q8,_,m8⟩:=DataW.trod_string Tryz.underlying9 h8
 obtain rfl:v11= .string s8:=by simpa[Value.cells]using q8
 obtain⟨s9,q9,_,m9⟩:=DataW.trod_string Tryz.underlying9 h9
 obtain rfl:v12= .string s9:=by simpa[Value.cells]using q9
 obtain⟨y50,y51,k5,_,_,h50,h51⟩:=trod_struct2 Tryz.underlying43 h5
 rw[Tryz.cellsS]at h50
 rw[Tryz.cellsU]at h51
 obtain⟨ka,kn,kc,ns,q50,hr,hc,hk,hm⟩:=zrX h50
 obtain⟨ke,q51,_,wk⟩:=DataW.trod_int Tryz.underlying22 h51
 obtain rfl:v5= .slice ka kn kc:=by simpa[Value.cells]using q50
 obtain rfl:v6= .int .u32 ke:=by simpa[Value.cells]using q51
 obtain⟨ys,k7,_,_,_,hn7,hf7⟩:=DataW.trod_struct Tryz.underlying47 h7
 have hn7':ys.length=3:=hn7
 have E7:∀i,i<3->∃y,ys[i]?=some y:=fun i hi=>⟨_,List.getElem?_eq_getElem (by omega)⟩
 obtain⟨y70,e70⟩:=E7 0 (by decide)
 obtain⟨y71,e71⟩:=E7 1 (by decide)
 obtain⟨y72,e72⟩:=E7 2 (by decide)
 have h70:DataW.trod enc Tryz.prog W base (fun _=>true) held k7 4 (List.take (Tryz.prog.cellsOf 4) (List.drop 0 [v8,v9,v10]))=some y70:=(hf7 0 _ rfl).trans e70
 have h71:DataW.trod enc Tryz.prog W base (fun _=>true) held k7 44 (List.take (Tryz.prog.cellsOf 44) (List.drop 1 [v8,v9,v10]))=some y71:=(hf7 1 _ rfl).trans e71
 have h72:DataW.trod enc Tryz.prog W base (fun _=>true) held k7 45 (List.take (Tryz.prog.cellsOf 45) (List.drop 2 [v8,v9,v10]))=some y72:=(hf7 2 _ rfl).trans e72
 rw[zjg]at h70
 rw[show Tryz.prog.cellsOf 44=1 by kernel_rfl]at h71
 rw[show Tryz.prog.cellsOf 45=1 by kernel_rfl]at h72
 obtain⟨u7,q70,_⟩:=DataW.trod_bool Tryz.underlying4 h70
 obtain rfl:v8= .bool u7:=by simpa[Value.cells]using q70
 obtain⟨sa,sn,sc,rfl⟩:=zlK (v:=v9) Tryz.underlying44 (by simpa[Value.cells]using h71)
 obtain⟨ra,rn,rc,rfl⟩:=zlK (v:=v10) Tryz.underlying45 (by simpa[Value.cells]using h72)
 have:=bounds_u32 wk
 exact⟨⟨z0,s1,s2,z3,z4,ka,kn,kc,ke,ns,u6,u7,sa,sn,sc,ra,rn,rc,s8,s9⟩,rfl,⟨hr,hc,hk,by show 0<=ke;omega,by show ke<=4294967295;omega⟩,hm,m1,m2,m8,m9⟩
end
end Go.Proofs.YtpgahclpbdpbnaaGreatDoor
