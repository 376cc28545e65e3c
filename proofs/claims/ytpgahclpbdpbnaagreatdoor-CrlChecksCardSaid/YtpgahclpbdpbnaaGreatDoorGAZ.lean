import Derived.Test.YtpgahclpbdpbnaaGreatDoorGAY
import Derived.Test.YtpgahclpbdpbnaaGreatDoorGAW
import Derived.Test.YtpgahclpbdpbnaaGreatDoorGAU
import Derived.Test.YtpgahclpbdpbnaaGreatDoorGAX
import Derived.Test.YtpgahclpbdpbnaaGreatDoorRows
import Derived.WalkKit
import Derived.ProofKit
import Derived.OpenShut
import Derived.ChangeArms
import Derived.ChangeSame
import Derived.Test.YtpgahclpbdpbnaaGreatDoorGAT
import Derived.Test.YtpgahclpbdpbnaaGreatDoorGAI
import Derived.Test.YtpgahclpbdpbnaaGreatDoorGAS
set_option maxHeartbeats 2000000
namespace Go.Proofs.YtpgahclpbdpbnaaGreatDoor
open Go.RowKit
set_option linter.unusedVariables false
theorem zic (v:Int) (W:World) (g:Nat) (v0:0<=v) (v1:v<=4294967295) (hg:g=W.heap.size):Num (W.alloc (.cells #[.int .u32 v] 22)) v (some ⟨g,0,none⟩) 1 1:=by
 subst hg
 obtain⟨a1,c1,e1,r1⟩:=(zg0 W v).row (by intro q hq;simp at hq;omega)
 injection e1 with e1 e2 e3
 subst e1 e3
 exact⟨_,r1,by simp[valZ],Nat.le_refl _,fun e=>by cases e⟩
theorem zrV (x y:Int):decide ((0:Int)<=cmpI x y)=decide (y<=x):=by
 rw[decide_eq_decide]
 unfold cmpI
 split
 · omega
 · split<;>omega
theorem znY {ns:List Int} {e:Int} {ss:List Int}:(zbM ns e=false->errZ ns e ss=1/\ powZ ns e ss=[])/\ (zbM ns e=true->(ss.length≠ns.length->errZ ns e ss=6/\ powZ ns e ss=[])/\ (ss.length=ns.length->(beV ns<=beV ss->errZ ns e ss=6/\ powZ ns e ss=[])/\ (beV ss<beV ns->errZ ns e ss=0/\ powZ ns e ss=widZ ns.length (expZ ns e ss)))):=by
 have h1:∀r,r≠0->errZ ns e ss=r->errZ ns e ss=r/\ powZ ns e ss=[]:=by
  intro r hr h
  refine⟨h,?_⟩
  unfold powZ
  rw[if_neg (by omega)]
 refine⟨fun h=>h1 1 (by omega) (by unfold errZ;rw[if_pos h]),fun h=>⟨fun hl=>h1 6 (by omega) (by unfold errZ;rw[if_neg (by rw[h];simp),if_pos hl]),fun hl=>⟨fun hv=>h1 6 (by omega) (by unfold errZ;rw[if_neg (by rw[h];simp),if_neg (by omega),if_pos hv]),fun hv=> ?_⟩⟩⟩
 have h2:errZ ns e ss=0:=by unfold errZ;rw[if_neg (by rw[h];simp),if_neg (by omega),if_neg (by omega)]
 exact⟨h2,by unfold powZ;rw[if_pos h2]⟩
theorem znZ {zs:List Int} {w w0 w':World} {e:Ending} (h:zaZ zs w0 e w') (hb:Below w.heap.size w w0):∃V,e= .returned V/\ zh8 zs 0 w (.returned (.tuple #[V,.int .i64 0])) w':=by
 obtain⟨a,c,rfl,hr,hc,hn,hb'⟩:=h
 exact⟨_,rfl,a,c,rfl,hr,hc,hn,Below.step hb hb'⟩
theorem zo9 (a b:Option Addr) (n c m d:Nat) (e:Int) (ns ss:List Int) (w:World) (hk:zgH w a n c e ns) (hn:n<=10000) (hs:Row w b m ss) (hm:m<=10000):
 Calls Tryz.prog 67 #[.agg #[.slice a n c,.int .u32 e],.slice b m d] w (zh8 (powZ ns e ss) (errZ ns e ss) w):=by
 have BX:=zwd (zer w a n c e)
 have BW:=zwd (zaI w (.cells #[.slice a n c,.int .u32 e] 43))
 have K2:=zwd (hk.below BW.out)
 have S2:=zwd (hs.below BW.out)
 have c0:=BX.out.cell 0
 have c1:=BX.out.cell 1
 simp only[List.getElem?_toArray,List.getElem?_cons_zero,List.getElem?_cons_succ]at c0 c1
 have PW:=zwd (znY (ns:=ns) (e:=e) (ss:=ss))
 have hln:=hk.1.1
 have hls:=hs.1
 have e0:=hk.2.2.2
 have XL:=zwd (fun h=>zqK (e:=e) ss hk.1.2.1 h)
 have XS:=zwd (fun h=>zk8 (e:=e) ss hk.1.2.1 h)
 have EZ:Hid (remZ (beV ss^e.toNat) (beV ns)=expZ ns e ss):=zwd rfl
 have TG:=zwd (zrV (beV ss) (beV ns))
 rw[hln]at PW XS
 rw[hls]at PW
 clear hk hs
 go_enter Tryz.func67,Tryz.ntmps67
 generalize hw2:w.alloc (.cells #[.slice a n c,.int .u32 e] 43)=w2 at*
 have CR:=zwd (zmy a n c e ns w2 K2.out (by omega))
 have HLN:=zwd hln
 have HLS:=zwd hls
 clear hln hls
 go_wp2_with fail
 refine CR.out.mono ?_
 rintro r w3 ⟨rfl,hb3⟩
 have B3:=zwd (Below.step BW.out hb3)
 have K3:=zwd (K2.out.below hb3)
 have S3:=zwd (S2.out.below hb3)
 have X3:=zwd (BX.out.below hb3 BX.out.lt)
 have d0:=X3.out.cell 0
 simp only[List.getElem?_toArray,List.getElem?_cons_zero]at d0
 clear hb3 CR BW K2 S2 BX c0 c1 hw2
 by_cases hr:zbM ns e=true
 · rw[hr]
   have P1:=zwd (PW.out.2 hr)
   have E1:=zwd (XL.out hr)
   have E2:=zwd (XS.out hr)
   have CN:=zwd (zeB (ca:=c) K3.out.1 (by omega))
   clear PW XL XS hr
   go_wp2_with fail
   refine CN.out.mono ?_
   rintro r w4 ⟨a4,n4,c4,rfl,hN4,hl4,hb4⟩
   have N4:=zwd (hN4.num (zbt K3.out.1.2.1))
   have B4:=zwd (Below.step B3.out hb4)
   have S4:=zwd (S3.out.below hb4)
   have X4:=zwd (X3.out.below hb4 X3.out.lt)
   have CS:=zwd (zeB (ca:=d) S4.out (by omega))
   have BN:=zwd (zbt K3.out.1.2.1)
   have BS:=zwd (zbt S4.out.2.1)
   clear CN hN4 hb4 X3 d0 S3 K3 B3
   go_wp2_with fail
   refine CS.out.mono ?_
   rintro r w5 ⟨a5,n5,c5,rfl,hN5,hl5,hb5⟩
   have N5:=zwd (hN5.num BS.out)
   have M5:=zwd (N4.out.below hb5)
   have B5:=zwd (Below.step B4.out hb5)
   have X5:=zwd (X4.out.below hb5 X4.out.lt)
   have d0:=X5.out.cell 0
   simp only[List.getElem?_toArray,List.getElem?_cons_zero]at d0
   clear CS hN5 hb5 X4 N4 B4 S4
   by_cases hmn:m=n
   · have t1:((m:Int) !=(n:Int))=false:=by simp;omega
     have P2:=zwd (P1.out.2 hmn)
     have CC:=zwd (zpX N5.out M5.out (by omega) (by omega))
     clear P1 hmn
     generalize hxs:beV ss=xs at*
     generalize hxn:beV ns=xn at*
     clear hxs hxn
     go_wp2_with fail
     refine CC.out.mono ?_
     rintro r w6 ⟨rfl,hb6⟩
     have N6:=zwd (N5.out.below hb6)
     have M6:=zwd (M5.out.below hb6)
     have B6:=zwd (Below.step B5.out hb6)
     have X6:=zwd (X5.out.below hb6 X5.out.lt)
     have d0:=X6.out.cell 0
     have d1:=X6.out.cell 1
     simp only[List.getElem?_toArray,List.getElem?_cons_zero,List.getElem?_cons_succ]at d0 d1
     clear CC hb6 X5 N5 M5 B5
     by_cases hv:xn<=xs
     · have t2:decide ((0:Int)<=cmpI xs xn)=true:=by rw[TG.out];exact decide_eq_true hv
       obtain⟨F1,F2⟩:=P2.out.1 hv
       have G1:=zwd F1
       have G2:=zwd F2
       clear F1 F2 P2 TG
       generalize cmpI xs xn=cm at*
       go_wp2_with fail
       go_ret2
       rw[G1.out,G2.out]
       exact zcv B6.out
     · have t2:decide ((0:Int)<=cmpI xs xn)=false:=by rw[TG.out];exact decide_eq_false hv
       obtain⟨F1,F2⟩:=P2.out.2 (by omega)
       have G1:=zwd F1
       have G2:=zwd F2
       have B7:=zwd (zaI w6 (.cells #[.int .u32 e] 22))
       have X7:=zwd (X6.out.below B7.out X6.out.lt)
       have CE:=zwd (zib (N6.out.below B7.out) (zic e w6 _ e0.1 e0.2 rfl) (M6.out.below B7.out) (by omega) (by omega) (by omega))
       have BB:=zwd (Below.step B6.out B7.out)
       rw[EZ.out]at CE
       clear F1 F2 P2 TG EZ N6 M6 B6 B7 X6
       generalize cmpI xs xn=cm at*
       go_wp2_with fail
       refine CE.out.mono ?_
       rintro r w8 ⟨a8,n8,c8,rfl,hN8,hl8,hb8⟩
       have N8:=zwd (hN8.num E1.out.1)
       have X8:=zwd (X7.out.below hb8 X7.out.lt)
       have B8:=zwd (Below.step BB.out hb8)
       have d0:=X8.out.cell 0
       simp only[List.getElem?_toArray,List.getElem?_cons_zero]at d0
       have CP:=zwd (zfh a8 n8 c8 n (expZ ns e ss) w8 N8.out (by omega) (by omega) E2.out)
       clear CE hN8 hb8 X7 BB d1
       go_wp2_with fail
       refine CP.out.mono ?_
       intro r w9 h9
       obtain⟨V,rfl,hg⟩:=znZ h9 B8.out
       have G9:=zwd hg
       clear h9 hg CP
       go_wp2_with fail
       go_ret2
       rw[G1.out,G2.out]
       exact G9.out
   · have t1:((m:Int) !=(n:Int))=true:=by simp;omega
     obtain⟨F1,F2⟩:=P1.out.1 hmn
     have G1:=zwd F1
     have G2:=zwd F2
     clear F1 F2 P1 hmn
     go_wp2_with fail
     go_ret2
     rw[G1.out,G2.out]
     exact zcv B5.out
 · have hr':zbM ns e=false:=by simpa using hr
   rw[hr']
   obtain⟨F1,F2⟩:=PW.out.1 hr'
   have G1:=zwd F1
   have G2:=zwd F2
   clear F1 F2 PW hr hr' XL XS
   go_wp2_with fail
   go_ret2
   rw[G1.out,G2.out]
   exact zcv B3.out
end Go.Proofs.YtpgahclpbdpbnaaGreatDoor
namespace Go.Proofs.YtpgahclpbdpbnaaGreatDoor
open Go.RowKit
set_option linter.unusedVariables false
theorem zrW (a b:Option Addr) (n c m d:Nat) (e:Int) (ns ss:List Int) (w:World) (hk:zgH w a n c e ns) (hn:n<=10000) (hs:Row w b m ss) (hm:m<=10000):
 Calls Tryz.prog 64 #[.agg #[.slice a n c,.int .u32 e],.slice b m d] w (zh8 (powZ ns e ss) (errZ ns e ss) w):=by
 have BX:=zwd (zer w a n c e)
 have BW:=zwd (zaI w (.cells #[.slice a n c,.int .u32 e] 43))
 have K2:=zwd (hk.below BW.out)
 have S2:=zwd (hs.below BW.out)
 have c0:=BX.out.cell 0
 have c1:=BX.out.cell 1
 simp only[List.getElem?_toArray,List.getElem?_cons_zero,List.getElem?_cons_succ]at c0 c1
 have PW:=zwd (znY (ns:=ns) (e:=e) (ss:=ss))
 have hln:=hk.1.1
 have hls:=hs.1
 have e0:=hk.2.2.2
 have XL:=zwd (fun h=>zqK (e:=e) ss hk.1.2.1 h)
 have XS:=zwd (fun h=>zk8 (e:=e) ss hk.1.2.1 h)
 have EZ:Hid (remZ (beV ss^e.toNat) (beV ns)=expZ ns e ss):=zwd rfl
 have TG:=zwd (zrV (beV ss) (beV ns))
 rw[hln]at PW XS
 rw[hls]at PW
 clear hk hs
 go_enter Tryz.func64,Tryz.ntmps64
 generalize hw2:w.alloc (.cells #[.slice a n c,.int .u32 e] 43)=w2 at*
 have CR:=zwd (zo2 a n c e ns w2 K2.out (by omega))
 have HLN:=zwd hln
 have HLS:=zwd hls
 clear hln hls
 go_wp2_with fail
 refine CR.out.mono ?_
 rintro r w3 ⟨rfl,hb3⟩
 have B3:=zwd (Below.step BW.out hb3)
 have K3:=zwd (K2.out.below hb3)
 have S3:=zwd (S2.out.below hb3)
 have X3:=zwd (BX.out.below hb3 BX.out.lt)
 have d0:=X3.out.cell 0
 simp only[List.getElem?_toArray,List.getElem?_cons_zero]at d0
 clear hb3 CR BW K2 S2 BX c0 c1 hw2
 by_cases hr:zbM ns e=true
 · rw[hr]
   have P1:=zwd (PW.out.2 hr)
   have E1:=zwd (XL.out hr)
   have E2:=zwd (XS.out hr)
   have hPos:=(zfD hr).1
   rw[HLN.out]at hPos
   clear PW XL XS hr
   by_cases hmn:m=n
   · have P2:=zwd (P1.out.2 hmn)
     have hnm:=hmn.symm
     clear hmn
     subst hnm
     have t1:((n:Int) !=(n:Int))=false:=by simp
     have BN:=zwd (zbt K3.out.1.2.1)
     have BS:=zwd (zbt S3.out.2.1)
     clear P1
     go_wp2_with fail
     have l0:=zaf d0
     refine zaa Ext Ext.refl (fun _ _ _=>Ext.trans) ((0,false)::(2,false)::(3,false)::(1,true)::(4,true)::(5,false)::(6,false)::[]) (by kernel_rfl) (by kernel_rfl) rfl (by kernel_rfl) (fun _ _ _ _ _ h=>h) ?_
     repeat(refine zab _ rfl (by rfl) (fun W hW=>by go_simp;first|done|rfl) ?_;simp only[Act.put,zwe,zwg,zwf])
     clear l0
     refine zad rfl (by rfl) (fun K1 hK1=> ?_)
     go_simp
     refine(zkt (w:=w3.drew) (ca:=d) (S3.out.drewN 1) (by omega)).mono ?_
     rintro r w4 ⟨a4,n4,c4,rfl,hN4,hl4,hb4⟩
     refine hK1 _ _ hb4 ?_
     have E4:Ext w3 w4:=Ext.of_drew hb4
     have N4:=zwd (hN4.num BS.out)
     have B4:=zwd (Below.step B3.out E4)
     have K4:=zwd (K3.out.below E4)
     have X4:=zwd (X3.out.below E4 X3.out.lt)
     clear hK1 K1 hN4 hb4 E4 X3 d0 S3 K3 B3
     refine zad rfl (by rfl) (fun K1 hK1=> ?_)
     go_simp
     refine(zkt (ca:=c) K4.out.1 (by omega)).mono ?_
     rintro r w5 ⟨a5,n5,c5,rfl,hN5,hl5,hb5⟩
     refine hK1 _ _ hb5 ?_
     have N5:=zwd (N4.out.below hb5)
     have M5:=zwd (hN5.num BN.out)
     have B5:=zwd (Below.step B4.out hb5)
     have X5:=zwd (X4.out.below hb5 X4.out.lt)
     clear hK1 K1 hN5 hb5 K4 X4 N4 B4
     repeat(refine zab _ rfl (by rfl) (fun W hW=>by go_simp;first|done|rfl) ?_;simp only[Act.put,zwe,zwg,zwf])
     refine zai ?_
     have CC:=zwd (zsI N5.out M5.out (by omega) (by omega))
     generalize hxs:beV ss=xs at*
     generalize hxn:beV ns=xn at*
     clear hxs hxn
     go_wp2_with fail
     refine CC.out.mono ?_
     rintro r w6 ⟨rfl,hb6⟩
     have N6:=zwd (N5.out.below hb6)
     have M6:=zwd (M5.out.below hb6)
     have B6:=zwd (Below.step B5.out hb6)
     have X6:=zwd (X5.out.below hb6 X5.out.lt)
     have d0:=X6.out.cell 0
     have d1:=X6.out.cell 1
     simp only[List.getElem?_toArray,List.getElem?_cons_zero,List.getElem?_cons_succ]at d0 d1
     clear CC hb6 X5 N5 M5 B5
     by_cases hv:xn<=xs
     · have t2:decide ((0:Int)<=cmpI xs xn)=true:=by rw[TG.out];exact decide_eq_true hv
       obtain⟨F1,F2⟩:=P2.out.1 hv
       have G1:=zwd F1
       have G2:=zwd F2
       clear F1 F2 P2 TG
       generalize cmpI xs xn=cm at*
       go_wp2_with fail
       go_ret2
       rw[G1.out,G2.out]
       exact zcv B6.out
     · have t2:decide ((0:Int)<=cmpI xs xn)=false:=by rw[TG.out];exact decide_eq_false hv
       obtain⟨F1,F2⟩:=P2.out.2 (by omega)
       have G1:=zwd F1
       have G2:=zwd F2
       have B7:=zwd (zaI w6 (.cells #[.int .u32 e] 22))
       have X7:=zwd (X6.out.below B7.out X6.out.lt)
       have CE:=zwd (ztS (N6.out.below B7.out) (zic e w6 _ e0.1 e0.2 rfl) (M6.out.below B7.out) (by omega) (by omega) (by omega))
       have BB:=zwd (Below.step B6.out B7.out)
       rw[EZ.out]at CE
       clear F1 F2 P2 TG EZ N6 M6 B6 B7 X6
       generalize cmpI xs xn=cm at*
       go_wp2_with fail
       refine CE.out.mono ?_
       rintro r w8 ⟨a8,n8,c8,rfl,hN8,hl8,hb8⟩
       have N8:=zwd (hN8.num E1.out.1)
       have X8:=zwd (X7.out.below hb8 X7.out.lt)
       have B8:=zwd (Below.step BB.out hb8)
       have d0:=X8.out.cell 0
       simp only[List.getElem?_toArray,List.getElem?_cons_zero]at d0
       have CT:=zwd (fun W (hb:Below w8.heap.size w8 W)=>zuv (N8.out.below hb) (by omega))
       clear CE hN8 hb8 X7 BB d1
       go_wp2_with fail
       have l0:=zaf d0
       refine zaa Ext Ext.refl (fun _ _ _=>Ext.trans) ((0,false)::(2,false)::(3,false)::(4,false)::(1,true)::(5,true)::(6,false)::(7,false)::[]) (by kernel_rfl) (by kernel_rfl) rfl (by kernel_rfl) (fun _ _ _ _ _ h=>h) ?_
       repeat(refine zab _ rfl (by rfl) (fun W hW=>by go_simp;first|done|rfl) ?_;simp only[Act.put,zwe,zwg,zwf])
       clear l0
       refine zad rfl (by rfl) (fun K1 hK1=> ?_)
       go_simp
       refine(CT.out _ (zaE w8 1)).mono ?_
       rintro r w9 ⟨a9,n9,c9,rfl,hn9,hr9,hl9,hb9⟩
       refine hK1 _ _ hb9 ?_
       have E9:Ext w8 w9:=Ext.of_drew hb9
       have B9:=zwd (Below.step B8.out E9)
       have CW:=zwd (zmA a9 n9 c9 n _ w9 hr9 (by rw[hn9];exact E2.out) (by have:=hPos;omega) (by omega))
       rw[hn9]at CW
       have WZ:Hid (List.replicate (n-(byZ (expZ ns e ss)).length) 0++byZ (expZ ns e ss)=widZ n (expZ ns e ss)):=zwd rfl
       rw[WZ.out]at CW
       subst hn9
       clear hK1 K1 hb9 hr9 hl9 E9 CT WZ
       refine zad rfl (by rfl) (fun K1 hK1=> ?_)
       go_simp
       refine CW.out.mono ?_
       intro r w10 h10
       obtain⟨V,rfl,hg⟩:=znZ h10 B9.out
       have G9:=zwd hg
       obtain⟨_,_,_,_,_,_,hb10⟩:=h10
       refine hK1 _ _ hb10 ?_
       clear hK1 K1 hg CW hb10
       repeat(refine zab _ rfl (by rfl) (fun W hW=>by go_simp;first|done|rfl) ?_;simp only[Act.put,zwe,zwg,zwf])
       refine zai ?_
       go_wp2_with fail
       go_ret2
       rw[G1.out,G2.out]
       exact G9.out
   · have t1:((m:Int) !=(n:Int))=true:=by simp;omega
     obtain⟨F1,F2⟩:=P1.out.1 hmn
     have G1:=zwd F1
     have G2:=zwd F2
     clear F1 F2 P1 hmn
     go_wp2_with fail
     go_ret2
     rw[G1.out,G2.out]
     exact zcv B3.out
 · have hr':zbM ns e=false:=by simpa using hr
   rw[hr']
   obtain⟨F1,F2⟩:=PW.out.1 hr'
   have G1:=zwd F1
   have G2:=zwd F2
   clear F1 F2 PW hr hr' XL XS
   go_wp2_with fail
   go_ret2
   rw[G1.out,G2.out]
   exact zcv B3.out
end Go.Proofs.YtpgahclpbdpbnaaGreatDoor
namespace Go.Proofs.YtpgahclpbdpbnaaGreatDoor
open Go.RowKit
set_option linter.unusedVariables false
theorem zn0 (ns:List Int) (e:Int) (ts ss:List Int):(errZ ns e ss=0->62<=ns.length/\ ns.length<=512/\ (powZ ns e ss=zbh (zbV ts) ns.length->verZ ns e ts ss=0)/\ (powZ ns e ss≠zbh (zbV ts) ns.length->verZ ns e ts ss=6))/\ (errZ ns e ss≠0->verZ ns e ts ss=errZ ns e ss):=by
 refine⟨fun h=> ?_,fun h=>by unfold verZ;rw[if_neg h]⟩
 have hl:=zfD (zqL h).1
 refine⟨hl.1,hl.2,fun h2=> ?_,fun h2=> ?_⟩
 · unfold verZ
   rw[if_pos h,if_pos h2]
 · unfold verZ
   rw[if_pos h,if_neg h2]
theorem zeR (hz:List Int) {n:Nat} (h0:62<=n) (h1:n<=512):frE (n:Int)=0/\ frB hz (n:Int)=zbh hz n:=⟨if_pos (by omega),if_pos (by omega)⟩
theorem zmC (a b p:Option Addr) (n c m d tn tc:Nat) (e:Int) (ns ss ts:List Int) (w:World) (hk:zgH w a n c e ns) (hn:n<=10000) (ht:Row w p tn ts) (hn3:tn<=10000) (hp:p=none->tc=0) (hs:Row w b m ss) (hm:m<=10000):
 Calls Tryz.prog 41 #[.agg #[.slice a n c,.int .u32 e],.slice p tn tc,.slice b m d] w fun r w'=>r= .returned (.int .i64 (verZ ns e ts ss))/\ Below w.heap.size w w':=by
 have BX:=zwd (zer w a n c e)
 have BW:=zwd (zaI w (.cells #[.slice a n c,.int .u32 e] 43))
 have K2:=zwd (hk.below BW.out)
 have S2:=zwd (hs.below BW.out)
 have T2:=zwd (ht.below BW.out)
 have VW:=zwd (zn0 ns e ts ss)
 have PB:=zwd (znv ns e ss)
 have HP:=zwd hp
 have c0:=BX.out.cell 0
 have c1:=BX.out.cell 1
 simp only[List.getElem?_toArray,List.getElem?_cons_zero,List.getElem?_cons_succ]at c0 c1
 have e0:=hk.2.2.2
 rw[hk.1.1]at VW
 clear hk hs ht hp
 generalize verZ ns e ts ss=vz at*
 go_enter Tryz.func41,Tryz.ntmps41
 generalize hw2:w.alloc (.cells #[.slice a n c,.int .u32 e] 43)=w2 at*
 have CR:=zwd (zo9 a b n c m d e ns ss w2 K2.out (by omega) S2.out (by omega))
 go_wp2_with fail
 refine CR.out.mono ?_
 rintro r w3 ⟨a3,c3,rfl,hr3,hc3,hn3',hb3⟩
 have B3:=zwd (Below.step BW.out hb3)
 have T3:=zwd (T2.out.below hb3)
 have X3:=zwd (BX.out.below hb3 BX.out.lt)
 have R3:=zwd hr3
 have d0:=X3.out.cell 0
 simp only[List.getElem?_toArray,List.getElem?_cons_zero]at d0
 clear hb3 hr3 CR BW K2 S2 T2 BX c0 c1 hw2
 have HL:=zwd (zdX ts)
 have HB:=zwd (zek ts)
 have CO:=zwd (fun W (hb:Below w3.heap.size w3 W)=>znU p tn tc ts W (T3.out.below hb) (by omega) HP.out)
 generalize powZ ns e ss=pz at*
 generalize errZ ns e ss=ez at*
 generalize zbV ts=hz at*
 by_cases h0:ez=0
 · obtain⟨k0,k1,V0,V6⟩:=VW.out.1 h0
   have HV0:=zwd V0
   have HV6:=zwd V6
   subst h0
   clear VW V0 V6
   go_wp2_with fail
   have l0:=zaf d0
   refine zaa Ext Ext.refl (fun _ _ _=>Ext.trans) ((0,false)::(2,false)::(3,false)::(4,false)::(1,true)::(5,true)::(6,false)::(7,false)::(8,false)::(9,false)::(10,false)::[]) (by kernel_rfl) (by kernel_rfl) rfl (by kernel_rfl) (fun _ _ _ _ _ h=>h) ?_
   repeat(refine zab _ rfl (by rfl) (fun W hW=>by go_simp;first|done|rfl) ?_;simp only[Act.put,zwe,zwg,zwf])
   clear l0
   refine zad rfl (by rfl) (fun K1 hK1=> ?_)
   go_simp
   refine(CO.out _ (zaE w3 1)).mono ?_
   rintro r w4 ⟨rfl,hb4⟩
   refine hK1 _ _ hb4 ?_
   have E4:Ext w3 w4:=Ext.of_drew hb4
   have B4:=zwd (Below.step B3.out E4)
   have R4:=zwd (R3.out.below E4)
   have CF:=zwd (zjd hz (n:Int) w4 HL.out HB.out (by omega) (by omega))
   rw[(zeR hz k0 k1).1,(zeR hz k0 k1).2]at CF
   have FB:=zwd (zcD HB.out n)
   clear hK1 K1 hb4 E4 R3 B3 X3 d0 T3 CO
   refine zad rfl (by rfl) (fun K1 hK1=> ?_)
   go_simp
   refine CF.out.mono ?_
   rintro r w5 ⟨a5,c5,rfl,hr5,hc5,hn5,hb5⟩
   refine hK1 _ _ hb5 ?_
   have B5:=zwd (Below.step B4.out hb5)
   have R5:=zwd (R4.out.below hb5)
   have Q5:=zwd hr5
   clear hK1 K1 hb5 hr5 CF R4 B4
   repeat(refine zab _ rfl (by rfl) (fun W hW=>by go_simp;first|done|rfl) ?_;simp only[Act.put,zwe,zwg,zwf])
   refine zai ?_
   generalize zbh hz n=fz at*
   have v1:=zbx c3 R5.out
   have v2:=zbx c5 Q5.out
   have SE:=zwd (zuf PB.out FB.out)
   by_cases hq:pz=fz
   · have t1:((strOfNums pz).toList==(strOfNums fz).toList)=true:=by rw[SE.out];exact decide_eq_true hq
     obtain rfl:vz=0:=HV0.out hq
     clear hq HV0 HV6 SE
     go_wp2_with fail
     go_ret
     exact⟨rfl,B5.out⟩
   · have t1:((strOfNums pz).toList==(strOfNums fz).toList)=false:=by rw[SE.out];exact decide_eq_false hq
     obtain rfl:vz=6:=HV6.out hq
     clear hq HV0 HV6 SE
     go_wp2_with fail
     go_ret
     exact⟨rfl,B5.out⟩
 · have t1:(ez !=0)=true:=by simpa using h0
   obtain rfl:vz=ez:=VW.out.2 h0
   clear VW h0
   go_wp2_with fail
   go_ret
   exact⟨rfl,B3.out⟩
theorem zpa (a b p:Option Addr) (n c m d tn tc:Nat) (e:Int) (ns ss ts:List Int) (w:World) (hk:zgH w a n c e ns) (hn:n<=10000) (ht:Row w p tn ts) (hn3:tn<=10000) (hp:tn<=tc) (hs:Row w b m ss) (hm:m<=10000) (hta:Tab w):
 Calls Tryz.prog 40 #[.agg #[.slice a n c,.int .u32 e],.slice p tn tc,.slice b m d] w fun r w'=>r= .returned (.int .i64 (verZ ns e ts ss))/\ Below w.heap.size w w':=by
 have BX:=zwd (zer w a n c e)
 have BW:=zwd (zaI w (.cells #[.slice a n c,.int .u32 e] 43))
 have K2:=zwd (hk.below BW.out)
 have S2:=zwd (hs.below BW.out)
 have T2:=zwd (ht.below BW.out)
 have A2:=zwd (hta.below BW.out)
 have VW:=zwd (zn0 ns e ts ss)
 have PB:=zwd (znv ns e ss)
 have HP:=zwd hp
 have c0:=BX.out.cell 0
 have c1:=BX.out.cell 1
 simp only[List.getElem?_toArray,List.getElem?_cons_zero,List.getElem?_cons_succ]at c0 c1
 have e0:=hk.2.2.2
 rw[hk.1.1]at VW
 clear hk hs ht hp hta
 generalize verZ ns e ts ss=vz at*
 go_enter Tryz.func40,Tryz.ntmps40
 generalize hw2:w.alloc (.cells #[.slice a n c,.int .u32 e] 43)=w2 at*
 have CR:=zwd (zrW a b n c m d e ns ss w2 K2.out (by omega) S2.out (by omega))
 go_wp2_with fail
 refine CR.out.mono ?_
 rintro r w3 ⟨a3,c3,rfl,hr3,hc3,hn3',hb3⟩
 have B3:=zwd (Below.step BW.out hb3)
 have T3:=zwd (T2.out.below hb3)
 have A3:=zwd (A2.out.below hb3)
 have X3:=zwd (BX.out.below hb3 BX.out.lt)
 have R3:=zwd hr3
 have d0:=X3.out.cell 0
 simp only[List.getElem?_toArray,List.getElem?_cons_zero]at d0
 clear hb3 hr3 CR BW K2 S2 T2 A2 BX c0 c1 hw2
 have HL:=zwd (zdX ts)
 have HB:=zwd (zek ts)
 have CO:=zwd (fun W (hb:Below w3.heap.size w3 W)=>zvc p tn tc ts W (T3.out.below hb) HP.out (by omega) (A3.out.below hb))
 generalize powZ ns e ss=pz at*
 generalize errZ ns e ss=ez at*
 generalize zbV ts=hz at*
 by_cases h0:ez=0
 · obtain⟨k0,k1,V0,V6⟩:=VW.out.1 h0
   have HV0:=zwd V0
   have HV6:=zwd V6
   subst h0
   clear VW V0 V6
   go_wp2_with fail
   have l0:=zaf d0
   refine zaa Ext Ext.refl (fun _ _ _=>Ext.trans) ((0,false)::(2,false)::(3,false)::(4,false)::(1,true)::(5,true)::(6,false)::(7,false)::(8,false)::(9,false)::(10,false)::[]) (by kernel_rfl) (by kernel_rfl) rfl (by kernel_rfl) (fun _ _ _ _ _ h=>h) ?_
   repeat(refine zab _ rfl (by rfl) (fun W hW=>by go_simp;first|done|rfl) ?_;simp only[Act.put,zwe,zwg,zwf])
   clear l0
   refine zad rfl (by rfl) (fun K1 hK1=> ?_)
   go_simp
   refine(CO.out _ (zaE w3 1)).mono ?_
   rintro r w4 ⟨rfl,hb4⟩
   refine hK1 _ _ hb4 ?_
   have E4:Ext w3 w4:=Ext.of_drew hb4
   have B4:=zwd (Below.step B3.out E4)
   have R4:=zwd (R3.out.below E4)
   have CF:=zwd (zrR hz (n:Int) w4 HL.out HB.out (by omega) (by omega))
   rw[(zeR hz k0 k1).1,(zeR hz k0 k1).2]at CF
   have FB:=zwd (zcD HB.out n)
   clear hK1 K1 hb4 E4 R3 B3 X3 d0 T3 CO A3
   refine zad rfl (by rfl) (fun K1 hK1=> ?_)
   go_simp
   refine CF.out.mono ?_
   rintro r w5 ⟨a5,c5,rfl,hr5,hc5,hn5,hb5⟩
   refine hK1 _ _ hb5 ?_
   have B5:=zwd (Below.step B4.out hb5)
   have R5:=zwd (R4.out.below hb5)
   have Q5:=zwd hr5
   clear hK1 K1 hb5 hr5 CF R4 B4
   repeat(refine zab _ rfl (by rfl) (fun W hW=>by go_simp;first|done|rfl) ?_;simp only[Act.put,zwe,zwg,zwf])
   refine zai ?_
   generalize zbh hz n=fz at*
   have CE:=zwd (zj5 a3 a5 pz.length fz.length c3 c5 pz fz w5 R5.out Q5.out)
   go_wp2_with fail
   refine CE.out.mono ?_
   rintro r w6 ⟨rfl,rfl⟩
   clear CE
   by_cases hq:pz=fz
   · rw[decide_eq_true hq]
     obtain rfl:vz=0:=HV0.out hq
     clear hq HV0 HV6
     go_wp2_with fail
     go_ret
     exact⟨rfl,B5.out⟩
   · rw[decide_eq_false hq]
     obtain rfl:vz=6:=HV6.out hq
     clear hq HV0 HV6
     go_wp2_with fail
     go_ret
     exact⟨rfl,B5.out⟩
 · have t1:(ez !=0)=true:=by simpa using h0
   obtain rfl:vz=ez:=VW.out.2 h0
   clear VW h0
   go_wp2_with fail
   go_ret
   exact⟨rfl,B3.out⟩
end Go.Proofs.YtpgahclpbdpbnaaGreatDoor
namespace Go.Proofs.YtpgahclpbdpbnaaGreatDoor
open Go.RowKit
set_option linter.unusedVariables false
set_option linter.unusedSimpArgs false
def opdC (c:CrlZ) (a:Option Addr) (ca:Nat) (a1:Option Addr) (n1 c1:Nat) (a2:Option Addr) (n2 c2:Nat):Array Value:=#[.string c.iss,.int .u32 c.num,.int .i64 c.fr,.int .i64 c.to,.slice a c.ser.length ca,.slice a1 n1 c1,.slice a2 n2 c2]
def zfS (b:List Int) (w:World) (e:Ending) (w':World):Prop:=Below w.heap.size w w'/\
 ((∃z,¬z=0/\ readC b=(za8,z)/\ e= .returned (.tuple #[.agg (opdC za8 none 0 none 0 0 none 0 0),.int .i64 z])) \/
  (∃(c:CrlZ) (said sig:List Int) (a:Option Addr) (ca:Nat) (a1:Option Addr) (c1:Nat) (a2:Option Addr) (c2:Nat),readC b=(c,0)/\ zbR b= .ok (crlT c,said,sig)/\ e= .returned (.tuple #[.agg (opdC c a ca a1 said.length c1 a2 sig.length c2),.int .i64 0])/\
    zbj w' c a ca/\ (∀b off,a=some ⟨b,off,none⟩->w.heap.size<b)/\ Row w' a1 said.length said/\ ((a1=none->c1=0)/\ said.length<=c1)/\ Row w' a2 sig.length sig/\ (a2=none->c2=0)))
theorem Blk.seven {w:World} {g:Nat} {t:TypeId} {a b c d e f h:Value} (k:Blk w g t #[a,b,c,d,e,f,h]):(w.cell? ⟨g,0,none⟩=some a/\ w.cell? ⟨g,1,none⟩=some b/\ w.cell? ⟨g,2,none⟩=some c/\ w.cell? ⟨g,3,none⟩=some d/\ w.cell? ⟨g,4,none⟩=some e/\ w.cell? ⟨g,5,none⟩=some f/\ w.cell? ⟨g,6,none⟩=some h)/\ w.frozen? ⟨g,0,none⟩=false/\ w.frozen? ⟨g,1,none⟩=false/\ w.frozen? ⟨g,2,none⟩=false/\ w.frozen? ⟨g,3,none⟩=false/\ w.frozen? ⟨g,4,none⟩=false/\ w.frozen? ⟨g,5,none⟩=false/\ w.frozen? ⟨g,6,none⟩=false:=
 ⟨⟨k.cell 0,k.cell 1,k.cell 2,k.cell 3,k.cell 4,k.cell 5,k.cell 6⟩,k.free 0,k.free 1,k.free 2,k.free 3,k.free 4,k.free 5,k.free 6⟩
theorem Tryz.sizeOpd (a b c d e f h:Value):(Tryz.prog.info? 63).map (·.size)=some (#[a,b,c,d,e,f,h]:Array Value).size:=by kernel_rfl
theorem zpb (g:Nat) (W:World) (a b c d e f h:Value):zak g W (((((((W.setCell ⟨g,0,none⟩ a).setCell ⟨g,1,none⟩ b).setCell ⟨g,2,none⟩ c).setCell ⟨g,3,none⟩ d).setCell ⟨g,4,none⟩ e).setCell ⟨g,5,none⟩ f).setCell ⟨g,6,none⟩ h):=
 zal (zal (zdC g W a b c d e) (zaD _ g 5 f)) (zaD _ g 6 h)
theorem zfT {w W:World} {tmps:Array Value} {fn:Func} {p u:Tmp} {g:Nat} {bv v0 v1 v2 v3 v4 v5 v6 x0 x1 x2 x3 x4 x5 x6:Value} {R:Ending->World->Prop} (hf:fn.results=#[.cell p 63,.tmp u]) (hp:tmps.getD p undef= .pointer (some ⟨g,0,none⟩)) (hu:tmps.getD u undef=bv) (hblk:Blk W g 63 #[v0,v1,v2,v3,v4,v5,v6]) (hg:w.heap.size<=g) (hb:Below w.heap.size w W)
 (hR:∀W',zak g W W'->Below w.heap.size w W'->R (.returned (.tuple #[.agg #[x0,x1,x2,x3,x4,x5,x6],bv])) W'):
 bodyPost Tryz.prog fn R .ret {tmps:=tmps,defers:=[]} (((((((W.setCell ⟨g,0,none⟩ x0).setCell ⟨g,1,none⟩ x1).setCell ⟨g,2,none⟩ x2).setCell ⟨g,3,none⟩ x3).setCell ⟨g,4,none⟩ x4).setCell ⟨g,5,none⟩ x5).setCell ⟨g,6,none⟩ x6):=by
 have k1:Blk (W.setCell ⟨g,0,none⟩ x0) g 63 #[x0,v1,v2,v3,v4,v5,v6]:=Blk.set hblk 0 x0
 have k2:Blk ((W.setCell ⟨g,0,none⟩ x0).setCell ⟨g,1,none⟩ x1) g 63 #[x0,x1,v2,v3,v4,v5,v6]:=Blk.set k1 1 x1
 have k3:Blk (((W.setCell ⟨g,0,none⟩ x0).setCell ⟨g,1,none⟩ x1).setCell ⟨g,2,none⟩ x2) g 63 #[x0,x1,x2,v3,v4,v5,v6]:=Blk.set k2 2 x2
 have k4:Blk ((((W.setCell ⟨g,0,none⟩ x0).setCell ⟨g,1,none⟩ x1).setCell ⟨g,2,none⟩ x2).setCell ⟨g,3,none⟩ x3) g 63 #[x0,x1,x2,x3,v4,v5,v6]:=Blk.set k3 3 x3
 have k5:Blk (((((W.setCell ⟨g,0,none⟩ x0).setCell ⟨g,1,none⟩ x1).setCell ⟨g,2,none⟩ x2).setCell ⟨g,3,none⟩ x3).setCell ⟨g,4,none⟩ x4) g 63 #[x0,x1,x2,x3,x4,v5,v6]:=Blk.set k4 4 x4
 have k6:Blk ((((((W.setCell ⟨g,0,none⟩ x0).setCell ⟨g,1,none⟩ x1).setCell ⟨g,2,none⟩ x2).setCell ⟨g,3,none⟩ x3).setCell ⟨g,4,none⟩ x4).setCell ⟨g,5,none⟩ x5) g 63 #[x0,x1,x2,x3,x4,x5,v6]:=Blk.set k5 5 x5
 have k7:Blk (((((((W.setCell ⟨g,0,none⟩ x0).setCell ⟨g,1,none⟩ x1).setCell ⟨g,2,none⟩ x2).setCell ⟨g,3,none⟩ x3).setCell ⟨g,4,none⟩ x4).setCell ⟨g,5,none⟩ x5).setCell ⟨g,6,none⟩ x6) g 63 #[x0,x1,x2,x3,x4,x5,x6]:=Blk.set k6 6 x6
 have b1:Below w.heap.size w (W.setCell ⟨g,0,none⟩ x0):=Below.setCell hb (p:=⟨g,0,none⟩) hg x0
 have b2:Below w.heap.size w ((W.setCell ⟨g,0,none⟩ x0).setCell ⟨g,1,none⟩ x1):=Below.setCell b1 (p:=⟨g,1,none⟩) hg x1
 have b3:Below w.heap.size w (((W.setCell ⟨g,0,none⟩ x0).setCell ⟨g,1,none⟩ x1).setCell ⟨g,2,none⟩ x2):=Below.setCell b2 (p:=⟨g,2,none⟩) hg x2
 have b4:Below w.heap.size w ((((W.setCell ⟨g,0,none⟩ x0).setCell ⟨g,1,none⟩ x1).setCell ⟨g,2,none⟩ x2).setCell ⟨g,3,none⟩ x3):=Below.setCell b3 (p:=⟨g,3,none⟩) hg x3
 have b5:Below w.heap.size w (((((W.setCell ⟨g,0,none⟩ x0).setCell ⟨g,1,none⟩ x1).setCell ⟨g,2,none⟩ x2).setCell ⟨g,3,none⟩ x3).setCell ⟨g,4,none⟩ x4):=Below.setCell b4 (p:=⟨g,4,none⟩) hg x4
 have b6:Below w.heap.size w ((((((W.setCell ⟨g,0,none⟩ x0).setCell ⟨g,1,none⟩ x1).setCell ⟨g,2,none⟩ x2).setCell ⟨g,3,none⟩ x3).setCell ⟨g,4,none⟩ x4).setCell ⟨g,5,none⟩ x5):=Below.setCell b5 (p:=⟨g,5,none⟩) hg x5
 have b7:Below w.heap.size w (((((((W.setCell ⟨g,0,none⟩ x0).setCell ⟨g,1,none⟩ x1).setCell ⟨g,2,none⟩ x2).setCell ⟨g,3,none⟩ x3).setCell ⟨g,4,none⟩ x4).setCell ⟨g,5,none⟩ x5).setCell ⟨g,6,none⟩ x6):=Below.setCell b6 (p:=⟨g,6,none⟩) hg x6
 have G:=zpb g W x0 x1 x2 x3 x4 x5 x6
 have hr:=hR _ G b7
 generalize(((((((W.setCell ⟨g,0,none⟩ x0).setCell ⟨g,1,none⟩ x1).setCell ⟨g,2,none⟩ x2).setCell ⟨g,3,none⟩ x3).setCell ⟨g,4,none⟩ x4).setCell ⟨g,5,none⟩ x5).setCell ⟨g,6,none⟩ x6)=W7 at*
 have h:=zcq (P:=Tryz.prog) hf tmps W7 g 63 #[x0,x1,x2,x3,x4,x5,x6] (0,0) _ hp k7 Tryz.underlying63 rfl (Tryz.sizeOpd _ _ _ _ _ _ _)
 rw[hu]at h
 exact bodyPost_ret h rfl hr
theorem zlD:∀(j:Nat) (x:Int),(#[Value.string ⟨#[]⟩,.int .u32 0,.int .i64 0,.int .i64 0,.slice none 0 0,.slice none 0 0,.slice none 0 0]:Array Value)[j]?≠some (.int .u8 x):=by
 intro j x h
 rcases j with _|_|_|_|_|_|_|j<;>simp at h
theorem zpc {b said sig:List Int} {n:T} (hb:∀z∈b,0<=z/\ z<=255) (h:zbR b= .ok (n,said,sig)):wt n<30000/\ sig.length<=20000/\ said.length<=20000:=by
 obtain⟨h1,h2,h3,h4,h5⟩:=zfB hb h
 have f:=zb7 (t:=zaL n sig) (by rw[h1])
 have w1:=zqC _ f.1
 have w2:=zcx (t:=zaL n sig) (x:=n) (by simp[zaL,T.kids])
 have w3:=zcx (t:=zaL n sig) (x:=zb0 sig) (by simp[zaL,T.kids])
 have w4:=zdc (zb0 sig)
 have w5:=zbq (zb0 sig).kids
 have w6:(zb0 sig).body.length=sig.length+1:=rfl
 have f2:=zb7 h3
 refine⟨by omega,by omega,?_⟩
 rw[h2,zcI f2.1 f2.2.1 f2.2.2]
 have:=zcS n f2.1
 show(layT n).length<=20000
 omega
theorem zid (b:Option Addr) (n cb:Nat) (zs:List Int) (w:World) (hr:Row w b n zs) (hnc:n<=cb) (hn:n<=30000) (hnil:b=none->cb=0):Calls Tryz.prog 31 #[.slice b n cb] w (zfS zs w):=by
 have b1:=zac w (.cells #[.string ⟨#[]⟩,.int .u32 0,.int .i64 0,.int .i64 0,.slice none 0 0,.slice none 0 0,.slice none 0 0] 63)
 have S0:=zwd (Blk.new w 63 #[.string ⟨#[]⟩,.int .u32 0,.int .i64 0,.int .i64 0,.slice none 0 0,.slice none 0 0,.slice none 0 0])
 have R0:=zwd (hr.below b1)
 have CO:=zwd (ztB b n cb zs _ (hr.below b1) hnc hn hnil)
 have HB:=zwd hr.2.1
 have B0:=zwd b1
 clear b1 hr hnil
 go_enter Tryz.func31,Tryz.ntmps31
 go_upto_region 1 with fail
 generalize w.alloc (.cells #[.string ⟨#[]⟩,.int .u32 0,.int .i64 0,.int .i64 0,.slice none 0 0,.slice none 0 0,.slice none 0 0] 63)=w1 at*
 have s1:Hid (w.heap.size<w1.heap.size):=S0.out.lt
 go_wp2_with fail
 refine CO.out.mono ?_
 rintro e w2 ⟨hb2,hways⟩
 have S2:=zwd (S0.out.below hb2 S0.out.lt)
 have B2:=zwd (B0.out.trans (hb2.mono B0.out.size))
 have R2:=zwd (R0.out.below hb2)
 have s2:Hid (w1.heap.size<=w2.heap.size):=zwd hb2.size
 clear S0 B0 R0 CO hb2
 rcases hways with⟨z,hz,hz0,rfl⟩|⟨t,said,sig,A,nb,c,K,m,d,a1,c1,a2,c2,hz,rfl,hin,hr1,hn1,hr2,hn2⟩
 · have F:Hid (readC zs=(za8,z)):=zwd (by unfold readC;rw[hz])
   have HZ:=zwd hz0
   have t0:(z !=0)=true:=by simpa using hz0
   have A3:=zac w2 (.cells #[.int .i64 0,.slice none 0 0,.slice none 0 0] 30)
   have S3:=zwd (S2.out.below A3 S2.out.lt)
   have B3:=zwd (B2.out.trans (A3.mono B2.out.size))
   clear hz hz0 A3 S2 B2
   go_upto_region 2 with fail
   generalize w2.alloc (.cells #[.int .i64 0,.slice none 0 0,.slice none 0 0] 30)=w3 at*
   obtain⟨⟨p0,p1,p2,p3,p4,p5,p6⟩,f0,f1,f2,f3,f4,f5,f6⟩:=S3.out.seven
   go_wp2_with fail
   exact zfT (R:=zfS zs w) (W:=w3) (g:=w.heap.size) rfl rfl rfl S3.out (Nat.le_refl _) B3.out (fun W' _ h2=>⟨h2,.inl ⟨z,HZ.out,F.out,rfl⟩⟩)
 · obtain⟨ht,hsg,hsd⟩:=zpc HB.out hz
   have HZ:=zwd hz
   have A3:=zac w2 (.cells #[.int .i64 t.tag,.slice A nb c,.slice K m d] 30)
   have X3:=zwd (Blk.new w2 30 #[.int .i64 t.tag,.slice A nb c,.slice K m d])
   have S3:=zwd (S2.out.below A3 S2.out.lt)
   have B3:=zwd (B2.out.trans (A3.mono B2.out.size))
   have R3:=zwd (R2.out.below A3)
   have D3:=zwd (hr1.below A3)
   have G3:=zwd (hr2.below A3)
   have I3:=zwd (T.In.below A3 _ hin)
   have ND:=zwd hn1
   have NG:=zwd hn2
   have s3:Hid (w.heap.size<(w2.alloc (.cells #[.int .i64 t.tag,.slice A nb c,.slice K m d] 30)).heap.size):=zwd (by have:=s1.out;have:=s2.out;have:=A3.size;omega)
   clear hz A3 S2 B2 R2 hr1 hr2 hin hn1 hn2 s1 s2
   go_upto_region 2 with fail
   generalize w2.alloc (.cells #[.int .i64 t.tag,.slice A nb c,.slice K m d] 30)=w3 at*
   generalize w2.heap.size=g3 at*
   obtain⟨x0,x1,x2,_,_,_⟩:=X3.out.facts
   go_wp2_with fail
   refine(zlv t _ w3 I3.out ht).mono ?_
   rintro e w4 ⟨cz,a,ca,rfl,hpo,hat,hfar,hb4⟩
   have A5:=zac w4 (.cells #[.string cz.iss,.int .u32 cz.num,.int .i64 cz.fr,.int .i64 cz.to,.slice a cz.ser.length ca] 25)
   have E5:=hb4.trans (A5.mono hb4.size)
   have Y5:=zwd (Blk.new w4 25 #[.string cz.iss,.int .u32 cz.num,.int .i64 cz.fr,.int .i64 cz.to,.slice a cz.ser.length ca])
   have S5:=zwd (S3.out.below E5 S3.out.lt)
   have B5:=zwd (B3.out.trans (E5.mono B3.out.size))
   have R5:=zwd (R3.out.below E5)
   have D5:=zwd (D3.out.below E5)
   have G5:=zwd (G3.out.below E5)
   have C5:=zwd (hat.below A5)
   have F5:Hid (∀b off,a=some ⟨b,off,none⟩->w.heap.size<b):=zwd (fun b off e=>by have:=hfar b off e;have:=s3.out;omega)
   have RG:=hat.range
   have FA:Hid (readC zs=if makeC cz sig=(zs,0)then(cz,0)else(za8,2)):=zwd (by
    unfold readC
    rw[HZ.out]
    exact zma HB.out HZ.out RG hpo.2.2)
   have i1:=hpo.1
   have i2:=hpo.2.1
   clear hb4 A5 E5 S3 B3 R3 D3 G3 I3 X3 hat hfar RG hpo x0 x1 x2 s3
   unfold crlC
   go_upto_region 5 with fail
   generalize w4.alloc (.cells #[.string cz.iss,.int .u32 cz.num,.int .i64 cz.fr,.int .i64 cz.to,.slice a cz.ser.length ca] 25)=w5 at*
   obtain⟨y0,y1,y2,y3,y4,_,_,_,_,_⟩:=Y5.out.five
   have CM:=zff cz a ca a2 sig.length c2 sig w5 C5.out (by omega) (by omega) G5.out (by omega) NG.out
   unfold crlC at CM
   have CI:=zwd CM
   have i1':=zwd i1
   clear CM i1 i2 hsg hsd ht
   generalize w4.heap.size=g5 at*
   generalize hM:makeC cz sig=M at*
   have HM:=zwd hM
   clear hM
   go_wp2_with fail
   refine CI.out.mono ?_
   rintro e w6 ⟨a6,c6,rfl,hr6,hn6,hb6,hc6⟩
   have S6:=zwd (S5.out.below hb6 S5.out.lt)
   have B6:=zwd (B5.out.trans (hb6.mono B5.out.size))
   have R6:=zwd (R5.out.below hb6)
   have D6:=zwd (D5.out.below hb6)
   have G6:=zwd (G5.out.below hb6)
   have C6:=zwd (C5.out.below hb6)
   have Y6:=zwd (Y5.out.below hb6 Y5.out.lt)
   have Q6:=zwd hr6
   clear CI S5 B5 R5 D5 G5 C5 Y5 hr6 hn6 hb6 hc6 y0 y1 y2 y3 y4
   obtain⟨y0,y1,y2,y3,y4,_,_,_,_,_⟩:=Y6.out.five
   obtain⟨⟨p0,p1,p2,p3,p4,p5,p6⟩,f0,f1,f2,f3,f4,f5,f6⟩:=S6.out.seven
   by_cases hm:M.2=0
   · have t1:(M.2 !=0)=false:=by simpa using hm
     have CE:=zwd (zdA a6 b M.1.length n c6 cb M.1 zs w6 Q6.out R6.out)
     by_cases he:M.1=zs
     · have F:Hid (readC zs=(cz,0)):=zwd (by rw[FA.out,if_pos (Prod.ext he hm)])
       have HO:Hid (zbR zs= .ok (crlT cz,said,sig)):=zwd (by
        obtain⟨s',g',h,_,_⟩:=zjY F.out
        rw[HZ.out]at h
        injection h with h
        rw[HZ.out,(Prod.mk.inj h).1])
       have d1:decide (M.1=zs)=true:=decide_eq_true he
       rw[d1]at CE
       clear he hm FA HM d1
       go_wp2_with fail
       refine CE.out.mono ?_
       rintro e w7 ⟨rfl,rfl⟩
       clear CE
       go_wp2_with fail
       exact zfT (R:=zfS zs w) (W:=w7) (g:=w.heap.size) rfl rfl rfl S6.out (Nat.le_refl _) B6.out (fun W' hG h2=>⟨h2,.inr ⟨cz,said,sig,a,ca,a1,c1,a2,c2,F.out,HO.out,rfl,C6.out.grown hG (fun b off e=>by have:=F5.out b off e;omega),F5.out,zbU D6.out (zdf D6.out S6.out zlD) hG,ND.out,zbU G6.out (zdf G6.out S6.out zlD) hG,NG.out⟩⟩)
     · have F:Hid (readC zs=(za8,2)):=zwd (by rw[FA.out,if_neg (fun h=>he (by rw[h]))])
       have d1:decide (M.1=zs)=false:=decide_eq_false he
       rw[d1]at CE
       clear he hm FA HM d1
       go_wp2_with fail
       refine CE.out.mono ?_
       rintro e w7 ⟨rfl,rfl⟩
       clear CE
       go_wp2_with fail
       exact zfT (R:=zfS zs w) (W:=w7) (g:=w.heap.size) rfl rfl rfl S6.out (Nat.le_refl _) B6.out (fun W' _ h2=>⟨h2,.inl ⟨2,by decide,F.out,rfl⟩⟩)
   · have t1:(M.2 !=0)=true:=by simpa using hm
     have F:Hid (readC zs=(za8,2)):=zwd (by rw[FA.out,if_neg (fun h=>hm (by rw[h]))])
     clear hm FA HM
     go_wp2_with fail
     exact zfT (R:=zfS zs w) (W:=w6) (g:=w.heap.size) rfl rfl rfl S6.out (Nat.le_refl _) B6.out (fun W' _ h2=>⟨h2,.inl ⟨2,by decide,F.out,rfl⟩⟩)
end Go.Proofs.YtpgahclpbdpbnaaGreatDoor
namespace Go.Proofs.YtpgahclpbdpbnaaGreatDoor
open Go.ChangeShapes Go.WideShapes Go.ChangeAt Go.RowKit
set_option linter.unusedVariables false
section
variable {H : Type} {enc : TypeId × Value -> H} {W : World} {base b0 : Nat} {held : Bool} {r : Reach} {v : Value} {d : DataW H} {ps : List MemPlace}
theorem Tryz.cellsK:Tryz.prog.cellsOf 43=2:=by kernel_rfl
theorem Tryz.cellsE:Tryz.prog.cellsOf 5=1:=by kernel_rfl
theorem Tryz.cellsS:Tryz.prog.cellsOf 26=1:=by kernel_rfl
theorem Tryz.cellsU:Tryz.prog.cellsOf 22=1:=by kernel_rfl
theorem zrX {fuel:Nat} {cs:List Value} {x:DataW H×List MemPlace} (h:DataW.trod enc Tryz.prog W base (fun _=>true) held fuel 26 cs=some x):∃a n c zs,cs=[.slice a n c]/\ Row W a n zs/\ n<=c/\ (a=none->c=0)/\ n<=maxLen:=by
 rcases open_ints Tryz.underlying26 Tryz.underlying5 Tryz.cellsE h with⟨rfl,_⟩|⟨x,l,c,zs,rfl,_,hl,hm,hz,_,hcell,hwz⟩
 · exact⟨none,0,0,[],rfl,Row.nil _ _,Nat.le_refl _,fun _=>rfl,Nat.zero_le _⟩
 · obtain⟨h1,h2⟩:=zkf (w:=W) (a:=some x) (len:=l) (cap:=c) (zs:=zs) (.inr ⟨x,rfl,hl,hm,by simpa using hz,hcell,hwz⟩)
   exact⟨some x,l,c,zs.take l,rfl,h1,hl,(fun e=>by cases e),h2⟩
end
end Go.Proofs.YtpgahclpbdpbnaaGreatDoor
namespace Go.Proofs.YtpgahclpbdpbnaaGreatDoor
open Go.ChangeShapes Go.WideShapes Go.ChangeAt Go.RowKit
set_option linter.unusedVariables false
set_option linter.unusedSimpArgs false
set_option maxRecDepth 100000
theorem zet:Tryz.prog.cellsOf 9=1:=by kernel_rfl
theorem zie:Tryz.prog.cellsOf 2=1:=by kernel_rfl
structure ziq where
 ser:Int
 iss:ByteArray
 sub:ByteArray
 fr:Int
 to:Int
 ka:Option Addr
 kn:Nat
 kc:Nat
 ke:Int
 ns:List Int
 ca:Bool
 inh:Bool
 sa:Option Addr
 sn:Nat
 sc:Nat
 ra:Option Addr
 rn:Nat
 rc:Nat
 repo:ByteArray
 crl:ByteArray
def zcF (x:ziq):Array Value:=#[.int .u32 x.ser,.string x.iss,.string x.sub,.int .i64 x.fr,.int .i64 x.to,.slice x.ka x.kn x.kc,.int .u32 x.ke,.bool x.ca,.bool x.inh,.slice x.sa x.sn x.sc,.slice x.ra x.rn x.rc,.string x.repo,.string x.crl]
structure zeu (w:World) (x:ziq):Prop where
 key:zgH w x.ka x.kn x.kc x.ke x.ns
 sz:x.kn<=maxLen/\ x.iss.size<=maxLen/\ x.sub.size<=maxLen/\ x.repo.size<=maxLen/\ x.crl.size<=maxLen
theorem zeu.below {w w':World} {x:ziq} (h:zeu w x) (hb:Below w.heap.size w w'):zeu w' x:=⟨h.key.below hb,h.sz⟩
end Go.Proofs.YtpgahclpbdpbnaaGreatDoor
namespace Go.Proofs.YtpgahclpbdpbnaaGreatDoor
open Go.RowKit
set_option linter.unusedVariables false
set_option linter.unusedSimpArgs false
theorem zn1 {b said sig:List Int} {n:T} (hb:∀z∈b,0<=z/\ z<=255) (h:zbR b= .ok (n,said,sig)):sig.length<=b.length/\ said.length<=b.length:=by
 obtain⟨h1,h2,h3,h4,h5⟩:=zfB hb h
 have f:=zb7 (t:=zaL n sig) (by rw[h1])
 have w1:=zqC _ f.1
 have w3:=zcx (t:=zaL n sig) (x:=zb0 sig) (by simp[zaL,T.kids])
 have w4:=zdc (zb0 sig)
 have w5:=zbq (zb0 sig).kids
 have w6:(zb0 sig).body.length=sig.length+1:=rfl
 have e:=zcI f.1 f.2.1 f.2.2
 rw[h1]at e
 have e2:b=layT (zaL n sig):=(Prod.mk.inj e).1
 have l:=zcS (zaL n sig) f.1
 rw[<-e2]at l
 exact⟨by omega,by omega⟩
theorem zn2 {a b:ByteArray} (h:a=b):(a.toList==b.toList)=true/\ (a.toList !=b.toList)=false:=by subst h;simp
theorem zlE {a b:ByteArray} (h:¬a=b):(a.toList==b.toList)=false/\ (a.toList !=b.toList)=true:=by
 have:¬a.toList=b.toList:=fun k=>h (zgX k)
 simp[this]
theorem zgz (b:Option Addr) (n cb:Nat) (zs:List Int) (x:ziq) (now:Int) (w:World) (hr:Row w b n zs) (hnc:n<=cb) (hn:n<=10000) (hnil:b=none->cb=0) (hx:zeu w x) (hk:x.kn<=10000) (hta:Tab w):
 Calls Tryz.prog 18 #[.slice b n cb,.agg (zcF x),.int .i64 now] w (zbk (checkC zs x.sub x.ns x.ke now) w):=by
 have X1:=(Blk.new w 49 (zcF x)).alloc (.cells #[.string ⟨#[]⟩,.int .u32 0,.int .i64 0,.int .i64 0,.slice none 0 0] 25)
 have S1:=Blk.new (w.alloc (.cells (zcF x) 49)) 25 #[.string ⟨#[]⟩,.int .u32 0,.int .i64 0,.int .i64 0,.slice none 0 0]
 rw[show(w.alloc (.cells (zcF x) 49)).heap.size=w.heap.size+1 by simp]at S1
 have b1:=(zac w (.cells (zcF x) 49)).alloc (by simp) (.cells #[.string ⟨#[]⟩,.int .u32 0,.int .i64 0,.int .i64 0,.slice none 0 0] 25)
 have C1:=zwd X1
 have R1:=zwd S1
 have B1:=zwd b1
 have K1:=zwd (hx.below b1)
 have T1:=zwd (hta.below b1)
 have CO:=zwd (zid b n cb zs _ (hr.below b1) hnc (by omega) hnil)
 have HB:=zwd hr.2.1
 have HL:Hid (zs.length<=10000):=zwd (by rw[hr.1];exact hn)
 clear X1 S1 b1 hr hnil hx hta
 unfold zcF at*
 go_enter Tryz.func18,Tryz.ntmps18
 go_upto_region 1 with fail
 generalize(w.alloc (.cells #[.int .u32 x.ser,.string x.iss,.string x.sub,.int .i64 x.fr,.int .i64 x.to,.slice x.ka x.kn x.kc,.int .u32 x.ke,.bool x.ca,.bool x.inh,.slice x.sa x.sn x.sc,.slice x.ra x.rn x.rc,.string x.repo,.string x.crl] 49)).alloc (.cells #[.string ⟨#[]⟩,.int .u32 0,.int .i64 0,.int .i64 0,.slice none 0 0] 25)=w1 at*
 have s1:Hid (w.heap.size+1<w1.heap.size):=R1.out.lt
 go_wp2_with fail
 refine CO.out.mono ?_
 rintro e w2 ⟨hb2,hways⟩
 have C2:=zwd (C1.out.below hb2 C1.out.lt)
 have R2:=zwd (R1.out.below hb2 R1.out.lt)
 have B2:=zwd (B1.out.trans (hb2.mono B1.out.size))
 have K2:=zwd (K1.out.below hb2)
 have T2:=zwd (T1.out.below hb2)
 clear C1 R1 B1 K1 T1 CO hb2
 rcases hways with⟨z,hz0,hz,rfl⟩|⟨c,said,sig,a,ca,a1,c1,a2,c2,hz,ho,rfl,hat,hfar,hr1,hn1,hr2,hn2⟩
 · have F:Hid (checkC zs x.sub x.ns x.ke now=(za8,z)):=zwd (by rw[znO (by rw[hz];exact hz0),hz])
   have t0:(z !=0)=true:=by simpa using hz0
   have A3:=zac w2 (.cells (opdC za8 none 0 none 0 0 none 0 0) 63)
   have R3:=zwd (R2.out.below A3 R2.out.lt)
   have B3:=zwd (B2.out.trans (A3.mono B2.out.size))
   clear hz A3 R2 B2 C2 K2 T2 hz0
   generalize checkC zs x.sub x.ns x.ke now=Y at*
   unfold opdC za8 at*
   simp only[List.length_nil]at*
   go_upto_region 2 with fail
   generalize w2.alloc (.cells #[.string ⟨#[]⟩,.int .u32 0,.int .i64 0,.int .i64 0,.slice none 0 0,.slice none 0 0,.slice none 0 0] 63)=w3 at*
   generalize w2.heap.size=g3 at*
   obtain⟨p0,p1,p2,p3,p4,f0,f1,f2,f3,f4⟩:=R3.out.five
   go_wp2_with fail
   exact zaV (R:=zbk Y w) (W:=w3) (g:=w.heap.size+1) rfl rfl rfl R3.out (Nat.le_succ _) B3.out (fun W' h1 h2=>by rw[F.out];exact⟨none,0,rfl,h1,h2⟩)
 · have F:=zwd (zjZ x.sub x.ns x.ke now hz ho)
   obtain⟨sl,dl⟩:=zn1 HB.out ho
   have A3:=zac w2 (.cells (opdC c a ca a1 said.length c1 a2 sig.length c2) 63)
   have Y3:=zwd (Blk.new w2 63 (opdC c a ca a1 said.length c1 a2 sig.length c2))
   have C3:=zwd (C2.out.below A3 C2.out.lt)
   have R3:=zwd (R2.out.below A3 R2.out.lt)
   have B3:=zwd (B2.out.trans (A3.mono B2.out.size))
   have L3:=zwd (hat.below A3)
   have K3:=zwd (K2.out.below A3)
   have T3:=zwd (T2.out.below A3)
   have D3:=zwd (hr1.below A3)
   have G3:=zwd (hr2.below A3)
   have F3:Hid (∀b off,a=some ⟨b,off,none⟩->b≠w.heap.size+1):=zwd (fun b off e=>by have:=hfar b off e;have:=s1.out;omega)
   have lsd:said.length<=10000:=by have:=HL.out;omega
   have lsg:sig.length<=10000:=by have:=HL.out;omega
   have n1:=hn1.2
   clear hz A3 C2 R2 B2 K2 T2 ho hat hfar hr1 hn1 hr2 hn2 sl dl HB HL
   generalize checkC zs x.sub x.ns x.ke now=Y at*
   unfold opdC at*
   go_upto_region 2 with fail
   generalize w2.alloc (.cells #[.string c.iss,.int .u32 c.num,.int .i64 c.fr,.int .i64 c.to,.slice a c.ser.length ca,.slice a1 said.length c1,.slice a2 sig.length c2] 63)=w3 at*
   generalize w2.heap.size=g3 at*
   obtain⟨⟨y0,y1,y2,y3,y4,y5,y6⟩,_⟩:=Y3.out.seven
   obtain⟨p0,p1,p2,p3,p4,f0,f1,f2,f3,f4⟩:=R3.out.five
   have q2:w3.cell? ⟨w.heap.size,2,none⟩=some (.string x.sub):=C3.out.cell 2
   have q5:w3.cell? ⟨w.heap.size,5,none⟩=some (.slice x.ka x.kn x.kc):=C3.out.cell 5
   have q6:w3.cell? ⟨w.heap.size,6,none⟩=some (.int .u32 x.ke):=C3.out.cell 6
   by_cases hs:c.iss=x.sub
   rotate_left
   · obtain⟨ts,tn⟩:=zlE hs
     rw[if_neg hs]at F
     clear hs
     go_wp2_with fail
     exact zaV (R:=zbk Y w) (W:=w3) (g:=w.heap.size+1) rfl rfl rfl R3.out (Nat.le_succ _) B3.out (fun W' h1 h2=>by rw[F.out];exact⟨none,0,rfl,h1,h2⟩)
   obtain⟨ts,tn⟩:=zn2 hs
   rw[if_pos hs]at F
   clear hs
   have CV:=zwd (zpa x.ka a2 a1 x.kn x.kc sig.length c2 said.length c1 x.ke x.ns sig said w3 K3.out.key hk D3.out lsd n1 G3.out lsg T3.out)
   go_wp2_with fail
   refine CV.out.mono ?_
   rintro e w4 ⟨rfl,hb4⟩
   have R4:=zwd (R3.out.below hb4 R3.out.lt)
   have B4:=zwd (B3.out.trans (hb4.mono B3.out.size))
   have L4:=zwd (L3.out.below hb4)
   have Y4:=zwd (Y3.out.below hb4 Y3.out.lt)
   clear CV C3 R3 B3 L3 K3 T3 D3 G3 Y3 hb4 p0 p1 p2 p3 p4 f0 f1 f2 f3 f4 q2 q5 q6 y0 y1 y2 y3 y4 y5 y6
   obtain⟨⟨y0,y1,y2,y3,y4,y5,y6⟩,_⟩:=Y4.out.seven
   obtain⟨p0,p1,p2,p3,p4,f0,f1,f2,f3,f4⟩:=R4.out.five
   generalize verZ x.ns x.ke said sig=vz at*
   by_cases hv:vz=0
   rotate_left
   · have tv:(vz !=0)=true:=by simpa using hv
     rw[if_neg hv]at F
     clear hv
     go_wp2_with fail
     exact zaV (R:=zbk Y w) (W:=w4) (g:=w.heap.size+1) rfl rfl rfl R4.out (Nat.le_succ _) B4.out (fun W' h1 h2=>by rw[F.out];exact⟨none,0,rfl,h1,h2⟩)
   have tv:(vz !=0)=false:=by simpa using hv
   rw[if_pos hv]at F
   clear hv
   by_cases h1:now<c.fr
   · have t1:decide (now<c.fr)=true:=decide_eq_true h1
     rw[if_neg (by omega)]at F
     clear h1
     go_wp2_with fail
     exact zaV (R:=zbk Y w) (W:=w4) (g:=w.heap.size+1) rfl rfl rfl R4.out (Nat.le_succ _) B4.out (fun W' h1 h2=>by rw[F.out];exact⟨none,0,rfl,h1,h2⟩)
   have t1:decide (now<c.fr)=false:=decide_eq_false h1
   by_cases h2:c.to<now
   · have t2:decide (c.to<now)=true:=decide_eq_true h2
     rw[if_neg (by omega)]at F
     clear h1 h2
     go_wp2_with fail
     exact zaV (R:=zbk Y w) (W:=w4) (g:=w.heap.size+1) rfl rfl rfl R4.out (Nat.le_succ _) B4.out (fun W' h1 h2=>by rw[F.out];exact⟨none,0,rfl,h1,h2⟩)
   have t2:decide (c.to<now)=false:=decide_eq_false h2
   rw[if_pos (by omega)]at F
   clear h1 h2
   go_wp2_with fail
   exact zdF (x:=c) (a:=a) (ca:=ca) (R:=zbk Y w) (W:=w4) (g:=w.heap.size+1) rfl rfl rfl R4.out (Nat.le_succ _) B4.out L4.out F3.out (fun W' h1 h2=>by rw[F.out];exact⟨a,ca,rfl,h1,h2⟩)
end Go.Proofs.YtpgahclpbdpbnaaGreatDoor
namespace Go.Proofs.YtpgahclpbdpbnaaGreatDoor
open Go.RowKit
set_option linter.unusedVariables false
set_option linter.unusedSimpArgs false
theorem zrY (last:Int) (h0:0<=last) (h1:last<=1000) (w:World):Calls Tryz.prog 55 #[.int .u32 last] w (zb2 (algT last) w):=by
 have S0:=zwd (RB.start w)
 have R1:=zbs (w.alloc (.cells #[.int .i64 0,.slice none 0 0,.slice none 0 0] 30)) (zeT last) (zi5 last h0 h1)
 have CO:=zs5 _ _ 7 _ _ R1
 rw[zt9]at CO
 have S1:=zwd (S0.out.go ((Below.refl _ _).alloc (Nat.le_refl _) (.cells ((zeT last).map (Value.int .u32)).toArray 22)))
 unfold zeT at CO S1
 simp only[World.size_alloc,List.length_cons,List.length_nil,List.map_cons,List.map_nil]at CO S1
 have CI:=zwd CO
 clear R1 CO
 go_enter Tryz.func55,Tryz.ntmps55
 go_wp2_with fail
 refine CI.out.mono ?_
 rintro e w3 ⟨A,n,c,K,m,d,rfl,hin,hb⟩
 have S3:=zwd (S1.out.go hb)
 have I3:Hid ((oidT last).InP (w.heap.size< ·) w3 (.agg #[.int .i64 6,.slice A n c,.slice K m d])):=T.InP.keep (fun x _ hp=>⟨by have hp':=hp;simp at hp';show w.heap.size<x;omega,rfl⟩) (Nat.le_refl _) _ hin
 clear CI S1 S0 hin hb
 have B4:Below w3.heap.size w3 ((w3.alloc (.cells #[.int .i64 (oidT last).tag,.slice A n c,.slice K m d] 30)).alloc (.cells #[.int .i64 (oidT last).tag,.slice A n c,.slice K m d,.int .i64 5,.slice none 0 0,.slice none 0 0] 30)):=((Below.refl _ _).alloc (Nat.le_refl _) _).alloc (by simp) _
 have S4:=zwd (S3.out.go B4)
 have K4:Hid (zcM (w.heap.size< ·) ((w3.alloc (.cells #[.int .i64 (oidT last).tag,.slice A n c,.slice K m d] 30)).alloc (.cells #[.int .i64 (oidT last).tag,.slice A n c,.slice K m d,.int .i64 5,.slice none 0 0,.slice none 0 0] 30)) (some ⟨w3.heap.size+1,0,none⟩) 2 2 [oidT last,.node 5 [] []]):=by
  have hb:=Blk.new (w3.alloc (.cells #[.int .i64 (oidT last).tag,.slice A n c,.slice K m d] 30)) 30 #[.int .i64 (oidT last).tag,.slice A n c,.slice K m d,.int .i64 5,.slice none 0 0,.slice none 0 0]
  rw[show(w3.alloc (.cells #[.int .i64 (oidT last).tag,.slice A n c,.slice K m d] 30)).heap.size=w3.heap.size+1 by simp]at hb
  exact zjR hb (by have:=S3.out.below.size;have:=S3.out.box.lt;show w.heap.size<w3.heap.size+1;omega) (T.InP.below B4 (fun _ h=>h) _ I3.out) (znM _ _)
 obtain⟨c0,c1,c2,f0,f1,f2⟩:=S4.out.box.facts
 clear B4 S3 I3
 go_wp2_with fail
 exact zlm rfl rfl S4.out K4.out
theorem zif (t:T) (v:Value) (a:Option Addr) (n ca:Nat) (zs:List Int) (w:World) (hin:t.In w v) (hwt:wt t+zs.length<39000) (hr:Row w a n zs) (hnil:a=none->ca=0):Calls Tryz.prog 30 #[v,.slice a n ca] w (zdw (zao (zaL t zs)) w):=by
 obtain⟨A,nb,c,K,m,d,rfl⟩:=(T.In.inP t hin).form
 have BX:=zwd (Box.start hin)
 have hlen:=hr.1
 have hw0:=zkQ t
 have WS:=zjB t zs
 have CO:=zhz a n ca zs (8*(n:Int)) (w.alloc (.cells #[.int .i64 t.tag,.slice A nb c,.slice K m d] 30)) (hr.below BX.out.below) (by omega) hnil
 have e:zaG zs (8*(n:Int))=(zb0 zs,0):=by rw[<-hlen];exact zf5 zs
 rw[e]at CO
 have CI:=zwd CO
 have I0:=zwd (T.In.any BX.out.has)
 have X0:=zwd BX.out.blk
 have B0:=zwd BX.out.below
 have hn1:n<=39000:=by omega
 clear CO e hr hnil hin BX hlen
 go_enter Tryz.func30,Tryz.ntmps30
 go_wp2_with fail
 refine CI.out.mono ?_
 rintro e w2 ⟨A2,n2,c2,K2,m2,d2,rfl,hin2,hb2⟩
 have A3:Below w2.heap.size w2 (w2.alloc (.cells #[.int .i64 (zb0 zs).tag,.slice A2 n2 c2,.slice K2 m2 d2] 30)):=(Below.refl _ _).alloc (Nat.le_refl _) _
 have E3:=hb2.trans (A3.mono hb2.size)
 have X3:=zwd (X0.out.below E3 X0.out.lt)
 have Y3:=zwd (Blk.new w2 30 #[.int .i64 (zb0 zs).tag,.slice A2 n2 c2,.slice K2 m2 d2])
 have B3:=zwd (B0.out.trans (E3.mono B0.out.size))
 have I3:=zwd (T.InP.below E3 (fun _ h=>h) _ I0.out)
 have J3:=zwd (T.InP.below A3 (Q:=Any) (fun _ _=>trivial) _ hin2)
 clear CI X0 B0 I0 hin2 hb2 A3 E3
 go_wp2_with fail
 generalize w2.alloc (.cells #[.int .i64 (zb0 zs).tag,.slice A2 n2 c2,.slice K2 m2 d2] 30)=w3 at*
 generalize w2.heap.size=g6 at*
 have l0:=zaf (X3.out.cell 0)
 have l1:=zaf (X3.out.cell 1)
 have l2:=zaf (X3.out.cell 2)
 have k0:=zaf (Y3.out.cell 0)
 have k1:=zaf (Y3.out.cell 1)
 have k2:=zaf (Y3.out.cell 2)
 refine zaa Ext Ext.refl (fun _ _ _=>Ext.trans) ((0,false)::(2,false)::(1,true)::(3,true)::(4,false)::(5,true)::(6,false)::(7,false)::(8,false)::(9,false)::[]) (by kernel_rfl) (by kernel_rfl) rfl (by kernel_rfl) (fun _ _ _ _ _ h=>h) ?_
 repeat(refine zab _ rfl (by rfl) (fun W hW=>by go_simp;first|done|rfl) ?_;simp only[Act.put,zwe,zwg,zwf])
 clear l0 l1 l2 k0 k1 k2 X3 Y3
 have B4:Hid (Below w.heap.size w w3.drew):=B3.out.drew
 have I4:=zwd (T.InP.below (w:=w3) (w':=w3.drew) (Below.refl _ _).drew (fun _ h=>h) _ I3.out)
 have J4:=zwd (T.InP.below (w:=w3) (w':=w3.drew) (Below.refl _ _).drew (fun _ h=>h) _ J3.out)
 clear B3 I3 J3
 generalize w3.drew=w4 at*
 refine zad rfl (by rfl) (fun K1 hK1=> ?_)
 go_simp
 refine(zrY 11 (by omega) (by omega) w4).mono ?_
 rintro e w5 ⟨A5,n5,c5,K5,m5,d5,rfl,hin5,hb5⟩
 refine hK1 _ _ hb5 ?_
 clear hK1 K1
 have A6:Below w5.heap.size w5 (w5.alloc (.cells #[.int .i64 t.tag,.slice A nb c,.slice K m d,.int .i64 (algT 11).tag,.slice A5 n5 c5,.slice K5 m5 d5,.int .i64 (zb0 zs).tag,.slice A2 n2 c2,.slice K2 m2 d2] 30)):=(Below.refl _ _).alloc (Nat.le_refl _) _
 have E6:=hb5.trans (A6.mono hb5.size)
 have B6:=zwd (B4.out.trans (E6.mono B4.out.size))
 have K6:=zwd (zi6 (P:=Any) (Blk.new w5 30 #[.int .i64 t.tag,.slice A nb c,.slice K m d,.int .i64 (algT 11).tag,.slice A5 n5 c5,.slice K5 m5 d5,.int .i64 (zb0 zs).tag,.slice A2 n2 c2,.slice K2 m2 d2]) trivial (T.InP.below E6 (fun _ h=>h) _ I4.out) (T.InP.below A6 (Q:=Any) (fun _ _=>trivial) _ hin5) (T.InP.below E6 (fun _ h=>h) _ J4.out))
 clear hb5 hin5 B4 I4 J4 E6
 refine zad rfl (by rfl) (fun K1 hK1=> ?_)
 go_simp
 refine hK1 _ _ A6 ?_
 clear hK1 K1 A6
 generalize w5.alloc (.cells #[.int .i64 t.tag,.slice A nb c,.slice K m d,.int .i64 (algT 11).tag,.slice A5 n5 c5,.slice K5 m5 d5,.int .i64 (zb0 zs).tag,.slice A2 n2 c2,.slice K2 m2 d2] 30)=w6 at*
 generalize w5.heap.size=g9 at*
 have CW:=zwd (zf8 (zaL t zs) _ w6 (T.InP.in _ (K6.out.node (z:=48) (by decide))) (by omega))
 repeat(refine zab _ rfl (by rfl) (fun W hW=>by go_simp;first|done|rfl) ?_;simp only[Act.put,zwe,zwg,zwf])
 refine zad rfl (by rfl) (fun K1 hK1=> ?_)
 go_simp
 refine CW.out.mono ?_
 rintro e w7 ⟨a7,c7,rfl,hr7,hn7,hb7⟩
 refine hK1 _ _ hb7 ?_
 clear hK1 K1
 have B7:=zwd (B6.out.trans (hb7.mono B6.out.size))
 have R7:=zwd hr7
 have N7:=zwd hn7
 clear hb7 B6 K6 CW hr7 hn7
 repeat(refine zab _ rfl (by rfl) (fun W hW=>by go_simp;first|done|rfl) ?_;simp only[Act.put,zwe,zwg,zwf])
 refine zai ?_
 go_wp2_with fail
 go_ret2
 exact⟨a7,c7,rfl,R7.out,N7.out,B7.out⟩
end Go.Proofs.YtpgahclpbdpbnaaGreatDoor
