import Derived.Test.YtpgahclpbdpbnaaGreatDoorGAO
import Derived.Test.YtpgahclpbdpbnaaGreatDoorGAZ
import Derived.Test.YtpgahclpbdpbnaaGreatDoorGAH
import Derived.Test.YtpgahclpbdpbnaaGreatDoorGAW
set_option maxHeartbeats 8000000
set_option maxRecDepth 100000
namespace Go.Proofs.YtpgahclpbdpbnaaGreatDoor
open Go.RowKit
set_option linter.unusedVariables false
set_option linter.unusedSimpArgs false
theorem zmD (w:World):Calls Tryz.prog 120 #[] w fun e w'=>∃d:Int,e= .returned (.int .u32 d)/\ 0<=d/\ d<=554993/\ d*65537%720720=1/\ w'=w:=by
 go_enter Tryz.func120,Tryz.ntmps120
 go_wp2_with fail
 go_loopw [1] (fun dV wr=>∃d:Int,dV= .int .u64 d/\ 1<=d/\ d<=554993/\ wr=w) (fun dV _=>(1000000-intOf dV).toNat)
 case atStart=>exact⟨1,rfl,by omega,by omega,rfl⟩
 case round=>
  obtain⟨d,rfl,d1,d2,rfl⟩:=hrel
  have wm:IntKind.u64.wrap (d*65537)=d*65537:=IntWalk.u64_in _ (by omega)
  by_cases h:d*65537%720720=1
  · have t0:(d*65537%720720 !=1)=false:=by simpa using h
    have H:=zwd h
    clear h
    go_wp2_with fail
    go_ret
    exact⟨d,rfl,by omega,d2,H.out,rfl⟩
  · have t0:(d*65537%720720 !=1)=true:=by simpa using h
    have hne:d+1<=554993:=by
     rcases Int.lt_or_le d 554993 with h'|h'
     · omega
     · exfalso
       apply h
       rw[show d=554993 by omega]
       decide
    clear h
    go_wp2_with fail
    go_roundw
    case rel=>exact⟨d+1,by go_num,by omega,by omega,by trivial⟩
    case measure=>simp only[intOf];omega
def PZ:List Int:=zdx.map fun p:Nat=>(p:Int)
theorem zn3:∀x∈PZ,0<=x/\ x<=4294967295:=by
 intro x hx
 have:(PZ.all fun x=>decide (0<=x)&&decide (x<=4294967295))=true:=by kernel_rfl
 have:=List.all_eq_true.1 this x hx
 simpa using this
theorem zpd (w:World):zat (w.alloc (.cells (PZ.map (Value.int .u32)).toArray 22)) (some ⟨w.heap.size,0,none⟩) 69 PZ:=zbs w PZ zn3
theorem zpe (w:World):Calls Tryz.prog 71 #[] w fun e w'=>e= .returned (.slice (some ⟨w.heap.size,0,none⟩) 69 69)/\ w'=w.alloc (.cells (PZ.map (Value.int .u32)).toArray 22):=by
 go_enter Tryz.func71,Tryz.ntmps71
 go_wp2_with (refine wpList_buildFlatAt rfl 23 22 69 _ rfl .u32 PZ w.heap.size rfl (some 1) rfl Tryz.underlying23 (by kernel_rfl) (by kernel_rfl) rfl (by decide) (by decide) (by kernel_rfl) ?_)
 go_ret
 exact⟨rfl,rfl⟩
theorem ztT (i k:Nat):(k%8=i%8->keyZ i (k+1)=keyZ i k)/\ (k%8≠i%8->keyZ i (k+1)=keyZ i k*PZ[k]?.getD 0):=by
 refine⟨fun h=>by unfold keyZ;rw[keyN,if_pos h],fun h=> ?_⟩
 unfold keyZ
 rw[keyN,if_neg h,Int.natCast_mul]
 congr 1
 unfold PZ
 rw[List.getElem?_map]
 cases zdx[k]?<;>rfl
theorem zmE (i k:Nat):0<=keyZ i k:=by unfold keyZ;omega
theorem Tryz.sizeKey:(Tryz.prog.info? 43).map (·.size)=some 2:=by kernel_rfl
theorem zvk (a:Option Addr) (n c:Nat) (e:Int):(#[.slice a n c,.int .u32 e]:Array Value).all (·.oneCell')=true:=by simp[Value.oneCell']
theorem zpf {W:World} {gp:Nat} (h:zat W (some ⟨gp,0,none⟩) 69 PZ) (k:Nat) (hk:k<69):W.cell? ⟨gp,k,none⟩=some (.int .u32 (PZ[k]?.getD 0))/\ 0<=PZ[k]?.getD 0/\ PZ[k]?.getD 0<=4294967295:=by
 obtain⟨b,o,e,_,hc⟩:=h.2.2 (by omega)
 injection e with e
 injection e with e1 e2
 subst e1 e2
 have:=hc k hk
 rw[Nat.zero_add]at this
 have hl:k<PZ.length:=by rw[h.1];exact hk
 refine⟨this,?_⟩
 rw[List.getElem?_eq_getElem hl]
 exact zn3 _ (List.getElem_mem hl)
theorem zrZ (i:Nat) (hi:i<8) (w:World):Calls Tryz.prog 43 #[.int .i64 (i:Int)] w fun e w'=>∃a c,e= .returned (.agg #[.slice a (KEY i).length c,.int .u32 65537])/\ zgH w' a (KEY i).length c 65537 (KEY i)/\ Below w.heap.size w w':=by
 have BX:=zwd (Blk.new w 43 #[.slice none 0 0,.int .u32 0])
 have BW:=zwd (zaI w (.cells #[.slice none 0 0,.int .u32 0] 43))
 go_enter Tryz.func43,Tryz.ntmps43
 generalize hw2:w.alloc (.cells #[.slice none 0 0,.int .u32 0] 43)=w2 at*
 have CP:=zwd (zpe w2)
 go_wp2_with fail
 refine CP.out.mono ?_
 rintro r w3 ⟨rfl,hw3⟩
 have R3:Hid (zat w3 (some ⟨w2.heap.size,0,none⟩) 69 PZ):=by rw[hw3];exact zwd (zpd w2)
 have E3:Below w2.heap.size w2 w3:=by rw[hw3];exact zaI w2 _
 have B3:=zwd (Below.step BW.out E3)
 have X3:=zwd (BX.out.below E3 BX.out.lt)
 generalize w2.heap.size=gp at*
 clear hw3 E3 CP BW BX hw2
 have O3:=zwd (zic 1 w3 _ (by omega) (by omega) rfl)
 have D3:=zwd (zaI w3 (.cells #[.int .u32 1] 22))
 go_wp2_with fail
 have PR:=zwd (fun W (hb:Below w3.heap.size w3 W) (k:Nat) (hk:k<69)=>zpf (R3.out.below hb) k hk)
 go_loopw [4,5] (fun nV kV wr=>∃(k m c:Nat) (a:Option Addr),nV= .slice a m c/\ kV= .int .i64 (k:Int)/\ k<=69/\ m<=k+1/\ Num wr (keyZ i k) a m c/\ Below w3.heap.size w3 wr) (fun _ kV _=>(100-intOf kV).toNat)
 case atStart=>exact⟨0,1,1,_,rfl,rfl,by omega,by omega,O3.out,D3.out⟩
 case round=>
  obtain⟨k,m,c,a,rfl,rfl,hk,hm,hnum,hb⟩:=hrel
  have NU:=zwd hnum
  have BE:=zwd hb
  clear hnum hb
  by_cases hlt:k<69
  · have t0:decide ((k:Int)<69)=true:=decide_eq_true (by omega)
    obtain⟨hc,q0,q1⟩:=PR.out wr BE.out k hlt
    have ST:=zwd (ztT i k)
    by_cases he:k%8=i%8
    · have t1:((k:Int)%8 !=(i:Int)%8)=false:=by simp;omega
      have KE:=zwd (ST.out.1 he)
      clear he ST
      go_wp2_with fail
      go_roundw
      case rel=>exact⟨k+1,m,c,a,rfl,by go_num,by omega,by omega,by rw[KE.out];exact NU.out,BE.out⟩
      case measure=>simp only[intOf];omega
    · have t1:((k:Int)%8 !=(i:Int)%8)=true:=by simp;omega
      have KE:=zwd (ST.out.2 he)
      clear he ST
      have kk:0<=(k:Int):=by omega
      generalize PZ[k]?.getD 0=x at*
      have O4:=zwd (zic x wr _ q0 q1 rfl)
      have D4:=zwd (zaI wr (.cells #[.int .u32 x] 22))
      have CM:=zwd (zkq (NU.out.below D4.out) O4.out (by omega) (by omega))
      rw[<-KE.out]at CM
      have B4:=zwd (BE.out.trans (D4.out.mono BE.out.size))
      clear O4 D4 NU
      go_wp2_with fail
      refine CM.out.mono ?_
      rintro r w5 ⟨a5,n5,c5,rfl,hN5,hl5,hb5⟩
      have N5:=zwd (hN5.num (zmE i (k+1)))
      have B5:=zwd (B4.out.trans (hb5.mono B4.out.size))
      clear hN5 hb5 CM B4
      go_wp2_with fail
      go_roundw
      case rel=>exact⟨k+1,n5,c5,a5,rfl,by go_num,by omega,by omega,N5.out,B5.out⟩
      case measure=>simp only[intOf];omega
  · have t0:decide ((k:Int)<69)=false:=decide_eq_false (by omega)
    obtain rfl:k=69:=by omega
    have X4:=zwd (X3.out.below BE.out X3.out.lt)
    obtain⟨xs,hr,hv,hc,hi'⟩:=NU.out
    have ct:=zpU a m c xs wr hr (by omega)
    unfold ziC at ct
    rw[hv]at ct
    have CT:=zwd ct
    have KL:=zwd (zel hi)
    have KB:=zwd (zgS i)
    have KY:Hid (byZ (keyZ i 69)=KEY i):=zwd rfl
    rw[KY.out]at CT
    clear ct hr hv hc hi' NU KY
    go_wp2_with fail
    refine CT.out.mono ?_
    rintro r w5 ⟨V,rfl,ho⟩
    obtain⟨g5,c5,rfl,hg5⟩:=ho.form (by have:=KL.out;omega)
    obtain⟨a5,d5,e5,hr5⟩:=ho.row KB.out
    injection e5 with e6 e7 e8
    subst e6 e8
    have hc5:=zaJ ho.1
    have B5:=zwd (Below.step (Below.step B3.out BE.out) ho.2)
    have X5:=zwd (X4.out.below ho.2 X4.out.lt)
    have hlt:=X4.out.lt
    have R5:Hid (Row (w5.setRow w.heap.size #[.slice (some ⟨g5,0,none⟩) (KEY i).length c5,.int .u32 65537]) (some ⟨g5,0,none⟩) (KEY i).length (KEY i)):=zwd (hr5.grown (zcL w5 w.heap.size _) (fun _=>⟨g5,0,rfl,by omega⟩))
    clear ho hr5 CT BE X4 B3 X3 R3 O3 D3 PR
    go_wp2_with (first|(refine wpList_store_rowTo rfl 43 (.tmp 2) (.tmp 28) rfl rfl w.heap.size #[.slice (some ⟨g5,0,none⟩) (KEY i).length c5,.int .u32 65537] rfl rfl 43 #[.slice none 0 0,.int .u32 0] X5.out Tryz.sizeKey rfl (zvk _ _ _ _) ?_))
    exact bodyPost_ret (results_cell_row rfl _ _ w.heap.size 43 #[.slice (some ⟨g5,0,none⟩) (KEY i).length c5,.int .u32 65537] (0,0) _ rfl (setRow_heap _ _ _ _ 43 _ X5.out) Tryz.underlying43 rfl Tryz.sizeKey) rfl ⟨_,c5,rfl,⟨R5.out,hc5,(fun e=>by cases e),by omega,by omega⟩,below_setRow B5.out (Nat.le_refl _) _⟩
def ztU (i:Nat) (ts:List Int) (w:World) (e:Ending) (w':World):Prop:=∃d:Int,0<=d/\ d*65537%720720=1/\ zaZ (sigZ i d ts) w e w'
theorem ztV (i:Nat) (hi:i<8) (p:Option Addr) (tn tc:Nat) (ts:List Int) (w:World) (ht:Row w p tn ts) (hn3:tn<=10000) (hp:p=none->tc=0):
 Calls Tryz.prog 70 #[.int .i64 (i:Int),.slice p tn tc] w (ztU i ts w):=by
 have CK:=zwd (zrZ i hi w)
 have TX:=zwd ht
 have HP:=zwd hp
 have KL:=zwd (zel hi)
 have HL:=zwd (zdX ts)
 have HB:=zwd (zek ts)
 have SR:=zwd (fun d=>zjJ hi d ts)
 have SS:=zwd (fun d=>zlb hi d ts)
 have KV:=zwd (zjI hi)
 have KP:=zwd (zgd hi)
 clear ht hp
 go_enter Tryz.func70,Tryz.ntmps70
 go_wp2_with fail
 refine CK.out.mono ?_
 rintro r w3 ⟨a,c,rfl,hk3,hb3⟩
 have X4:=zwd (zer w3 a (KEY i).length c 65537)
 have B4:=zwd (Below.step hb3 (zaI w3 (.cells #[.slice a (KEY i).length c,.int .u32 65537] 43)))
 have K4:=zwd (hk3.below (zaI w3 (.cells #[.slice a (KEY i).length c,.int .u32 65537] 43)))
 have T4:=zwd (TX.out.below B4.out)
 clear hk3 hb3 CK TX
 generalize hw4:w3.alloc (.cells #[.slice a (KEY i).length c,.int .u32 65537] 43)=w4 at*
 generalize hg4:w3.heap.size=g4 at*
 go_wp2_with fail
 clear hw4 hg4
 have d0:=X4.out.cell 0
 simp only[List.getElem?_toArray,List.getElem?_cons_zero]at d0
 have l0:=zaf d0
 refine zaa Ext Ext.refl (fun _ _ _=>Ext.trans) ((0,false)::(2,false)::(3,false)::(4,false)::(1,true)::(5,true)::(6,false)::(7,false)::(8,false)::(9,false)::(10,false)::[]) (by kernel_rfl) (by kernel_rfl) rfl (by kernel_rfl) (fun _ _ _ _ _ h=>h) ?_
 repeat(refine zab _ rfl (by rfl) (fun W hW=>by go_simp;first|done|rfl) ?_;simp only[Act.put,zwe,zwg,zwf])
 clear l0
 refine zad rfl (by rfl) (fun K1 hK1=> ?_)
 go_simp
 refine(znU p tn tc ts w4.drew (T4.out.drewN 1) (by omega) HP.out).mono ?_
 rintro r w5 ⟨rfl,hb5⟩
 refine hK1 _ _ hb5 ?_
 have E5:Ext w4 w5:=Ext.of_drew hb5
 have B5:=zwd (Below.step B4.out E5)
 have K5:=zwd (K4.out.below E5)
 have X5:=zwd (X4.out.below E5 X4.out.lt)
 have CF:=zwd (zjd (zbV ts) ((KEY i).length:Int) w5 HL.out HB.out (by omega) (by have:=KL.out;omega))
 rw[(zeR (zbV ts) KL.out.1 (by have:=KL.out;omega)).1,(zeR (zbV ts) KL.out.1 (by have:=KL.out;omega)).2]at CF
 have FB:=zwd (zcD HB.out (KEY i).length)
 have FL:=zwd (zhH HL.out KL.out.1)
 clear hK1 K1 hb5 E5 B4 K4 X4 d0 T4
 refine zad rfl (by rfl) (fun K1 hK1=> ?_)
 go_simp
 refine CF.out.mono ?_
 rintro r w6 ⟨a6,c6,rfl,hr6,hc6,hn6,hb6⟩
 refine hK1 _ _ hb6 ?_
 have B6:=zwd (Below.step B5.out hb6)
 have K6:=zwd (K5.out.below hb6)
 have X6:=zwd (X5.out.below hb6 X5.out.lt)
 have F6:=zwd hr6
 have d0:=X6.out.cell 0
 simp only[List.getElem?_toArray,List.getElem?_cons_zero]at d0
 clear hK1 K1 hb6 hr6 CF B5 K5 X5 HL HB
 repeat(refine zab _ rfl (by rfl) (fun W hW=>by go_simp;first|done|rfl) ?_;simp only[Act.put,zwe,zwg,zwf])
 refine zai ?_
 have WD:Hid (∀d,widZ (KEY i).length (remZ (beV (zbh (zbV ts) (KEY i).length)^d.toNat) (keyZ i 69))=sigZ i d ts):=zwd (fun d=>rfl)
 generalize zbh (zbV ts) (KEY i).length=fz at*
 have FN:=zwd (zbt FB.out)
 have FH:fz.length<=100:=by have:=FL.out;have:=KL.out;omega
 have KH:(KEY i).length<=100:=KL.out.2
 go_wp2_with fail
 have l0:=zaf d0
 refine zb6 Ext Ext.refl (fun _ _ _=>Ext.trans) (.take 0 (.take 4 (.take 5 (.sole 1 (.sole 2 (.fork 3 (.sole 6 (.sole 7 (.take 8 (.take 9 (.take 10 (.take 11 (.take 12 .fin))))))) 6 (.sole 3 (.sole 7 (.take 8 (.take 9 (.take 10 (.take 11 (.take 12 .fin))))))))))))) (by kernel_rfl) (by kernel_rfl) rfl (by kernel_rfl) (fun _ _ _ _ _ h=>h) ?_
 repeat(refine zbQ _ rfl (by rfl) (fun W hW=>by go_simp;first|done|rfl) ?_;simp only[Act.put,zwe,zwg,zwf])
 clear l0
 refine zax (zam rfl (by rfl) (fun K1 hK1=> ?_))
 go_simp
 refine(zeB (w:=w6.drew) (ca:=c6) (F6.out.drewN 1) (by omega)).mono ?_
 rintro r w7 ⟨a7,n7,c7,rfl,hN7,hl7,hb7⟩
 refine hK1 _ _ hb7 ?_
 have E7:Ext w6 w7:=Ext.of_drew hb7
 have F7:=zwd (hN7.num FN.out)
 have B7:=zwd (Below.step B6.out E7)
 have K7:=zwd (K6.out.below E7)
 have X7:=zwd (X6.out.below E7 X6.out.lt)
 clear hK1 K1 hN7 hb7 E7 F6 B6 K6 X6 d0
 refine zax (zam rfl (by rfl) (fun K1 hK1=> ?_))
 go_simp
 refine(zmD w7).mono ?_
 rintro r w8 ⟨d,rfl,d0,d1,hd,rfl⟩
 refine hK1 _ _ (Ext.refl _) ?_
 have DD:=zwd hd
 have RN:=zwd (SR.out d).1
 have RS:=zwd (SS.out d)
 have WZ:=zwd (WD.out d)
 obtain⟨rm,hrm⟩:∃rm,rm=remZ (beV fz^d.toNat) (keyZ i 69):=⟨_,rfl⟩
 rw[<-hrm]at RN RS WZ
 have SZ:=zwd hrm
 have NK:=zwd (fun W (hb:Below w8.heap.size w8 W)=>zeB (ca:=c) (K7.out.below hb).1 (by omega))
 rw[KV.out]at NK
 have KN:=zwd (Int.le_of_lt KP.out)
 clear hK1 K1 hd hrm SR SS WD K7 FB FL
 have O8:=zwd (fun W:World=>zic d W W.heap.size d0 (by omega) rfl)
 refine zef ?_ ?_
 · refine zam rfl (by rfl) (fun K1 hK1=> ?_)
   go_simp
   have A8:=zwd (zaI w8 (.cells #[.int .u32 d] 22))
   refine hK1 _ _ A8.out ?_
   clear hK1 K1
   refine zax (zam rfl (by rfl) (fun K1 hK1=> ?_))
   go_simp
   refine(NK.out _ A8.out).mono ?_
   rintro r w9 ⟨a9,n9,c9,rfl,hN9,hl9,hb9⟩
   refine hK1 _ _ hb9 ?_
   have Q9:=Below.step A8.out hb9
   have M9:=zwd (hN9.num KN.out)
   have O9:=zwd ((O8.out w8).below hb9)
   have F9:=zwd (F7.out.below Q9)
   have B9:=zwd (Below.step B7.out Q9)
   have X9:=zwd (X7.out.below Q9 X7.out.lt)
   clear hK1 K1 hN9 hb9 Q9 A8 O8 NK F7 B7 X7
   have CE:=zwd (zib F9.out O9.out M9.out (by omega) (by omega) (by omega))
   rw[<-SZ.out]at CE
   refine zax (zam rfl (by rfl) (fun K1 hK1=> ?_))
   go_simp
   refine CE.out.mono ?_
   rintro r w10 ⟨a10,n10,c10,rfl,hN10,hl10,hb10⟩
   refine hK1 _ _ hb10 ?_
   have N10:=zwd (hN10.num RN.out)
   have B10:=zwd (Below.step B9.out hb10)
   have X10:=zwd (X9.out.below hb10 X9.out.lt)
   have c0:=X10.out.cell 0
   simp only[List.getElem?_toArray,List.getElem?_cons_zero]at c0
   clear hK1 K1 hN10 hb10 CE F9 O9 M9 B9 X9
   repeat(refine zbQ _ rfl (by rfl) (fun W hW=>by go_simp;first|done|rfl) ?_;simp only[Act.put,zwe,zwg,zwf])
   refine zdj ?_
   have CP:=zwd (zfh a10 n10 c10 (KEY i).length rm w10 N10.out (by omega) (by omega) RS.out)
   rw[WZ.out]at CP
   clear N10 X10 RS RN SZ WZ
   go_wp2_with fail
   refine CP.out.mono ?_
   rintro r w11 ⟨a11,c11,rfl,hr11,hc11,hn11,hb11⟩
   have G11:Hid (zaZ (sigZ i d ts) w (.returned (.slice a11 (sigZ i d ts).length c11)) w11):=zwd ⟨a11,c11,rfl,hr11,hc11,hn11,Below.step B10.out hb11⟩
   clear CP hr11 hc11 hn11 hb11
   go_wp2_with fail
   go_ret
   exact⟨d,d0,DD.out,G11.out⟩
 · refine zam rfl (by rfl) (fun K1 hK1=> ?_)
   go_simp
   refine(NK.out _ (Below.refl _ _)).mono ?_
   rintro r w9 ⟨a9,n9,c9,rfl,hN9,hl9,hb9⟩
   refine hK1 _ _ hb9 ?_
   have M8:=zwd (hN9.num KN.out)
   clear hK1 K1 hN9
   refine zax (zam rfl (by rfl) (fun K1 hK1=> ?_))
   go_simp
   have A8:=zwd (zaI w9 (.cells #[.int .u32 d] 22))
   refine hK1 _ _ A8.out ?_
   have Q9:=Below.step hb9 A8.out
   have M9:=zwd (M8.out.below A8.out)
   have O9:=zwd (O8.out w9)
   have F9:=zwd (F7.out.below Q9)
   have B9:=zwd (Below.step B7.out Q9)
   have X9:=zwd (X7.out.below Q9 X7.out.lt)
   clear hK1 K1 hb9 Q9 A8 O8 NK F7 B7 X7 M8
   generalize hg9:w9.heap.size=g9 at*
   generalize w9.alloc (.cells #[.int .u32 d] 22)=w12 at*
   have CE:=zwd (zib F9.out O9.out M9.out (by omega) (by omega) (by omega))
   rw[<-SZ.out]at CE
   refine zax (zam rfl (by rfl) (fun K1 hK1=> ?_))
   go_simp
   refine CE.out.mono ?_
   rintro r w10 ⟨a10,n10,c10,rfl,hN10,hl10,hb10⟩
   refine hK1 _ _ hb10 ?_
   have N10:=zwd (hN10.num RN.out)
   have B10:=zwd (Below.step B9.out hb10)
   have X10:=zwd (X9.out.below hb10 X9.out.lt)
   have c0:=X10.out.cell 0
   simp only[List.getElem?_toArray,List.getElem?_cons_zero]at c0
   clear hK1 K1 hN10 hb10 CE F9 O9 M9 B9 X9
   repeat(refine zbQ _ rfl (by rfl) (fun W hW=>by go_simp;first|done|rfl) ?_;simp only[Act.put,zwe,zwg,zwf])
   refine zdj ?_
   have CP:=zwd (zfh a10 n10 c10 (KEY i).length rm w10 N10.out (by omega) (by omega) RS.out)
   rw[WZ.out]at CP
   clear N10 X10 RS RN SZ WZ
   go_wp2_with fail
   refine CP.out.mono ?_
   rintro r w11 ⟨a11,c11,rfl,hr11,hc11,hn11,hb11⟩
   have G11:Hid (zaZ (sigZ i d ts) w (.returned (.slice a11 (sigZ i d ts).length c11)) w11):=zwd ⟨a11,c11,rfl,hr11,hc11,hn11,Below.step B10.out hb11⟩
   clear CP hr11 hc11 hn11 hb11
   go_wp2_with fail
   go_ret
   exact⟨d,d0,DD.out,G11.out⟩
def zvl (i:Nat) (t:T) (w:World) (e:Ending) (w':World):Prop:=∃d:Int,0<=d/\ d*65537%720720=1/\
 ∃a c,e= .returned (.slice a (zao (zaL t (sigZ i d (zao t).1))).1.length c)/\ Row w' a (zao (zaL t (sigZ i d (zao t).1))).1.length (zao (zaL t (sigZ i d (zao t).1))).1/\ ((a=none->c=0)/\ (zao (zaL t (sigZ i d (zao t).1))).1.length<=c)/\ Below w.heap.size w w'
theorem zj7 (t:T) (v:Value) (i:Nat) (hi:i<8) (w:World) (hin:t.In w v) (hwt:wt t<30000) (hl:(zao t).1.length<=10000):
 Calls Tryz.prog 42 #[v,.int .i64 (i:Int)] w (zvl i t w):=by
 obtain⟨A,nb,c,K,m,d,rfl⟩:=(T.In.inP t hin).form
 have BX:=zwd (Box.start hin)
 have HL:=zwd hl
 have HW:=zwd hwt
 clear hin hl hwt
 go_enter Tryz.func42,Tryz.ntmps42
 obtain⟨g0,g1,g2⟩:=BX.out.cells
 go_wp2_with fail
 refine(zf8 t _ _ BX.out.has (by have:=HW.out;omega)).mono ?_
 rintro e w3 ⟨a3,c3,rfl,hr3,hn3,hb3⟩
 have B3:=zwd (BX.out.go hb3)
 have R3:=zwd hr3
 have N3:=zwd hn3
 clear BX hr3 hn3 hb3 g0 g1 g2
 go_wp2_with fail
 have l0:=zaf (B3.out.blk.cell 0)
 have l1:=zaf (B3.out.blk.cell 1)
 have l2:=zaf (B3.out.blk.cell 2)
 refine zaa Ext Ext.refl (fun _ _ _=>Ext.trans) ((0,false)::(1,false)::(2,false)::(3,true)::(4,true)::(5,false)::(6,false)::(7,false)::(8,false)::(9,false)::[]) (by kernel_rfl) (by kernel_rfl) rfl (by kernel_rfl) (fun _ _ _ _ _ h=>h) ?_
 repeat(refine zab _ rfl (by rfl) (fun W hW=>by go_simp;first|done|rfl) ?_;simp only[Act.put,zwe,zwg,zwf])
 clear l0 l1 l2
 have B4:=zwd (B3.out.go (Below.refl w3.heap.size w3).drew)
 have R4:=zwd (R3.out.below (Below.refl w3.heap.size w3).drew)
 clear B3 R3
 generalize w3.drew=w4 at*
 refine zad rfl (by rfl) (fun K1 hK1=> ?_)
 go_simp
 refine(ztV i hi a3 _ c3 _ w4 R4.out HL.out N3.out.1).mono ?_
 rintro e w5 ⟨d1,hd0,hd1,a5,c5,rfl,hr5,hc5,hn5,hb5⟩
 refine hK1 _ _ hb5 ?_
 have B5:=zwd (B4.out.go hb5)
 have R5:=zwd hr5
 clear hK1 K1 B4 R4 hb5 hr5
 generalize hsg:sigZ i d1 (zao t).1=sg at*
 have hl5:sg.length<=100:=by
  rw[<-hsg,zme hi]
  exact(zel hi).2
 have hw5:wt t+sg.length<39000:=by
  have:=HW.out
  omega
 have CS:=zwd (zif t _ a5 sg.length c5 sg w5 B5.out.has hw5 R5.out hn5)
 refine zad rfl (by rfl) (fun K1 hK1=> ?_)
 go_simp
 refine CS.out.mono ?_
 rintro e w6 ⟨a6,c6,rfl,hr6,hn6,hb6⟩
 refine hK1 _ _ hb6 ?_
 have B6:=zwd (B5.out.go hb6)
 have R6:=zwd hr6
 have N6:=zwd hn6
 clear hK1 K1 B5 R5 hb6 hr6 hn6 CS
 repeat(refine zab _ rfl (by rfl) (fun W hW=>by go_simp;first|done|rfl) ?_;simp only[Act.put,zwe,zwg,zwf])
 refine zai ?_
 go_wp2_with fail
 go_ret
 subst hsg
 exact⟨d1,hd0,hd1,a6,c6,rfl,R6.out,N6.out,B6.out.below⟩
def zr2 (i:Nat) (c:CrlZ) (w:World) (e:Ending) (w':World):Prop:=∃d:Int,0<=d/\ d*65537%720720=1/\
 ∃a k,e= .returned (.slice a (makeC c (sigZ i d (zao (crlT c)).1)).1.length k)/\ Row w' a (makeC c (sigZ i d (zao (crlT c)).1)).1.length (makeC c (sigZ i d (zao (crlT c)).1)).1/\ ((a=none->k=0)/\ (makeC c (sigZ i d (zao (crlT c)).1)).1.length<=k)/\ Below w.heap.size w w'
theorem zj8 (c:CrlZ) (a:Option Addr) (ca:Nat) (i:Nat) (hi:i<8) (w:World) (h:zbj w c a ca) (hs:c.iss.size<=1000000) (hn:c.ser.length<=1000000) (hl:(zao (crlT c)).1.length<=10000):
 Calls Tryz.prog 20 #[.agg (crlC c a c.ser.length ca),.int .i64 (i:Int)] w (zr2 i c w):=by
 have C1:=zwd (zbG.start h)
 clear h
 unfold crlC at C1⊢
 go_enter Tryz.func20,Tryz.ntmps20
 generalize hw1:w.alloc (.cells #[.string c.iss,.int .u32 c.num,.int .i64 c.fr,.int .i64 c.to,.slice a c.ser.length ca] 25)=w1 at*
 obtain⟨g0,g1,g2,g3,g4⟩:=C1.out.cells
 have CN:=zd2 c a ca w1 C1.out.has hs hn
 unfold crlC at CN
 by_cases hrt:zaO c
 · have F:Hid (∀sig,makeC c sig=zao (zaL (crlT c) sig)):=fun sig=>if_pos hrt
   have e:nodeC c=(crlT c,0):=if_pos hrt
   have hwt:=zqE hrt.2.2.1
   rw[e]at CN
   have CI:=zwd CN
   clear CN hrt e
   go_wp2_with fail
   refine CI.out.mono ?_
   rintro e w2 ⟨A2,n2,c2,K2,m2,d2,rfl,hin,hb⟩
   have A3:=zac w2 (.cells #[.int .i64 (crlT c).tag,.slice A2 n2 c2,.slice K2 m2 d2] 30)
   have E3:=hb.trans (A3.mono hb.size)
   have C3:=zwd (C1.out.go E3)
   have I3:=zwd (T.In.below A3 _ (T.InP.in _ hin))
   obtain⟨q0,q1,q2,_,_,_⟩:=(Blk.new w2 30 #[.int .i64 (crlT c).tag,.slice A2 n2 c2,.slice K2 m2 d2]).facts
   clear hw1 CI C1 hin hb A3 E3 g0 g1 g2 g3 g4
   go_wp2_with fail
   generalize w2.alloc (.cells #[.int .i64 (crlT c).tag,.slice A2 n2 c2,.slice K2 m2 d2] 30)=w3 at*
   generalize w2.heap.size=g5 at*
   refine(zj7 (crlT c) _ i hi w3 I3.out (by omega) hl).mono ?_
   rintro e w4 ⟨d,d0,d1,a4,c4,rfl,hr4,hn4,hb4⟩
   have B4:=zwd (C3.out.bel.trans (hb4.mono C3.out.bel.size))
   have R4:=zwd hr4
   have N4:=zwd hn4
   clear hr4 hn4 hb4 I3 q0 q1 q2
   go_wp2_with fail
   go_ret
   refine⟨d,d0,d1,?_⟩
   rw[F.out]
   exact⟨a4,c4,rfl,R4.out,N4.out,B4.out⟩
 · have F:Hid (∀sig,makeC c sig=([],1)):=fun sig=>if_neg hrt
   have e:nodeC c=(zbz,1):=if_neg hrt
   rw[e]at CN
   have CI:=zwd CN
   clear CN hrt e
   go_wp2_with fail
   refine CI.out.mono ?_
   rintro e w2 ⟨A2,n2,c2,K2,m2,d2,rfl,hin,hb⟩
   have B3:=zwd ((C1.out.bel.trans (hb.mono C1.out.bel.size)).alloc (by have:=hb.size;have:=C1.out.bel.size;omega) (.cells #[.int .i64 zbz.tag,.slice A2 n2 c2,.slice K2 m2 d2] 30))
   clear hw1 CI C1 hin hb g0 g1 g2 g3 g4
   go_wp2_with fail
   go_ret
   obtain⟨d,d0,d1⟩:∃d:Int,0<=d/\ d*65537%720720=1:=⟨554993,by decide,by decide⟩
   refine⟨d,d0,d1,none,0,?_⟩
   rw[F.out]
   exact⟨rfl,Row.nil _ _,⟨fun _=>rfl,Nat.le_refl _⟩,B3.out⟩
theorem zev (c:CrlZ) (a b:Option Addr) (ca cb:Nat) (w:World) (h:zbj w c a ca) (k:zbj w c b cb) (hn:c.ser.length<=1000000):
 Calls Tryz.prog 14 #[.agg (crlC c a c.ser.length ca),.agg (crlC c b c.ser.length cb)] w fun e w'=>e= .returned (.bool true)/\ Below w.heap.size w w':=by
 have X:=(zbG.start h).blk.alloc (.cells (crlC c b c.ser.length cb) 25)
 have Y:=Blk.new (w.alloc (.cells (crlC c a c.ser.length ca) 25)) 25 (crlC c b c.ser.length cb)
 rw[show(w.alloc (.cells (crlC c a c.ser.length ca) 25)).heap.size=w.heap.size+1 by simp]at Y
 have b2:=(zac w (.cells (crlC c a c.ser.length ca) 25)).alloc (by simp) (.cells (crlC c b c.ser.length cb) 25)
 have C1:Hid (zbG w _ w.heap.size c a ca):=zwd ⟨X,b2,h.below b2⟩
 have C2:Hid (zbG w _ (w.heap.size+1) c b cb):=zwd ⟨Y,b2,k.below b2⟩
 have ts:(c.iss.toList==c.iss.toList)=true:=by simp
 clear X Y b2 h k
 unfold crlC at C1 C2⊢
 go_enter Tryz.func14,Tryz.ntmps14
 generalize hw2:(w.alloc (.cells #[.string c.iss,.int .u32 c.num,.int .i64 c.fr,.int .i64 c.to,.slice a c.ser.length ca] 25)).alloc (.cells #[.string c.iss,.int .u32 c.num,.int .i64 c.fr,.int .i64 c.to,.slice b c.ser.length cb] 25)=w2 at*
 obtain⟨g0,g1,g2,g3,g4⟩:=C1.out.cells
 obtain⟨k0,k1,k2,k3,k4⟩:=C2.out.cells
 go_wp2_with fail
 go_loopw [5] (fun i wr=>∃k:Nat,k<=c.ser.length/\ i= .int .i64 (k:Int)/\ zbG w wr w.heap.size c a ca/\ zbG w wr (w.heap.size+1) c b cb) (fun i _=>c.ser.length-(intOf i).toNat)
 case atStart=>exact⟨0,Nat.zero_le _,rfl,C1.out,C2.out⟩
 case round=>
  obtain⟨k,hk,rfl,h1,h2⟩:=hrel
  have D1:=zwd h1
  have D2:=zwd h2
  clear h1 h2 C1 C2 g0 g1 g2 g3 g4 k0 k1 k2 k3 k4
  obtain⟨g0,g1,g2,g3,g4⟩:=D1.out.cells
  obtain⟨k0,k1,k2,k3,k4⟩:=D2.out.cells
  by_cases hlt:k<c.ser.length
  · have tI:decide ((k:Int)<(c.ser.length:Int))=true:=by simp;omega
    obtain⟨b1,o1,ha,_,hc1⟩:=D1.out.has.row.2.2 (by omega)
    obtain⟨b2,o2,hb,_,hc2⟩:=D2.out.has.row.2.2 (by omega)
    subst ha
    subst hb
    have cE:=hc1 k hlt
    have cF:=hc2 k hlt
    have kI:(k:Int)<(c.ser.length:Int):=by omega
    clear hc1 hc2
    generalize c.ser[k]?.getD 0=p at*
    go_wp2_with fail
    go_quiet (fail)
    go_wp2_with fail
    go_roundw
    case rel=>exact⟨k+1,by omega,by go_num,D1.out.go (zaE _ _),D2.out.go (zaE _ _)⟩
    case measure=>simp[intOf];omega
  · have tI:decide ((k:Int)<(c.ser.length:Int))=false:=by simp;omega
    go_wp2_with fail
    go_ret
    exact⟨rfl,D1.out.bel⟩
theorem Tryz.sizeCert (x0 x1 x2 x3 x4 x5 x6 x7 x8 x9 x10 x11 x12:Value):(Tryz.prog.info? 49).map (·.size)=some (#[x0,x1,x2,x3,x4,x5,x6,x7,x8,x9,x10,x11,x12]:Array Value).size:=by kernel_rfl
theorem zpg {w W:World} {tmps:Array Value} {fn:Func} {p:Tmp} {g:Nat} {v0 v1 v2 v3 v4 v5 v6 v7 v8 v9 v10 v11 v12 x0 x1 x2 x3 x4 x5 x6 x7 x8 x9 x10 x11 x12:Value} {R:Ending->World->Prop} (hf:fn.results=#[.cell p 49]) (hp:tmps.getD p undef= .pointer (some ⟨g,0,none⟩)) (hblk:Blk W g 49 #[v0,v1,v2,v3,v4,v5,v6,v7,v8,v9,v10,v11,v12]) (hg:w.heap.size<=g) (hb:Below w.heap.size w W)
 (hR:∀W',zak g W W'->Below w.heap.size w W'->R (.returned (.agg #[x0,x1,x2,x3,x4,x5,x6,x7,x8,x9,x10,x11,x12])) W'):
 bodyPost Tryz.prog fn R .ret {tmps:=tmps,defers:=[]} (((((((((((((W.setCell ⟨g,0,none⟩ x0).setCell ⟨g,1,none⟩ x1).setCell ⟨g,2,none⟩ x2).setCell ⟨g,3,none⟩ x3).setCell ⟨g,4,none⟩ x4).setCell ⟨g,5,none⟩ x5).setCell ⟨g,6,none⟩ x6).setCell ⟨g,7,none⟩ x7).setCell ⟨g,8,none⟩ x8).setCell ⟨g,9,none⟩ x9).setCell ⟨g,10,none⟩ x10).setCell ⟨g,11,none⟩ x11).setCell ⟨g,12,none⟩ x12):=by
 have k1:Blk (W.setCell ⟨g,0,none⟩ x0) g 49 #[x0,v1,v2,v3,v4,v5,v6,v7,v8,v9,v10,v11,v12]:=Blk.set hblk 0 x0
 have k2:Blk ((W.setCell ⟨g,0,none⟩ x0).setCell ⟨g,1,none⟩ x1) g 49 #[x0,x1,v2,v3,v4,v5,v6,v7,v8,v9,v10,v11,v12]:=Blk.set k1 1 x1
 have k3:Blk (((W.setCell ⟨g,0,none⟩ x0).setCell ⟨g,1,none⟩ x1).setCell ⟨g,2,none⟩ x2) g 49 #[x0,x1,x2,v3,v4,v5,v6,v7,v8,v9,v10,v11,v12]:=Blk.set k2 2 x2
 have k4:Blk ((((W.setCell ⟨g,0,none⟩ x0).setCell ⟨g,1,none⟩ x1).setCell ⟨g,2,none⟩ x2).setCell ⟨g,3,none⟩ x3) g 49 #[x0,x1,x2,x3,v4,v5,v6,v7,v8,v9,v10,v11,v12]:=Blk.set k3 3 x3
 have k5:Blk (((((W.setCell ⟨g,0,none⟩ x0).setCell ⟨g,1,none⟩ x1).setCell ⟨g,2,none⟩ x2).setCell ⟨g,3,none⟩ x3).setCell ⟨g,4,none⟩ x4) g 49 #[x0,x1,x2,x3,x4,v5,v6,v7,v8,v9,v10,v11,v12]:=Blk.set k4 4 x4
 have k6:Blk ((((((W.setCell ⟨g,0,none⟩ x0).setCell ⟨g,1,none⟩ x1).setCell ⟨g,2,none⟩ x2).setCell ⟨g,3,none⟩ x3).setCell ⟨g,4,none⟩ x4).setCell ⟨g,5,none⟩ x5) g 49 #[x0,x1,x2,x3,x4,x5,v6,v7,v8,v9,v10,v11,v12]:=Blk.set k5 5 x5
 have k7:Blk (((((((W.setCell ⟨g,0,none⟩ x0).setCell ⟨g,1,none⟩ x1).setCell ⟨g,2,none⟩ x2).setCell ⟨g,3,none⟩ x3).setCell ⟨g,4,none⟩ x4).setCell ⟨g,5,none⟩ x5).setCell ⟨g,6,none⟩ x6) g 49 #[x0,x1,x2,x3,x4,x5,x6,v7,v8,v9,v10,v11,v12]:=Blk.set k6 6 x6
 have k8:Blk ((((((((W.setCell ⟨g,0,none⟩ x0).setCell ⟨g,1,none⟩ x1).setCell ⟨g,2,none⟩ x2).setCell ⟨g,3,none⟩ x3).setCell ⟨g,4,none⟩ x4).setCell ⟨g,5,none⟩ x5).setCell ⟨g,6,none⟩ x6).setCell ⟨g,7,none⟩ x7) g 49 #[x0,x1,x2,x3,x4,x5,x6,x7,v8,v9,v10,v11,v12]:=Blk.set k7 7 x7
 have k9:Blk (((((((((W.setCell ⟨g,0,none⟩ x0).setCell ⟨g,1,none⟩ x1).setCell ⟨g,2,none⟩ x2).setCell ⟨g,3,none⟩ x3).setCell ⟨g,4,none⟩ x4).setCell ⟨g,5,none⟩ x5).setCell ⟨g,6,none⟩ x6).setCell ⟨g,7,none⟩ x7).setCell ⟨g,8,none⟩ x8) g 49 #[x0,x1,x2,x3,x4,x5,x6,x7,x8,v9,v10,v11,v12]:=Blk.set k8 8 x8
 have k10:Blk ((((((((((W.setCell ⟨g,0,none⟩ x0).setCell ⟨g,1,none⟩ x1).setCell ⟨g,2,none⟩ x2).setCell ⟨g,3,none⟩ x3).setCell ⟨g,4,none⟩ x4).setCell ⟨g,5,none⟩ x5).setCell ⟨g,6,none⟩ x6).setCell ⟨g,7,none⟩ x7).setCell ⟨g,8,none⟩ x8).setCell ⟨g,9,none⟩ x9) g 49 #[x0,x1,x2,x3,x4,x5,x6,x7,x8,x9,v10,v11,v12]:=Blk.set k9 9 x9
 have k11:Blk (((((((((((W.setCell ⟨g,0,none⟩ x0).setCell ⟨g,1,none⟩ x1).setCell ⟨g,2,none⟩ x2).setCell ⟨g,3,none⟩ x3).setCell ⟨g,4,none⟩ x4).setCell ⟨g,5,none⟩ x5).setCell ⟨g,6,none⟩ x6).setCell ⟨g,7,none⟩ x7).setCell ⟨g,8,none⟩ x8).setCell ⟨g,9,none⟩ x9).setCell ⟨g,10,none⟩ x10) g 49 #[x0,x1,x2,x3,x4,x5,x6,x7,x8,x9,x10,v11,v12]:=Blk.set k10 10 x10
 have k12:Blk ((((((((((((W.setCell ⟨g,0,none⟩ x0).setCell ⟨g,1,none⟩ x1).setCell ⟨g,2,none⟩ x2).setCell ⟨g,3,none⟩ x3).setCell ⟨g,4,none⟩ x4).setCell ⟨g,5,none⟩ x5).setCell ⟨g,6,none⟩ x6).setCell ⟨g,7,none⟩ x7).setCell ⟨g,8,none⟩ x8).setCell ⟨g,9,none⟩ x9).setCell ⟨g,10,none⟩ x10).setCell ⟨g,11,none⟩ x11) g 49 #[x0,x1,x2,x3,x4,x5,x6,x7,x8,x9,x10,x11,v12]:=Blk.set k11 11 x11
 have k13:Blk (((((((((((((W.setCell ⟨g,0,none⟩ x0).setCell ⟨g,1,none⟩ x1).setCell ⟨g,2,none⟩ x2).setCell ⟨g,3,none⟩ x3).setCell ⟨g,4,none⟩ x4).setCell ⟨g,5,none⟩ x5).setCell ⟨g,6,none⟩ x6).setCell ⟨g,7,none⟩ x7).setCell ⟨g,8,none⟩ x8).setCell ⟨g,9,none⟩ x9).setCell ⟨g,10,none⟩ x10).setCell ⟨g,11,none⟩ x11).setCell ⟨g,12,none⟩ x12) g 49 #[x0,x1,x2,x3,x4,x5,x6,x7,x8,x9,x10,x11,x12]:=Blk.set k12 12 x12
 have b1:Below w.heap.size w (W.setCell ⟨g,0,none⟩ x0):=Below.setCell hb (p:=⟨g,0,none⟩) hg x0
 have b2:Below w.heap.size w ((W.setCell ⟨g,0,none⟩ x0).setCell ⟨g,1,none⟩ x1):=Below.setCell b1 (p:=⟨g,1,none⟩) hg x1
 have b3:Below w.heap.size w (((W.setCell ⟨g,0,none⟩ x0).setCell ⟨g,1,none⟩ x1).setCell ⟨g,2,none⟩ x2):=Below.setCell b2 (p:=⟨g,2,none⟩) hg x2
 have b4:Below w.heap.size w ((((W.setCell ⟨g,0,none⟩ x0).setCell ⟨g,1,none⟩ x1).setCell ⟨g,2,none⟩ x2).setCell ⟨g,3,none⟩ x3):=Below.setCell b3 (p:=⟨g,3,none⟩) hg x3
 have b5:Below w.heap.size w (((((W.setCell ⟨g,0,none⟩ x0).setCell ⟨g,1,none⟩ x1).setCell ⟨g,2,none⟩ x2).setCell ⟨g,3,none⟩ x3).setCell ⟨g,4,none⟩ x4):=Below.setCell b4 (p:=⟨g,4,none⟩) hg x4
 have b6:Below w.heap.size w ((((((W.setCell ⟨g,0,none⟩ x0).setCell ⟨g,1,none⟩ x1).setCell ⟨g,2,none⟩ x2).setCell ⟨g,3,none⟩ x3).setCell ⟨g,4,none⟩ x4).setCell ⟨g,5,none⟩ x5):=Below.setCell b5 (p:=⟨g,5,none⟩) hg x5
 have b7:Below w.heap.size w (((((((W.setCell ⟨g,0,none⟩ x0).setCell ⟨g,1,none⟩ x1).setCell ⟨g,2,none⟩ x2).setCell ⟨g,3,none⟩ x3).setCell ⟨g,4,none⟩ x4).setCell ⟨g,5,none⟩ x5).setCell ⟨g,6,none⟩ x6):=Below.setCell b6 (p:=⟨g,6,none⟩) hg x6
 have b8:Below w.heap.size w ((((((((W.setCell ⟨g,0,none⟩ x0).setCell ⟨g,1,none⟩ x1).setCell ⟨g,2,none⟩ x2).setCell ⟨g,3,none⟩ x3).setCell ⟨g,4,none⟩ x4).setCell ⟨g,5,none⟩ x5).setCell ⟨g,6,none⟩ x6).setCell ⟨g,7,none⟩ x7):=Below.setCell b7 (p:=⟨g,7,none⟩) hg x7
 have b9:Below w.heap.size w (((((((((W.setCell ⟨g,0,none⟩ x0).setCell ⟨g,1,none⟩ x1).setCell ⟨g,2,none⟩ x2).setCell ⟨g,3,none⟩ x3).setCell ⟨g,4,none⟩ x4).setCell ⟨g,5,none⟩ x5).setCell ⟨g,6,none⟩ x6).setCell ⟨g,7,none⟩ x7).setCell ⟨g,8,none⟩ x8):=Below.setCell b8 (p:=⟨g,8,none⟩) hg x8
 have b10:Below w.heap.size w ((((((((((W.setCell ⟨g,0,none⟩ x0).setCell ⟨g,1,none⟩ x1).setCell ⟨g,2,none⟩ x2).setCell ⟨g,3,none⟩ x3).setCell ⟨g,4,none⟩ x4).setCell ⟨g,5,none⟩ x5).setCell ⟨g,6,none⟩ x6).setCell ⟨g,7,none⟩ x7).setCell ⟨g,8,none⟩ x8).setCell ⟨g,9,none⟩ x9):=Below.setCell b9 (p:=⟨g,9,none⟩) hg x9
 have b11:Below w.heap.size w (((((((((((W.setCell ⟨g,0,none⟩ x0).setCell ⟨g,1,none⟩ x1).setCell ⟨g,2,none⟩ x2).setCell ⟨g,3,none⟩ x3).setCell ⟨g,4,none⟩ x4).setCell ⟨g,5,none⟩ x5).setCell ⟨g,6,none⟩ x6).setCell ⟨g,7,none⟩ x7).setCell ⟨g,8,none⟩ x8).setCell ⟨g,9,none⟩ x9).setCell ⟨g,10,none⟩ x10):=Below.setCell b10 (p:=⟨g,10,none⟩) hg x10
 have b12:Below w.heap.size w ((((((((((((W.setCell ⟨g,0,none⟩ x0).setCell ⟨g,1,none⟩ x1).setCell ⟨g,2,none⟩ x2).setCell ⟨g,3,none⟩ x3).setCell ⟨g,4,none⟩ x4).setCell ⟨g,5,none⟩ x5).setCell ⟨g,6,none⟩ x6).setCell ⟨g,7,none⟩ x7).setCell ⟨g,8,none⟩ x8).setCell ⟨g,9,none⟩ x9).setCell ⟨g,10,none⟩ x10).setCell ⟨g,11,none⟩ x11):=Below.setCell b11 (p:=⟨g,11,none⟩) hg x11
 have b13:Below w.heap.size w (((((((((((((W.setCell ⟨g,0,none⟩ x0).setCell ⟨g,1,none⟩ x1).setCell ⟨g,2,none⟩ x2).setCell ⟨g,3,none⟩ x3).setCell ⟨g,4,none⟩ x4).setCell ⟨g,5,none⟩ x5).setCell ⟨g,6,none⟩ x6).setCell ⟨g,7,none⟩ x7).setCell ⟨g,8,none⟩ x8).setCell ⟨g,9,none⟩ x9).setCell ⟨g,10,none⟩ x10).setCell ⟨g,11,none⟩ x11).setCell ⟨g,12,none⟩ x12):=Below.setCell b12 (p:=⟨g,12,none⟩) hg x12
 have g1:zak g W (W.setCell ⟨g,0,none⟩ x0):=zaD W g 0 x0
 have g2:zak g W ((W.setCell ⟨g,0,none⟩ x0).setCell ⟨g,1,none⟩ x1):=zal g1 (zaD _ g 1 x1)
 have g3:zak g W (((W.setCell ⟨g,0,none⟩ x0).setCell ⟨g,1,none⟩ x1).setCell ⟨g,2,none⟩ x2):=zal g2 (zaD _ g 2 x2)
 have g4:zak g W ((((W.setCell ⟨g,0,none⟩ x0).setCell ⟨g,1,none⟩ x1).setCell ⟨g,2,none⟩ x2).setCell ⟨g,3,none⟩ x3):=zal g3 (zaD _ g 3 x3)
 have g5:zak g W (((((W.setCell ⟨g,0,none⟩ x0).setCell ⟨g,1,none⟩ x1).setCell ⟨g,2,none⟩ x2).setCell ⟨g,3,none⟩ x3).setCell ⟨g,4,none⟩ x4):=zal g4 (zaD _ g 4 x4)
 have g6:zak g W ((((((W.setCell ⟨g,0,none⟩ x0).setCell ⟨g,1,none⟩ x1).setCell ⟨g,2,none⟩ x2).setCell ⟨g,3,none⟩ x3).setCell ⟨g,4,none⟩ x4).setCell ⟨g,5,none⟩ x5):=zal g5 (zaD _ g 5 x5)
 have g7:zak g W (((((((W.setCell ⟨g,0,none⟩ x0).setCell ⟨g,1,none⟩ x1).setCell ⟨g,2,none⟩ x2).setCell ⟨g,3,none⟩ x3).setCell ⟨g,4,none⟩ x4).setCell ⟨g,5,none⟩ x5).setCell ⟨g,6,none⟩ x6):=zal g6 (zaD _ g 6 x6)
 have g8:zak g W ((((((((W.setCell ⟨g,0,none⟩ x0).setCell ⟨g,1,none⟩ x1).setCell ⟨g,2,none⟩ x2).setCell ⟨g,3,none⟩ x3).setCell ⟨g,4,none⟩ x4).setCell ⟨g,5,none⟩ x5).setCell ⟨g,6,none⟩ x6).setCell ⟨g,7,none⟩ x7):=zal g7 (zaD _ g 7 x7)
 have g9:zak g W (((((((((W.setCell ⟨g,0,none⟩ x0).setCell ⟨g,1,none⟩ x1).setCell ⟨g,2,none⟩ x2).setCell ⟨g,3,none⟩ x3).setCell ⟨g,4,none⟩ x4).setCell ⟨g,5,none⟩ x5).setCell ⟨g,6,none⟩ x6).setCell ⟨g,7,none⟩ x7).setCell ⟨g,8,none⟩ x8):=zal g8 (zaD _ g 8 x8)
 have g10:zak g W ((((((((((W.setCell ⟨g,0,none⟩ x0).setCell ⟨g,1,none⟩ x1).setCell ⟨g,2,none⟩ x2).setCell ⟨g,3,none⟩ x3).setCell ⟨g,4,none⟩ x4).setCell ⟨g,5,none⟩ x5).setCell ⟨g,6,none⟩ x6).setCell ⟨g,7,none⟩ x7).setCell ⟨g,8,none⟩ x8).setCell ⟨g,9,none⟩ x9):=zal g9 (zaD _ g 9 x9)
 have g11:zak g W (((((((((((W.setCell ⟨g,0,none⟩ x0).setCell ⟨g,1,none⟩ x1).setCell ⟨g,2,none⟩ x2).setCell ⟨g,3,none⟩ x3).setCell ⟨g,4,none⟩ x4).setCell ⟨g,5,none⟩ x5).setCell ⟨g,6,none⟩ x6).setCell ⟨g,7,none⟩ x7).setCell ⟨g,8,none⟩ x8).setCell ⟨g,9,none⟩ x9).setCell ⟨g,10,none⟩ x10):=zal g10 (zaD _ g 10 x10)
 have g12:zak g W ((((((((((((W.setCell ⟨g,0,none⟩ x0).setCell ⟨g,1,none⟩ x1).setCell ⟨g,2,none⟩ x2).setCell ⟨g,3,none⟩ x3).setCell ⟨g,4,none⟩ x4).setCell ⟨g,5,none⟩ x5).setCell ⟨g,6,none⟩ x6).setCell ⟨g,7,none⟩ x7).setCell ⟨g,8,none⟩ x8).setCell ⟨g,9,none⟩ x9).setCell ⟨g,10,none⟩ x10).setCell ⟨g,11,none⟩ x11):=zal g11 (zaD _ g 11 x11)
 have g13:zak g W (((((((((((((W.setCell ⟨g,0,none⟩ x0).setCell ⟨g,1,none⟩ x1).setCell ⟨g,2,none⟩ x2).setCell ⟨g,3,none⟩ x3).setCell ⟨g,4,none⟩ x4).setCell ⟨g,5,none⟩ x5).setCell ⟨g,6,none⟩ x6).setCell ⟨g,7,none⟩ x7).setCell ⟨g,8,none⟩ x8).setCell ⟨g,9,none⟩ x9).setCell ⟨g,10,none⟩ x10).setCell ⟨g,11,none⟩ x11).setCell ⟨g,12,none⟩ x12):=zal g12 (zaD _ g 12 x12)
 have hr:=hR _ g13 b13
 clear g1 g2 g3 g4 g5 g6 g7 g8 g9 g10 g11 g12 b1 b2 b3 b4 b5 b6 b7 b8 b9 b10 b11 b12 k1 k2 k3 k4 k5 k6 k7 k8 k9 k10 k11 k12
 generalize(((((((((((((W.setCell ⟨g,0,none⟩ x0).setCell ⟨g,1,none⟩ x1).setCell ⟨g,2,none⟩ x2).setCell ⟨g,3,none⟩ x3).setCell ⟨g,4,none⟩ x4).setCell ⟨g,5,none⟩ x5).setCell ⟨g,6,none⟩ x6).setCell ⟨g,7,none⟩ x7).setCell ⟨g,8,none⟩ x8).setCell ⟨g,9,none⟩ x9).setCell ⟨g,10,none⟩ x10).setCell ⟨g,11,none⟩ x11).setCell ⟨g,12,none⟩ x12)=W7 at*
 have h:=results_cell_row (P:=Tryz.prog) hf tmps W7 g 49 #[x0,x1,x2,x3,x4,x5,x6,x7,x8,x9,x10,x11,x12] (0,0) _ hp k13 Tryz.underlying49 rfl (Tryz.sizeCert _ _ _ _ _ _ _ _ _ _ _ _ _)
 exact bodyPost_ret h rfl hr
theorem zph:∀(j:Nat) (x:Int),(#[Value.int .u32 0,.string ⟨#[]⟩,.string ⟨#[]⟩,.int .i64 0,.int .i64 0,.slice none 0 0,.int .u32 0,.bool false,.bool false,.slice none 0 0,.slice none 0 0,.string ⟨#[]⟩,.string ⟨#[]⟩]:Array Value)[j]?≠some (.int .u8 x):=by
 intro j x h
 rcases j with _|_|_|_|_|_|_|_|_|_|_|_|_|j<;>simp at h
def issV (i:Nat) (a:Option Addr) (c:Nat):ziq:=⟨0,⟨#[]⟩,⟨#[97]⟩,0,0,a,(KEY i).length,c,65537,KEY i,false,false,none,0,0,none,0,0,⟨#[]⟩,⟨#[]⟩⟩
theorem zj9 (i:Nat) (hi:i<8) (w:World):Calls Tryz.prog 21 #[.int .i64 (i:Int)] w fun e w'=>∃a c,e= .returned (.agg (zcF (issV i a c)))/\ zeu w' (issV i a c)/\ Below w.heap.size w w':=by
 have b1:=zac w (.cells #[.int .u32 0,.string ⟨#[]⟩,.string ⟨#[]⟩,.int .i64 0,.int .i64 0,.slice none 0 0,.int .u32 0,.bool false,.bool false,.slice none 0 0,.slice none 0 0,.string ⟨#[]⟩,.string ⟨#[]⟩] 49)
 have S1:=zwd (Blk.new w 49 #[.int .u32 0,.string ⟨#[]⟩,.string ⟨#[]⟩,.int .i64 0,.int .i64 0,.slice none 0 0,.int .u32 0,.bool false,.bool false,.slice none 0 0,.slice none 0 0,.string ⟨#[]⟩,.string ⟨#[]⟩])
 have B1:=zwd b1
 have KL:=zwd (zel hi).2
 clear b1
 go_enter Tryz.func21,Tryz.ntmps21
 go_upto_region 1 with fail
 generalize w.alloc (.cells #[.int .u32 0,.string ⟨#[]⟩,.string ⟨#[]⟩,.int .i64 0,.int .i64 0,.slice none 0 0,.int .u32 0,.bool false,.bool false,.slice none 0 0,.slice none 0 0,.string ⟨#[]⟩,.string ⟨#[]⟩] 49)=w1 at*
 go_wp2_with fail
 refine(zrZ i hi w1).mono ?_
 rintro e w2 ⟨a,c,rfl,hk,hb2⟩
 have S2:=zwd (S1.out.below hb2 S1.out.lt)
 have B2:=zwd (B1.out.trans (hb2.mono B1.out.size))
 have K2:=zwd hk
 clear S1 B1 hk hb2
 have p0:w2.cell? ⟨w.heap.size,0,none⟩=some (.int .u32 0):=S2.out.cell 0
 have f0:=S2.out.free 0
 have p1:w2.cell? ⟨w.heap.size,1,none⟩=some (.string ⟨#[]⟩):=S2.out.cell 1
 have f1:=S2.out.free 1
 have p2:w2.cell? ⟨w.heap.size,2,none⟩=some (.string ⟨#[]⟩):=S2.out.cell 2
 have f2:=S2.out.free 2
 have p3:w2.cell? ⟨w.heap.size,3,none⟩=some (.int .i64 0):=S2.out.cell 3
 have f3:=S2.out.free 3
 have p4:w2.cell? ⟨w.heap.size,4,none⟩=some (.int .i64 0):=S2.out.cell 4
 have f4:=S2.out.free 4
 have p5:w2.cell? ⟨w.heap.size,5,none⟩=some (.slice none 0 0):=S2.out.cell 5
 have f5:=S2.out.free 5
 have p6:w2.cell? ⟨w.heap.size,6,none⟩=some (.int .u32 0):=S2.out.cell 6
 have f6:=S2.out.free 6
 have p7:w2.cell? ⟨w.heap.size,7,none⟩=some (.bool false):=S2.out.cell 7
 have f7:=S2.out.free 7
 have p8:w2.cell? ⟨w.heap.size,8,none⟩=some (.bool false):=S2.out.cell 8
 have f8:=S2.out.free 8
 have p9:w2.cell? ⟨w.heap.size,9,none⟩=some (.slice none 0 0):=S2.out.cell 9
 have f9:=S2.out.free 9
 have p10:w2.cell? ⟨w.heap.size,10,none⟩=some (.slice none 0 0):=S2.out.cell 10
 have f10:=S2.out.free 10
 have p11:w2.cell? ⟨w.heap.size,11,none⟩=some (.string ⟨#[]⟩):=S2.out.cell 11
 have f11:=S2.out.free 11
 have p12:w2.cell? ⟨w.heap.size,12,none⟩=some (.string ⟨#[]⟩):=S2.out.cell 12
 have f12:=S2.out.free 12
 go_wp2_with fail
 exact zpg (W:=w2) (g:=w.heap.size) rfl rfl S2.out (Nat.le_refl _) B2.out (fun W' hG h2=>⟨a,c,rfl,⟨⟨zbU K2.out.1 (zdf K2.out.1 S2.out zph) hG,K2.out.2⟩,by show(KEY i).length<=maxLen;unfold maxLen;have:=KL.out;omega,by show(0:Nat)<=maxLen;exact Nat.zero_le _,by show(1:Nat)<=maxLen;decide,Nat.zero_le _,Nat.zero_le _⟩,h2⟩)
theorem zew (w:World) (hta:Tab w):Calls Tryz.prog 6 #[] w fun e w'=>e= .returned (.bool true)/\ Below w.heap.size w w':=by
 have R1:=zbs w [3] (by simp)
 simp only[List.map_cons,List.map_nil,List.length_cons,List.length_nil]at R1
 have b1:=zac w (.cells #[.int .u32 3] 22)
 have CA:zbj (w.alloc (.cells #[.int .u32 3] 22)) zbi (some ⟨w.heap.size,0,none⟩) 1:=⟨R1,by decide,fun e=>by cases e⟩
 have CS:Hid (Calls Tryz.prog 20 #[.agg #[.string ⟨#[97]⟩,.int .u32 0,.int .i64 5,.int .i64 9,.slice (some ⟨w.heap.size,0,none⟩) 1 1],.int .i64 0] (w.alloc (.cells #[.int .u32 3] 22)) (zr2 0 zbi (w.alloc (.cells #[.int .u32 3] 22)))):=
  zj8 zbi _ 1 0 (by decide) _ CA (by decide) (by decide) zrH
 have B1:=zwd b1
 have T1:=zwd (hta.below b1)
 clear b1 R1 CA hta
 go_enter Tryz.func6,Tryz.ntmps6
 go_wp2_with fail
 generalize w.alloc (.cells #[.int .u32 3] 22)=w1 at*
 refine CS.out.mono ?_
 rintro e w2 ⟨d,d0,d1,a2,k2,rfl,hr2,hn2,hb2⟩
 obtain⟨hm,hc,hl⟩:=ztF d0 d1
 have HC:=zwd hc
 have HL:=zwd hl
 clear hc hm hl CS
 generalize makeC zbi (sigZ 0 d (zao (crlT zbi)).1)=M at*
 have B2:=zwd (B1.out.trans (hb2.mono B1.out.size))
 have T2:=zwd (T1.out.below hb2)
 have R2:=zwd hr2
 have N2:=zwd hn2
 clear B1 T1 hb2 hr2 hn2 d0 d1
 go_wp2_with fail
 have CI:Hid (Calls Tryz.prog 21 #[.int .i64 0] w2 _):=zj9 0 (by decide) w2
 refine CI.out.mono ?_
 rintro e w3 ⟨a3,c3,rfl,hx3,hb3⟩
 have B3:=zwd (B2.out.trans (hb3.mono B2.out.size))
 have T3:=zwd (T2.out.below hb3)
 have R3:=zwd (R2.out.below hb3)
 have CC:Hid (Calls Tryz.prog 18 #[.slice a2 M.1.length k2,.agg (zcF (issV 0 a3 c3)),.int .i64 7] w3 (zbk (zbi,0) w3)):=zwd (by
  have h:=zgz a2 M.1.length k2 M.1 (issV 0 a3 c3) 7 w3 R3.out N2.out.2 HL.out N2.out.1 hx3 (by show(KEY 0).length<=10000;have:=(zel (i:=0) (by decide)).2;omega) T3.out
  have e:checkC M.1 (issV 0 a3 c3).sub (issV 0 a3 c3).ns (issV 0 a3 c3).ke 7=(zbi,0):=HC.out
  rw[e]at h
  exact h)
 clear CI B2 T2 R2 hb3 hx3 N2 HC HL
 go_wp2_with fail
 refine CC.out.mono ?_
 rintro e w4 ⟨a4,c4,he,hat,hb4⟩
 replace he:e= .returned (.tuple #[.agg #[.string ⟨#[97]⟩,.int .u32 0,.int .i64 5,.int .i64 9,.slice a4 1 c4],.int .i64 0]):=he
 subst he
 have A5:=zac w4 (.cells #[.string ⟨#[97]⟩,.int .u32 0,.int .i64 5,.int .i64 9,.slice a4 1 c4] 25)
 have Y5:=zwd (Blk.new w4 25 #[.string ⟨#[97]⟩,.int .u32 0,.int .i64 5,.int .i64 9,.slice a4 1 c4])
 have B5:=zwd ((B3.out.trans (hb4.mono B3.out.size)).trans (A5.mono (Nat.le_trans B3.out.size hb4.size)))
 have C5:=hat.below A5
 obtain⟨b,off,hab,hb,hcl⟩:=C5.row.2.2 (by decide)
 subst hab
 have c0:=hcl 0 (by decide)
 have c0':(w4.alloc (.cells #[.string ⟨#[97]⟩,.int .u32 0,.int .i64 5,.int .i64 9,.slice (some ⟨b,off,none⟩) 1 c4] 25)).cell? ⟨b,off,none⟩=some (.int .u32 3):=c0
 clear CC B3 T3 R3 hat hb4 A5 C5 hcl c0 hb
 go_upto_region 3 with fail
 generalize w4.alloc (.cells #[.string ⟨#[97]⟩,.int .u32 0,.int .i64 5,.int .i64 9,.slice (some ⟨b,off,none⟩) 1 c4] 25)=w5 at*
 generalize w4.heap.size=g5 at*
 obtain⟨y0,y1,y2,y3,y4,_,_,_,_,_⟩:=Y5.out.five
 go_wp2_with fail
 go_ret
 exact⟨rfl,B5.out⟩
end Go.Proofs.YtpgahclpbdpbnaaGreatDoor
