import Derived.Test.YtpgahclpbdpbnaaGreatDoorGAB
import Derived.Test.YtpgahclpbdpbnaaGreatDoorGAJ
import Derived.Test.YtpgahclpbdpbnaaGreatDoorGAC
import Derived.Test.YtpgahclpbdpbnaaGreatDoorGAO
import Derived.Test.YtpgahclpbdpbnaaGreatDoorGAW
import Derived.ChangeKeysEq
set_option maxHeartbeats 1000000
set_option maxRecDepth 100000
namespace Go.Proofs.YtpgahclpbdpbnaaGreatDoor
open Go.RowKit
set_option linter.unusedVariables false
theorem num4 (a b c d:Int) (ha:0<=a/\ a<=255) (hb:0<=b/\ b<=255) (hc:0<=c/\ c<=255) (hd:0<=d/\ d<=255):numZ 0 [a,b,c,d]=(((a*256+b)*256+c)*256+d,true):=by
 have B:B56=72057594037927936:=rfl
 rw[numZ,if_neg (by omega),numZ,if_neg (by omega),numZ,if_neg (by omega),numZ,if_neg (by omega),numZ]
 rw[show(0:Int)*256+a=a by omega]
theorem zvd {zs:List Int} {i:Nat} (h:i+4<=zs.length):(zs.drop i).take 4=[zs[i]?.getD 0,zs[i+1]?.getD 0,zs[i+2]?.getD 0,zs[i+3]?.getD 0]:=by
 apply List.ext_getElem?
 intro j
 rw[List.getElem?_take]
 rcases j with _|_|_|_|j
 · simp[List.getElem?_eq_getElem (show i<zs.length by omega)]
 · simp[List.getElem?_eq_getElem (show i+1<zs.length by omega)]
 · simp[List.getElem?_eq_getElem (show i+2<zs.length by omega)]
 · simp[List.getElem?_eq_getElem (show i+3<zs.length by omega)]
 · simp
   omega
theorem ztL {zs:List Int} (h:∀x∈zs,0<=x/\ x<=255) (i:Nat) (hi:i+4<=zs.length):numZ 0 ((zs.drop i).take 4)=(zeY zs i,true):=by
 have g:∀k:Nat,0<=zs[k]?.getD 0/\ zs[k]?.getD 0<=255:=by
  intro k
  rcases Nat.lt_or_ge k zs.length with hk|hk
  · rw[List.getElem?_eq_getElem hk]
    exact h _ (List.getElem_mem hk)
  · rw[List.getElem?_eq_none hk]
    simp
 rw[zvd hi,num4 _ _ _ _ (g _) (g _) (g _) (g _)]
 rfl
theorem zrN {b:List Int} (h:∀x∈b,0<=x/\ x<=255) (k i:Nat):W32 ((zaR b k)[i]?.getD 0):=by
 generalize hl:zaR b k=l
 have hr:=zdL h k
 rw[hl]at hr
 rcases Nat.lt_or_ge i l.length with h|h
 · rw[List.getElem?_eq_getElem h]
   exact hr _ (List.getElem_mem h)
 · rw[List.getElem?_eq_none h]
   unfold W32
   simp
def zfg (w wr:World) (l:List Int):Prop:=Blk wr w.heap.size 180 (zbL l)/\ Below w.heap.size w wr
theorem zfg.start (w:World):zfg w (w.alloc (.cells Z64 180)) []:=⟨Blk.new w _ _,(Below.refl _ _).alloc (Nat.le_refl _) _⟩
theorem zfg.drewN {w wr:World} {l:List Int} (h:zfg w wr l) (q:Nat):zfg w (wr.drewN q) l:=⟨h.1,{h.2 with}⟩
theorem zfg.next {w wr:World} {l:List Int} (h:zfg w wr l) (x:Int) (k:Nat) (hk:k=l.length) (hl:k<64):zfg w (wr.setCell ⟨w.heap.size,k,none⟩ (.int .u32 x)) (l++[x]):=by
 subst hk
 refine⟨?_,h.2.setCell (Nat.le_refl _) _⟩
 rw[<-zix l x hl]
 exact h.1.set _ _
def zfR (g n:Nat) (a b:World):Prop:=∀i,i<n->b.cell? ⟨g,i,none⟩=a.cell? ⟨g,i,none⟩
theorem zfR.refl (g n:Nat) (w:World):zfR g n w w:=fun _ _=>rfl
theorem zfR.trans {g n:Nat} (a b c:World) (h:zfR g n a b) (k:zfR g n b c):zfR g n a c:=fun i hi=>(k i hi).trans (h i hi)
theorem zfR.set (g n k:Nat) (w:World) (v:Value) (h:n<=k):zfR g n w (w.setCell ⟨g,k,none⟩ v):=fun i hi=>World.cell?_setCell_other _ _ _ _ (fun e=>by injection e with _ e;omega)
theorem zc7 (x n:Int) (w:World) (hn:zds n.toNat) (hn0:0<=n) (h0:0<=x) (h1:x<=4294967295):Calls Tryz.prog 168 #[.int .u32 x,.int .i64 n] w fun e w'=>e= .returned (.int .u32 (rotI x n))/\ ∃q,w'=w.drewN q:=
 zps x n n.toNat w (Int.toNat_of_nonneg hn0).symm hn h0 h1
theorem zgl {v:V8} (h:v.ok):∀x∈v.list,0<=x/\ x<=4294967295:=by
 obtain⟨ha,hb,hc,hd,he,hf,hg,hh⟩:=h
 intro x hx
 simp only[V8.list,List.mem_cons,List.not_mem_nil,or_false]at hx
 rcases hx with rfl|rfl|rfl|rfl|rfl|rfl|rfl|rfl
 all_goals assumption
def zip (w wr:World) (g3:Nat) (V:Value) (s:V8) (l:List Int):Prop:=
 zaz w wr V s.list/\ zfg w wr l/\ zat wr (some ⟨g3,0,none⟩) 64 zcm/\ w.heap.size<wr.heap.size/\ ∃g cap,V= .slice (some ⟨g,0,none⟩) 8 cap/\ w.heap.size<=g
theorem zip.drewN {w wr:World} {g3:Nat} {V:Value} {s:V8} {l:List Int} (h:zip w wr g3 V s l) (q:Nat):zip w (wr.drewN q) g3 V s l:=
 ⟨h.1.drewN q,h.2.1.drewN q,h.2.2.1,h.2.2.2⟩
theorem zo4 (w wr:World) (s:V8) (hb:Below w.heap.size w wr):zaz w (wr.alloc (.cells s.cells 22)) (.slice (some ⟨wr.heap.size,0,none⟩) 8 8) s.list:=
 ⟨⟨rfl,.inr ⟨wr.heap.size,8,s.cells,rfl,hb.size,heap_alloc_new wr _,Nat.le_refl _,by unfold maxLen;omega,rfl,rfl⟩⟩,hb.alloc hb.size _⟩
theorem zip.next {w wr:World} {g3:Nat} {V:Value} {s:V8} {l:List Int} (h:zip w wr g3 V s l) (s1:V8):zip w (wr.alloc (.cells s1.cells 22)) g3 (.slice (some ⟨wr.heap.size,0,none⟩) 8 8) s1 l:=by
 have hb:=h.2.1.2
 have ba:Below wr.heap.size wr (wr.alloc (.cells s1.cells 22)):=(Below.refl _ _).alloc (Nat.le_refl _) _
 refine⟨zo4 w wr s1 hb,⟨h.2.1.1.alloc _,hb.alloc hb.size _⟩,h.2.2.1.below ba,Nat.lt_of_lt_of_le h.2.2.2.1 ba.size,wr.heap.size,8,rfl,hb.size⟩
theorem zip.facts {w wr:World} {g3 g cap:Nat} {s:V8} {l:List Int} (h:zip w wr g3 (.slice (some ⟨g,0,none⟩) 8 cap) s l) (k:Nat) (hk:k<64):
 wr.cell? ⟨g,0,none⟩=some (.int .u32 s.a)/\ wr.cell? ⟨g,1,none⟩=some (.int .u32 s.b)/\ wr.cell? ⟨g,2,none⟩=some (.int .u32 s.c)/\ wr.cell? ⟨g,3,none⟩=some (.int .u32 s.d)/\
 wr.cell? ⟨g,4,none⟩=some (.int .u32 s.e)/\ wr.cell? ⟨g,5,none⟩=some (.int .u32 s.f)/\ wr.cell? ⟨g,6,none⟩=some (.int .u32 s.g)/\ wr.cell? ⟨g,7,none⟩=some (.int .u32 s.h)/\
 wr.cell? ⟨w.heap.size,k,none⟩=some (.int .u32 (l[k]?.getD 0))/\ wr.cell? ⟨g3,k,none⟩=some (.int .u32 (zcm[k]?.getD 0)):=by
 refine⟨(h.1.cell 0 (by show 0<8;omega)).1,(h.1.cell 1 (by show 1<8;omega)).1,(h.1.cell 2 (by show 2<8;omega)).1,(h.1.cell 3 (by show 3<8;omega)).1,(h.1.cell 4 (by show 4<8;omega)).1,(h.1.cell 5 (by show 5<8;omega)).1,(h.1.cell 6 (by show 6<8;omega)).1,(h.1.cell 7 (by show 7<8;omega)).1,(h.2.1.1.cell k).trans (za5 l k hk),?_⟩
 obtain⟨_,_,hgo,_,hcc⟩:=h.2.2.1.2.2 (by omega)
 injection hgo with hgo
 injection hgo with hgo1 hgo2
 subst hgo1 hgo2
 have e:=hcc k hk
 rw[Nat.zero_add]at e
 exact e
theorem zrO (A B:List Int) (k:Nat) (hA:A.length=8) (hB:B.length=8) (hk:k<8):(A.take k++B.drop k).set k (A[k]?.getD 0)=A.take (k+1)++B.drop (k+1):=by
 have ht:(A.take k).length=k:=by rw[List.length_take];omega
 rw[List.set_append_right _ _ (by omega),ht,Nat.sub_self,List.drop_eq_getElem_cons (show k<B.length by omega),zwg,List.getElem?_eq_getElem (show k<A.length by omega),List.take_succ_eq_append_getElem (show k<A.length by omega),List.append_assoc]
 rfl
theorem zrP (A B:List Int) (k:Nat) (hA:A.length=8) (hB:B.length=8) (hk:k<8):(A.take k++B.drop k)[k]?.getD 0=B[k]?.getD 0:=by
 have ht:(A.take k).length=k:=by rw[List.length_take];omega
 rw[List.getElem?_append_right (by omega),ht,Nat.sub_self,List.getElem?_drop,Nat.add_zero]
theorem ztM (s v:V8) (k:Nat) (hk:k<8):(addV s v).list[k]?.getD 0=m32 (s.list[k]?.getD 0+v.list[k]?.getD 0):=by
 rcases k with _|_|_|_|_|_|_|_|k
 all_goals first|(exfalso;omega)|rfl
theorem zvO (A B C D:Int):IntKind.u32.wrap (IntKind.u32.wrap (IntKind.u32.wrap (A+B)+C)+D)=m32 (A+B+C+D):=by
 simp only[IntKind.wrap_u32]
 unfold m32
 omega
theorem zmz (v:V8) (hv:v.ok) (a a2:Option Addr) (ca cb:Nat) (zs:List Int) (w:World) (hs:zat w a 8 v.list) (hr:Row w a2 64 zs) (hcb:64<=cb):
 Calls Tryz.prog 119 #[.slice a 8 ca,.slice a2 64 cb] w fun e w'=>∃V,e= .returned V/\ zaz w w' V (zbC v zs).list:=by
 have HB:=zwd hr.2.1
 have LZ:=hr.1
 have RW:=zwd hr
 have RS:=zwd hs
 have OKV:=zwd hv
 obtain⟨b,off,rfl,hb,hc⟩:=hr.2.2 (by omega)
 have W0:=zwd (zfg.start w)
 clear hs hr hc hv
 go_enter Tryz.func119,Tryz.ntmps119
 go_wp2_with (refine Great.wpList_allocTo rfl (some 5) rfl (.pointer (some ⟨w.heap.size,0,none⟩)) (.cells Z64 180) rfl ?_)
 generalize w.alloc (.cells Z64 180)=w0 at*
 go_loopw [6] (fun i wr=>∃k:Nat,k<=16/\ i= .int .i64 (k:Int)/\ zfg w wr (zaR zs k)) (fun i _=>(17-intOf i).toNat)
 case atStart=>exact⟨0,by omega,rfl,W0.out⟩
 case round=>
  obtain⟨k,hk,rfl,he⟩:=hrel
  have E:=zwd he
  clear he W0
  by_cases hk2:k<16
  · have t0:decide ((k:Int)<16)=true:=by simp;omega
    have RD:=zwd (((RW.out.below E.out.2).rest (4*k) cb (by omega) hcb).first 4 (by omega))
    have h4:IntKind.i64.wrap (4*(k:Int))=((4*k:Nat):Int):=by rw[show((4*k:Nat):Int)=4*(k:Int)by omega];exact IntWalk.i64_in _ (by omega)
    have h8:IntKind.i64.wrap (((4*k:Nat):Int)+4)=((4*k+4:Nat):Int):=by rw[show((4*k+4:Nat):Int)=((4*k:Nat):Int)+4 by omega];exact IntWalk.i64_in _ (by omega)
    have hne:¬cb=4*k:=by omega
    have L:=zcf zs k
    rw[if_neg hne]at RD
    have CW:=zwd (znc _ _ (cb-4*k) _ _ RD.out (by omega))
    rw[ztL HB.out (4*k) (by omega)]at CW
    rw[Option.map_some,Addr.add_lit]at CW
    have wr32:=ziw HB.out (4*k)
    have u32:IntKind.u32.wrap (zeY zs (4*k))=zeY zs (4*k):=IntWalk.u32_in _ (by unfold W32 at wr32;omega)
    have CC:=(E.out.1.cell k).trans (za5 _ k (by omega))
    have FF:=E.out.1.free k
    have EN:Hid (zfg w (wr.setCell ⟨w.heap.size,k,none⟩ (.int .u32 (zeY zs (4*k)))) (zaR zs (k+1))):=by
     rw[zg4 _ _ hk2]
     exact zwd (E.out.next _ k L.symm (by omega))
    clear E RD L wr32
    generalize ho:4*k=o at*
    generalize zeY zs o=x at*
    have kl:k<64:=by omega
    have kI:(k:Int)<64:=by omega
    have o1:(o:Int)<=((o+4:Nat):Int):=by omega
    have o2:((o+4:Nat):Int)<=(cb:Int):=by omega
    have o3:o+4-o=4:=by omega
    go_wp2_with fail
    refine CW.out.mono ?_
    rintro e w2 ⟨rfl,hw⟩
    subst hw
    go_wp2_with fail
    go_roundw
    case rel=>exact⟨k+1,by omega,by first|rfl|go_num,EN.out⟩
    case measure=>simp only[intOf];omega
  · obtain rfl:k=16:=by omega
    clear hk2
    rw[show((16:Nat):Int)=16 by rfl]
    go_wp2_with fail
    go_loopw [9] (fun i w2=>∃k:Nat,16<=k/\ k<=64/\ i= .int .i64 (k:Int)/\ zfg w w2 (zaR zs k)) (fun i _=>(65-intOf i).toNat)
    case atStart=>exact⟨16,by omega,by omega,rfl,E.out⟩
    case round=>
     obtain⟨k,hk16,hk,rfl,he⟩:=hrel
     have E2:=zwd he
     clear he E
     by_cases hk2:k<64
     · have WN:=zwd (ziz zs k hk16)
       have L:=zcf zs k
       have r:=fun i=>zrN HB.out k i
       obtain⟨j,hj⟩:∃j,k=j+16:=⟨k-16,by omega⟩
       generalize hl1:zaR zs (k+1)=l1 at*
       have HL1:=zwd hl1
       clear hl1
       generalize zaR zs k=l at*
       subst hj
       have t0:decide ((j:Int)+16<64)=true:=by simp;omega
       have c0:=(E2.out.1.cell j).trans (za5 _ j (by omega))
       have c1:=(E2.out.1.cell (j+1)).trans (za5 _ (j+1) (by omega))
       have c9:=(E2.out.1.cell (j+9)).trans (za5 _ (j+9) (by omega))
       have c14:=(E2.out.1.cell (j+14)).trans (za5 _ (j+14) (by omega))
       have c16:=(E2.out.1.cell (j+16)).trans (za5 _ (j+16) (by omega))
       have f16:=E2.out.1.free (j+16)
       have EN:Hid (∀q,zfg w ((wr.drewN q).setCell ⟨w.heap.size,j+16,none⟩ (.int .u32 (zn9 l (j+16)))) l1):=by
        rw[WN.out]
        exact zwd (fun q=>(E2.out.drewN q).next _ (j+16) L.symm (by omega))
       have N:zn9 l (j+16)=m32 (l[j]?.getD 0+lowS (l[j+1]?.getD 0)+l[j+9]?.getD 0+zuh (l[j+14]?.getD 0)):=rfl
       rw[N]at EN
       have r0:=r j
       have r1:=r (j+1)
       have r9:=r (j+9)
       have r14:=r (j+14)
       unfold W32 at r0 r1 r9 r14
       generalize l[j]?.getD 0=x0 at*
       generalize l[j+1]?.getD 0=x1 at*
       generalize l[j+9]?.getD 0=x9 at*
       generalize l[j+14]?.getD 0=x14 at*
       generalize l[j+16]?.getD 0=x16 at*
       clear r N L WN E2
       rw[show((j+16:Nat):Int)=(j:Int)+16 by omega]
       have e15:IntKind.i64.wrap ((j:Int)+16-15)=((j+1:Nat):Int):=by rw[show(j:Int)+16-15=(j:Int)+1 by omega,Int.natCast_add];exact IntWalk.i64_in _ (by omega)
       have e2:IntKind.i64.wrap ((j:Int)+16-2)=((j+14:Nat):Int):=by rw[show(j:Int)+16-2=(j:Int)+14 by omega,Int.natCast_add];exact IntWalk.i64_in _ (by omega)
       have e16:IntKind.i64.wrap ((j:Int)+16-16)=(j:Int):=by rw[show(j:Int)+16-16=(j:Int)by omega];exact IntWalk.i64_in _ (by omega)
       have e7:IntKind.i64.wrap ((j:Int)+16-7)=((j+9:Nat):Int):=by rw[show(j:Int)+16-7=(j:Int)+9 by omega,Int.natCast_add];exact IntWalk.i64_in _ (by omega)
       go_wp2_with fail
       have wj:IntKind.i64.wrap (j:Int)=(j:Int):=IntWalk.i64_in _ (by omega)
       have w9:IntKind.i64.wrap ((j:Int)+9)=(j:Int)+9:=IntWalk.i64_in _ (by omega)
       have w16:IntKind.i64.wrap ((j:Int)+16)=(j:Int)+16:=IntWalk.i64_in _ (by omega)
       have b0:(j:Int)<64:=by omega
       have b9:(j:Int)+9<64:=by omega
       have b16:(j:Int)+16<64:=by omega
       have p9:0<=(j:Int)+9:=by omega
       have p16:0<=(j:Int)+16:=by omega
       have q9:((j:Int)+9).toNat=j+9:=by omega
       have q16:((j:Int)+16).toNat=j+16:=by omega
       have m0:∀W,zfR w.heap.size (j+16) wr.drew W->W.cell? ⟨w.heap.size,j,none⟩=some (.int .u32 x0):=fun W hW=>(hW j (by omega)).trans c0
       have m9:∀W,zfR w.heap.size (j+16) wr.drew W->W.cell? ⟨w.heap.size,j+9,none⟩=some (.int .u32 x9):=fun W hW=>(hW (j+9) (by omega)).trans c9
       refine zaa (zfR w.heap.size (j+16)) (zfR.refl _ _) zfR.trans ((0,false)::(1,false)::(2,false)::(3,false)::(4,false)::(5,false)::(7,false)::(10,false)::(11,false)::(14,false)::(15,false)::(16,false)::(17,false)::(19,false)::(21,false)::(24,false)::(25,false)::(6,true)::(8,true)::(9,false)::(12,false)::(13,false)::(18,false)::(20,true)::(22,true)::(23,false)::(26,false)::(27,false)::(28,false)::(29,true)::[]) (by kernel_rfl) (by kernel_rfl) rfl (by kernel_rfl) (fun _ _ _ _ _ h=>h) ?_
       repeat(refine zab _ rfl (by rfl) (fun W hW=>by go_simp;first|done|rfl) ?_;simp only[Act.put,zwe,zwg,zwf])
       clear m0 m9
       refine zad rfl (by rfl) (fun K1 hK1=> ?_)
       go_simp
       refine(zc7 x1 7 _ (by unfold zds;decide) (by decide) r1.1 r1.2).mono ?_
       rintro e w2 ⟨rfl,q1,hw⟩
       subst hw
       refine hK1 _ _ (fun _ _=>rfl) ?_
       clear hK1 K1
       refine zad rfl (by rfl) (fun K1 hK1=> ?_)
       go_simp
       refine(zc7 x1 18 _ (by unfold zds;decide) (by decide) r1.1 r1.2).mono ?_
       rintro e w2 ⟨rfl,q2,hw⟩
       subst hw
       refine hK1 _ _ (fun _ _=>rfl) ?_
       clear hK1 K1
       repeat(refine zab _ rfl (by rfl) (fun W hW=>by go_simp;first|done|rfl) ?_;simp only[Act.put,zwe,zwg,zwf])
       refine zad rfl (by rfl) (fun K1 hK1=> ?_)
       go_simp
       refine(zc7 x14 17 _ (by unfold zds;decide) (by decide) r14.1 r14.2).mono ?_
       rintro e w2 ⟨rfl,q3,hw⟩
       subst hw
       refine hK1 _ _ (fun _ _=>rfl) ?_
       clear hK1 K1
       refine zad rfl (by rfl) (fun K1 hK1=> ?_)
       go_simp
       refine(zc7 x14 19 _ (by unfold zds;decide) (by decide) r14.1 r14.2).mono ?_
       rintro e w2 ⟨rfl,q4,hw⟩
       subst hw
       refine hK1 _ _ (fun _ _=>rfl) ?_
       clear hK1 K1
       repeat(refine zab _ rfl (by rfl) (fun W hW=>by go_simp;first|done|rfl) ?_;simp only[Act.put,zwe,zwg,zwf])
       refine zad rfl (by rfl) (fun K1 hK1=> ?_)
       go_simp
       rw[zvO]
       refine hK1 _ _ (zfR.set _ _ _ _ _ (Nat.le_refl _)) ?_
       clear hK1 K1
       refine zai ?_
       go_wp2_with fail
       go_roundw
       case rel=>exact⟨j+16+1,by omega,by omega,by first|rfl|go_num,by rw[HL1.out];exact EN.out _⟩
       case measure=>simp only[intOf];omega
     · obtain rfl:k=64:=by omega
       have L:=zcf zs 64
       have F:Hid (zbC v zs=addV (zba v (zaR zs 64) 64) v):=zwd rfl
       have LR:=zwd (zdL HB.out 64)
       generalize zaR zs 64=l at*
       clear hk16 hk2
       rw[show((64:Nat):Int)=64 by rfl]
       go_wp2_with fail
       refine(zlM _).mono ?_
       rintro e w3 ⟨rfl,hw3⟩
       have B3:Hid (Below wr.heap.size wr w3):=by rw[hw3];exact zwd ((Below.refl _ _).alloc (Nat.le_refl _) _)
       have C3:Hid (zat w3 (some ⟨wr.heap.size,0,none⟩) 64 zcm):=by rw[hw3];exact zwd (zob wr)
       clear hw3
       have ltw:=E2.out.1.lt
       have lt3:wr.heap.size<=w3.heap.size:=B3.out.size
       have E3:Hid (zfg w w3 l):=zwd ⟨E2.out.1.below B3.out ltw,Below.step E2.out.2 B3.out⟩
       have R3:=zwd (RS.out.below E3.out.2)
       have O3:=zwd (zfW w3)
       have R4:Hid (zat (w3.alloc (.cells #[] 22)) a 8 v.list):=zwd (R3.out.below ((Below.refl _ _).alloc (Nat.le_refl _) _))
       have NI:Hid (a=none->ca=0):=zwd (fun h=>by obtain⟨_,_,e,_⟩:=RS.out.2.2 (by omega);rw[h]at e;cases e)
       have HN:Hid (([]:List Int).length+8<=1000000):=zwd (by simp)
       clear B3 E2
       generalize wr.heap.size=g3 at*
       go_wp2_with (at_builtin;go_must (refine zcJ (W0:=w3) (L:=[]) (zs:=v.list) rfl _ _ rfl rfl O3.out rfl R4.out NI.out HN.out ?_;intro V4 w4 ho4;have O4:=zwd ho4;clear ho4))
       have OV:=O4.out
       rw[List.nil_append]at OV
       obtain⟨g4,cap4,hV4,hg4⟩:=OV.form (by show 0<8;omega)
       have RA:Hid (zip w w4 g3 V4 v l):=zwd ⟨OV.wider E3.out.2,⟨E3.out.1.below OV.2 (by omega),Below.step E3.out.2 OV.2⟩,C3.out.below OV.2,Nat.lt_of_lt_of_le (by omega) OV.2.size,g4,cap4,hV4,by omega⟩
       clear OV hV4 hg4 O4 O3 R4 HN C3 E3 R3
       go_loopw [13,14] (fun V i wr=>∃k:Nat,k<=64/\ i= .int .i64 (k:Int)/\ zip w wr g3 V (zba v l k) l) (fun _ i _=>(65-intOf i).toNat)
       case atStart=>exact⟨0,by omega,rfl,RA.out⟩
       case round=>
        obtain⟨k,hk,rfl,hra⟩:=hrel
        have RB:=zwd hra
        clear hra RA
        by_cases hk2:k<64
        · have t0:decide ((k:Int)<64)=true:=by simp;omega
          have kI:(k:Int)<64:=by omega
          have kN:(0:Int)<=(k:Int):=by omega
          have RN:Hid (zba v l (k+1)=zsc (zba v l k) (zcm[k]?.getD 0) (l[k]?.getD 0)):=zwd rfl
          have RO:=zg5 OKV.out l k
          generalize hs1:zba v l (k+1)=s1 at*
          have HS1:=zwd hs1
          clear hs1
          generalize zba v l k=s at*
          obtain⟨g,cap,rfl,hgw⟩:=RB.out.2.2.2.2
          obtain⟨c0,c1,c2,c3,c4,c5,c6,c7,d0,dc⟩:=RB.out.facts k hk2
          have F2:=fun q=>(RB.out.drewN q).facts k hk2
          have RD:=zwd (fun q=>RB.out.drewN q)
          obtain⟨a1,b1,cc1,d1,e1,f1,g1,h1⟩:=s
          obtain⟨ra,rb,rc,rd,re,rf,rg,rh⟩:=RO
          unfold W32 at ra rb rc rd re rf rg rh
          simp only at ra rb rc rd re rf rg rh c0 c1 c2 c3 c4 c5 c6 c7 F2
          generalize zcm[k]?.getD 0=cc at*
          generalize l[k]?.getD 0=ww at*
          have HF:=zwd F2
          clear F2 RB
          go_wp2_with fail
          go_quiet ((go_at_call 168;exact Calls.quiet_of (zc7 _ _ _ (by unfold zds;decide) (by decide) (by omega) (by omega))))
          have R2:=zwd (RD.out nq)
          obtain⟨c0,c1,c2,c3,c4,c5,c6,c7,d0,dc⟩:=HF.out nq
          clear HF RD
          generalize wr.drewN nq=wr2 at*
          have RD:=zwd (fun q=>R2.out.drewN q)
          have HF:=zwd (fun q=>(R2.out.drewN q).facts k hk2)
          clear R2
          go_wp2_with fail
          go_quiet ((go_at_call 168;exact Calls.quiet_of (zc7 _ _ _ (by unfold zds;decide) (by decide) (by omega) (by omega))))
          have R3:=zwd (RD.out nq)
          obtain⟨c0,c1,c2,c3,c4,c5,c6,c7,d0,dc⟩:=HF.out nq
          clear HF RD
          generalize wr2.drewN nq=wr3 at*
          go_wp2_with fail
          obtain⟨p,hp⟩:∃p,p=m32 (h1+bigE e1+choose e1 f1 g1+cc+ww):=⟨_,rfl⟩
          obtain⟨q,hq⟩:∃q,q=m32 (bigA a1+most a1 b1 cc1):=⟨_,rfl⟩
          have hp':(h1+bits .xor .u32 (bits .xor .u32 (rotI e1 6) (rotI e1 11)) (rotI e1 25)+bits .or .u32 (bits .and .u32 e1 f1) (bits .and .u32 (bits .xor .u32 IntKind.u32.max e1) g1)+cc+ww)%4294967296=p:=hp.symm
          have hq':(bits .xor .u32 (bits .xor .u32 (rotI a1 2) (rotI a1 13)) (rotI a1 22)+bits .or .u32 (bits .or .u32 (bits .and .u32 a1 b1) (bits .and .u32 a1 cc1)) (bits .and .u32 b1 cc1))%4294967296=q:=hq.symm
          rw[hp',hq']
          clear hp' hq'
          have S1:Hid (s1=⟨m32 (p+q),a1,b1,cc1,m32 (d1+p),e1,f1,g1⟩):=by
           rw[RN.out,hp,hq]
           exact zwd rfl
          clear hp hq
          have wpq:IntKind.u32.wrap (p+q)=m32 (p+q):=zji _
          have wdp:IntKind.u32.wrap (d1+p)=m32 (d1+p):=zji _
          generalize m32 (p+q)=P at*
          generalize m32 (d1+p)=D at*
          have n0:=zaf c0
          have n1:=zaf c1
          have n2:=zaf c2
          have n3:=zaf c3
          have n4:=zaf c4
          have n5:=zaf c5
          have n6:=zaf c6
          refine zaa Ext Ext.refl (fun _ _ _=>Ext.trans) ((0,false)::(1,false)::(2,false)::(3,false)::(4,false)::(5,false)::(6,false)::(7,false)::(8,false)::(9,false)::(10,false)::(11,false)::(12,false)::(13,false)::(14,false)::(15,false)::(16,false)::(17,false)::(18,false)::(19,false)::(20,false)::(21,false)::(22,false)::(23,false)::(24,false)::(25,false)::(26,true)::(27,false)::[]) (by kernel_rfl) (by kernel_rfl) rfl (by kernel_rfl) (fun _ _ _ _ _ h=>h) ?_
          repeat(refine zab _ rfl (by rfl) (fun W hW=>by go_simp;first|done|rfl) ?_;simp only[Act.put,zwe,zwg,zwf])
          clear n0 n1 n2 n3 n4 n5 n6
          refine zad rfl (by rfl) (fun K1 hK1=> ?_)
          go_simp
          have EX:∀o:Obj,Ext wr3.drew (wr3.alloc o).drew:=fun o=>by
           have h:=(Below.refl wr3.heap.size wr3).alloc (Nat.le_refl _) o
           exact⟨h.os,h.tape,h.output,h.size,h.block⟩
          refine hK1 _ _ (EX _) ?_
          clear hK1 K1 EX
          repeat(refine zab _ rfl (by rfl) (fun W hW=>by go_simp;first|done|rfl) ?_;simp only[Act.put,zwe,zwg,zwf])
          refine zai ?_
          have N4:=zwd ((R3.out.next ⟨P,a1,b1,cc1,D,e1,f1,g1⟩).drewN 1)
          clear c0 c1 c2 c3 c4 c5 c6 c7 d0 dc
          go_wp2_with fail
          go_roundw
          case rel=>exact⟨k+1,by omega,by first|rfl|go_num,by rw[HS1.out,S1.out];exact N4.out⟩
          case measure=>simp only[intOf];omega
        · obtain rfl:k=64:=by omega
          have F2:Hid (zbC v zs=addV (zba v l 64) v):=F
          have OKS:=zwd (zg5 OKV.out l 64)
          generalize zba v l 64=s at*
          obtain⟨g,cap,rfl,hgw⟩:=RB.out.2.2.2.2
          have RS0:=zwd (RS.out.below RB.out.2.1.2)
          have OO:=zwd RB.out.1
          have O0:Hid (zaz w wr (.slice (some ⟨g,0,none⟩) 8 cap) ((addV s v).list.take 0++s.list.drop 0)):=zwd OO.out
          clear hk2 RB OO RS0
          rw[show((64:Nat):Int)=64 by rfl]
          obtain⟨ab,ao,hae,halt,_⟩:=RS.out.2.2 (by omega)
          subst hae
          go_wp2_with fail
          go_loopw [19] (fun i w5=>∃k:Nat,k<=8/\ i= .int .i64 (k:Int)/\ zaz w w5 (.slice (some ⟨g,0,none⟩) 8 cap) ((addV s v).list.take k++s.list.drop k)) (fun i _=>(9-intOf i).toNat)
          case atStart=>exact⟨0,by omega,rfl,O0.out⟩
          case round=>
           obtain⟨k,hk,rfl,hoo⟩:=hrel
           have OB:=zwd hoo
           clear hoo O0
           by_cases hk2:k<8
           · have t0:decide ((k:Int)<8)=true:=by simp;omega
             have hA:(addV s v).list.length=8:=rfl
             have hS:s.list.length=8:=rfl
             have hll:((addV s v).list.take k++s.list.drop k).length=8:=by simp only[List.length_append,List.length_take,List.length_drop];omega
             obtain⟨c0,f0⟩:=OB.out.cell k (by omega)
             rw[zrP _ _ _ hA hS hk2]at c0
             have AR:=RS.out.below OB.out.2
             obtain⟨_,_,hae,_,hac⟩:=AR.2.2 (by omega)
             injection hae with hae
             injection hae with hae1 hae2
             subst hae1 hae2
             have a0:=hac k hk2
             have AG:=ztM s v k hk2
             have MS:=zrO (addV s v).list s.list k hA hS hk2
             rw[AG]at MS
             have ST:=fun x=>OB.out.set hgw k x
             have r0:=zgl OKS.out (s.list[k]?.getD 0) (by rw[List.getElem?_eq_getElem (show k<s.list.length by omega)];exact List.getElem_mem _)
             have r1:=AR.num k
             generalize s.list[k]?.getD 0=x at*
             generalize v.list[k]?.getD 0=y at*
             have NX:Hid (zaz w ((wr.setCell ⟨g,k,none⟩ (.int .u32 (m32 (x+y)))).drewN 1) (.slice (some ⟨g,0,none⟩) 8 cap) ((addV s v).list.take (k+1)++s.list.drop (k+1))):=by
              rw[<-MS]
              exact zwd ((ST (m32 (x+y))).drewN 1)
             clear MS ST AG OB AR hac hll
             have kI:(k:Int)<8:=by omega
             have kN:(0:Int)<=(k:Int):=by omega
             have wxy:IntKind.u32.wrap (x+y)=m32 (x+y):=zji _
             generalize m32 (x+y)=z at*
             go_wp2_with fail
             go_region
             go_wp2_with fail
             go_roundw
             case rel=>exact⟨k+1,by omega,by first|rfl|go_num,NX.out⟩
             case measure=>simp only[intOf];omega
           · obtain rfl:k=8:=by omega
             have OE:Hid (zaz w wr (.slice (some ⟨g,0,none⟩) 8 cap) (zbC v zs).list):=by rw[F2.out];exact zwd OB.out
             clear OB
             rw[show((8:Nat):Int)=8 by rfl]
             go_wp2_with fail
             go_ret
             exact⟨_,rfl,OE.out⟩
theorem zvP:(⟨0x6a09e667,0xbb67ae85,0x3c6ef372,0xa54ff53a,0x510e527f,0x9b05688c,0x1f83d9ab,0x5be0cd19⟩:V8)=H0:=rfl
theorem zvQ (v:V8) (q:Nat) (hq:q<8):(outV v)[4*q]?.getD 0=v.list[q]?.getD 0/16777216%256/\ (outV v)[4*q+1]?.getD 0=v.list[q]?.getD 0/65536%256/\ (outV v)[4*q+2]?.getD 0=v.list[q]?.getD 0/256%256/\ (outV v)[4*q+3]?.getD 0=v.list[q]?.getD 0%256:=by
 have e:outV v=beZ 4 v.a++beZ 4 v.b++beZ 4 v.c++beZ 4 v.d++beZ 4 v.e++beZ 4 v.f++beZ 4 v.g++beZ 4 v.h:=by
  unfold outV V8.list
  simp
 rw[e,be4,be4,be4,be4,be4,be4,be4,be4]
 rcases q with _|_|_|_|_|_|_|_|q
 all_goals first|(exfalso;omega)|exact⟨rfl,rfl,rfl,rfl⟩
theorem zve (v:V8):(outV v).length=32:=by
 unfold outV V8.list
 simp[zbH]
theorem zrQ (l:List Int) (k:Nat) (hk:k<l.length):l.take (k+1)=l.take k++[l[k]?.getD 0]:=by
 rw[List.take_succ_eq_append_getElem hk,List.getElem?_eq_getElem hk]
 rfl
theorem zat.setFar {w:World} {g S n j:Nat} {zs:List Int} {v:Value} (h:zat w (some ⟨g,0,none⟩) n zs) (hne:g≠S) (hn:0<n):zat (w.setCell ⟨S,j,none⟩ v) (some ⟨g,0,none⟩) n zs:=by
 refine⟨h.1,h.2.1,fun _=> ?_⟩
 obtain⟨b,off,e,hb,hc⟩:=h.2.2 hn
 injection e with e
 injection e with e1 e2
 subst e1 e2
 refine⟨g,0,rfl,by simpa using hb,fun i hi=> ?_⟩
 rw[World.cell?_setCell_other _ _ _ _ (fun e=>by injection e with e;exact hne e.symm)]
 exact hc i hi
theorem zil.put {w wr:World} {S:Nat} {L:List Int} {k:Nat} (h:zil w wr S (L.take k)) (hL:L.length=32) (hk:k<32) (hS:w.heap.size<S):zil w (wr.setCell ⟨S,k,none⟩ (.int .u8 (L[k]?.getD 0))) S (L.take (k+1)):=by
 refine⟨h.1.far (by omega) _ _,?_,h.2.2.setCell (by show w.heap.size<=S;omega) _⟩
 have ht:(L.take k).length=k:=by rw[List.length_take];omega
 have e:=h.2.1.set k (.int .u8 (L[k]?.getD 0))
 rw[zdz _ _ _ ht.symm (by omega),<-zrQ L k (by omega)]at e
 exact e
def GoAt (w wr:World) (af:Option Addr) (cf:Nat) (fl:List Int) (V:Value) (s:V8):Prop:=
 (∃g cap,V= .slice (some ⟨g,0,none⟩) 8 cap/\ zat wr (some ⟨g,0,none⟩) 8 s.list)/\ Row wr af fl.length fl/\ Blk wr w.heap.size 100 Z32/\ Below w.heap.size w wr/\ w.heap.size<wr.heap.size
theorem znU (a:Option Addr) (n ca:Nat) (zs:List Int) (w:World) (hr:Row w a n zs) (hn:n<=100000) (hnil:a=none->ca=0):Calls Tryz.prog 69 #[.slice a n ca] w (zhL (zbV zs) w):=by
 have BR:Hid (Below w.heap.size w ((w.alloc (.cells Z32 100)).alloc (.cells H0.cells 22))):=zwd (((Below.refl _ _).alloc (Nat.le_refl _) _).alloc (by simp) _)
 have BA:Hid (Blk ((w.alloc (.cells Z32 100)).alloc (.cells H0.cells 22)) w.heap.size 100 Z32):=zwd ((Blk.new w _ _).alloc _)
 have BH:Hid (zat ((w.alloc (.cells Z32 100)).alloc (.cells H0.cells 22)) (some ⟨(w.alloc (.cells Z32 100)).heap.size,0,none⟩) 8 H0.list):=zwd (zbs (w.alloc (.cells Z32 100)) H0.list (zgl zpy))
 have hs1:(w.alloc (.cells Z32 100)).heap.size=w.heap.size+1:=by simp
 rw[hs1]at BH
 have CF:=zwd (fun W (hb:Below w.heap.size w W)=>zlN a n ca zs W (hr.below hb) hn hnil)
 have FB:=zwd (zpw hr.2.1)
 have hzn:=hr.1
 have FL:=(zmJ zs).1
 have FLB:(zdI zs).length<=200000:=by
  have:=(zmJ zs).1
  have:=zmT zs.length
  omega
 have HX:Hid (zbV zs=outV (runV ((zdI zs).length/64) H0 (zdI zs))):=zwd rfl
 clear hr hnil
 generalize hfl:zdI zs=fl at*
 clear hfl
 generalize zbV zs=hz at*
 generalize(zs.length+9+padN zs.length)/64=m at*
 have HFL:=zwd FL
 clear FL
 simp only[V8.cells,H0]at BR BA BH
 go_enter Tryz.func69,Tryz.ntmps69
 go_wp2_with (refine Great.wpList_allocTo rfl (some 2) rfl (.pointer (some ⟨w.heap.size,0,none⟩)) (.cells Z32 100) rfl ?_)
 rw[zvP]at BH
 generalize(w.alloc (.cells Z32 100)).alloc (.cells #[.int .u32 1779033703,.int .u32 3144134277,.int .u32 1013904242,.int .u32 2773480762,.int .u32 1359893119,.int .u32 2600822924,.int .u32 528734635,.int .u32 1541459225] 22)=w1 at*
 clear hs1
 refine(CF.out _ BR.out).mono ?_
 intro e w2 h2
 obtain⟨af,cf,rfl,hrf,hnf,hcf,hbf⟩:=h2.row FB.out
 have BF:=zwd hbf
 have ltR:=BA.out.lt
 have G0:Hid (GoAt w w2 af cf fl (.slice (some ⟨w.heap.size+1,0,none⟩) 8 8) (runV 0 H0 fl)):=zwd ⟨⟨_,_,rfl,BH.out.below hbf⟩,hrf,BA.out.below hbf ltR,Below.step BR.out hbf,Nat.lt_of_lt_of_le ltR hbf.size⟩
 clear h2 hrf hbf CF BR BA BH BF ltR hnf
 go_wp2_with fail
 go_loopw [3,5] (fun V i wr=>∃j:Nat,64*j<=fl.length/\ i= .int .i64 ((64*j:Nat):Int)/\ GoAt w wr af cf fl V (runV j H0 fl)) (fun _ i _=>(200001-intOf i).toNat)
 case atStart=>exact⟨0,by omega,rfl,G0.out⟩
 case round=>
  obtain⟨j,hj,rfl,hg⟩:=hrel
  have GB:=zwd hg
  clear hg G0
  have OKJ:=znz j fl zpy
  by_cases hlt:64*j<fl.length
  · have t0:decide (((64*j:Nat):Int)<(fl.length:Int))=true:=by simp;omega
    have jl:64*(j+1)<=fl.length:=by have:=HFL.out;omega
    have RL:=zwd (zhK j H0 fl)
    generalize hs1:runV (j+1) H0 fl=s1 at*
    have HS1:=zwd hs1
    clear hs1
    generalize runV j H0 fl=s at*
    obtain⟨⟨g,cap,rfl,hrow⟩,hrf,hbz,hbl,hlz⟩:=GB.out
    have HROW:=zwd hrow
    have RF:=zwd ((hrf.rest (64*j) cf (by omega) hcf).first 64 (by omega))
    obtain⟨fb,fo,rfl,hfb,_⟩:=hrf.2.2 (by omega)
    clear hrow hrf hbz hbl hlz
    generalize ho:64*j=o at*
    have hne:¬cf=o:=by omega
    rw[if_neg hne,Option.map_some,Addr.add_lit]at RF
    have e1:IntKind.i64.wrap ((o:Int)+64)=((o+64:Nat):Int):=by rw[Int.natCast_add];exact IntWalk.i64_in _ (by omega)
    have o1:(o:Int)<=((o+64:Nat):Int):=by omega
    have o2:((o+64:Nat):Int)<=(cf:Int):=by omega
    have o3:o+64-o=64:=by omega
    have o4:64<=cf-o:=by omega
    have CT:=zwd (zmz s OKJ (some ⟨g,0,none⟩) (some ⟨fb,fo+o,none⟩) cap (cf-o) ((fl.drop o).take 64) wr HROW.out RF.out o4)
    rw[<-RL.out]at CT
    clear RL
    have D0:decide ((o:Int)<(fl.length:Int))=true:=t0
    go_wp2_with fail
    refine CT.out.mono ?_
    rintro e w3 ⟨V3,rfl,ho3⟩
    obtain⟨g5,cap5,rfl,hg5⟩:=ho3.form (by show 0<8;omega)
    obtain⟨a6,c6,ha6,hr6⟩:=ho3.row (zgl (by rw[<-HS1.out];exact znz _ _ zpy))
    injection ha6 with ha6 _ hc6
    subst ha6 hc6
    have B3:=ho3.2
    have G2:Hid (GoAt w w3 (some ⟨fb,fo,none⟩) cf fl (.slice (some ⟨g5,0,none⟩) 8 cap5) s1):=by
     obtain⟨_,hrf,hbz,hbl,hlz⟩:=GB.out
     exact zwd ⟨⟨_,_,rfl,hr6⟩,hrf.below B3,hbz.below B3 hlz,Below.step hbl B3,Nat.lt_of_lt_of_le hlz B3.size⟩
    clear ho3 hr6 B3 GB HROW RF CT
    go_wp2_with fail
    go_roundw
    case rel=>exact⟨j+1,jl,by rw[show 64*(j+1)=o+64 by omega];first|rfl|go_num,by rw[HS1.out];exact G2.out⟩
    case measure=>simp only[intOf];omega
  · have je:fl.length/64=j:=by have:=HFL.out;omega
    have F:Hid (hz=outV (runV j H0 fl)):=by rw[<-je];exact HX
    have t0:decide (((64*j:Nat):Int)<(fl.length:Int))=false:=by simp;omega
    generalize runV j H0 fl=s at*
    obtain⟨⟨g,cap,rfl,hrow⟩,hrf,hbz,hbl,ltS⟩:=GB.out
    have HROW:=zwd hrow
    have HBZ:=zwd hbz
    have HBL:=zwd hbl
    clear hrow hrf hbz hbl je GB HX
    generalize ho:64*j=o at*
    clear ho
    go_wp2_with (refine Great.wpList_allocTo rfl (some 6) rfl (.pointer (some ⟨wr.heap.size,0,none⟩)) (.cells Z32 100) rfl ?_)
    have OL:=zve s
    have S0:Hid (zil w (wr.alloc (.cells Z32 100)) wr.heap.size ((outV s).take 0)):=zwd ⟨HBZ.out.alloc _,Blk.new wr _ _,HBL.out.alloc HBL.out.size _⟩
    have R0:Hid (zat (wr.alloc (.cells Z32 100)) (some ⟨g,0,none⟩) 8 s.list):=zwd (HROW.out.below ((Below.refl _ _).alloc (Nat.le_refl _) _))
    have gS:g<wr.heap.size:=by
     obtain⟨_,_,e,hb,_⟩:=HROW.out.2.2 (by omega)
     injection e with e
     injection e with e1 _
     omega
    clear HBZ HROW HBL
    generalize wr.alloc (.cells Z32 100)=w5 at*
    generalize wr.heap.size=S at*
    go_loopw [7] (fun i wr=>∃k:Nat,k<=32/\ i= .int .i64 (k:Int)/\ zil w wr S ((outV s).take k)/\ zat wr (some ⟨g,0,none⟩) 8 s.list) (fun i _=>(33-intOf i).toNat)
    case atStart=>exact⟨0,by omega,rfl,S0.out,R0.out⟩
    case round=>
     obtain⟨k,hk,rfl,hsa,hrw⟩:=hrel
     have SA:=zwd hsa
     have RW:=zwd hrw
     clear hsa hrw S0 R0
     by_cases hk2:k<32
     · have t0:decide ((k:Int)<32)=true:=by simp;omega
       have kI:(k:Int)<32:=by omega
       obtain⟨q,hq⟩:∃q,q=k/4:=⟨_,rfl⟩
       obtain⟨r,hr⟩:∃r,r=k%4:=⟨_,rfl⟩
       have hqr:k=4*q+r:=by omega
       have q8:q<8:=by omega
       have r4:r<4:=by omega
       have d1:(k:Int).tdiv 4=(q:Int):=by rw[Int.tdiv_eq_ediv_of_nonneg (by omega)];omega
       have d2:(k:Int).tmod 4=(r:Int):=by rw[Int.tmod_eq_emod_of_nonneg (by omega)];omega
       have qI:(q:Int)<8:=by omega
       obtain⟨_,_,hge,_,hgc⟩:=RW.out.2.2 (by omega)
       injection hge with hge
       injection hge with hge1 hge2
       subst hge1 hge2
       have c0:=hgc q q8
       rw[Nat.zero_add]at c0
       have xr:=RW.out.num q
       obtain⟨a0,a1,a2,a3⟩:=zvQ s q q8
       have cS:=(SA.out.2.1.cell k).trans (zc4 _ k hk2)
       have fS:=SA.out.2.1.free k
       have NX:=zwd (SA.out.put OL hk2 ltS)
       have NR:=zwd (fun v=>RW.out.setFar (j:=k) (v:=v) (Nat.ne_of_lt gS) (by omega))
       generalize s.list[q]?.getD 0=x at*
       clear hgc SA RW hq hr
       have r_is:r=0 \/r=1 \/r=2 \/r=3:=by omega
       rcases r_is with rfl|rfl|rfl|rfl
       · have EV:(outV s)[k]?.getD 0=x/16777216:=by rw[hqr];exact a0.trans (by omega)
         rw[EV]at NX
         have d2':(k:Int).tmod 4=0:=d2
         clear d2 a0 a1 a2 a3 EV hqr
         go_wp2_with fail
         go_roundw
         case rel=>exact⟨k+1,by omega,by first|rfl|go_num,NX.out,NR.out _⟩
         case measure=>simp only[intOf];omega
       · have EV:(outV s)[k]?.getD 0=x/65536%256:=by rw[hqr];exact a1
         rw[EV]at NX
         have d2':(k:Int).tmod 4=1:=d2
         clear d2 a0 a1 a2 a3 EV hqr
         go_wp2_with fail
         go_roundw
         case rel=>exact⟨k+1,by omega,by first|rfl|go_num,NX.out,NR.out _⟩
         case measure=>simp only[intOf];omega
       · have EV:(outV s)[k]?.getD 0=x/256%256:=by rw[hqr];exact a2
         rw[EV]at NX
         have d2':(k:Int).tmod 4=2:=d2
         clear d2 a0 a1 a2 a3 EV hqr
         go_wp2_with fail
         go_roundw
         case rel=>exact⟨k+1,by omega,by first|rfl|go_num,NX.out,NR.out _⟩
         case measure=>simp only[intOf];omega
       · have EV:(outV s)[k]?.getD 0=x%256:=by rw[hqr];exact a3
         rw[EV]at NX
         have d2':(k:Int).tmod 4=3:=d2
         clear d2 a0 a1 a2 a3 EV hqr
         go_wp2_with fail
         go_roundw
         case rel=>exact⟨k+1,by omega,by first|rfl|go_num,NX.out,NR.out _⟩
         case measure=>simp only[intOf];omega
     · obtain rfl:k=32:=by omega
       have E:(outV s).take 32=hz:=by rw[F.out];exact List.take_of_length_le (by omega)
       rw[E]at SA
       have L32:hz.length<=32:=by rw[F.out];omega
       have KA:=zwd SA.out.1
       have KS:=zwd SA.out.2.1
       have KW:=zwd SA.out.2.2
       clear SA RW F E
       rw[show((32:Nat):Int)=32 by rfl]
       go_wp2_with (first
        |(refine wpList_load_row rfl 100 (.tmp 6) rfl S rfl 100 (zbc hz) (0,0) (.array 32 5) KS.out Tryz.underlying100 rfl (Tryz.size24 hz L32) ?_)
        |(refine wpList_store_rowTo rfl 100 (.tmp 2) (.tmp 41) rfl rfl w.heap.size (zbc hz) rfl rfl 100 Z32 KA.out (Tryz.size24 hz L32) (by rw[zdW hz L32];rfl) (zgc hz) ?_))
       exact bodyPost_ret (results_cell_row rfl _ _ w.heap.size 100 (zbc hz) (0,0) (.array 32 5) rfl (setRow_heap _ _ _ _ 100 _ KA.out) Tryz.underlying100 rfl (Tryz.size24 hz L32)) rfl ⟨rfl,below_setRow KW.out (Nat.le_refl _) _⟩
theorem znV {w:World} {S:Nat} {hz:List Int} (h:Blk w S 100 (zbc hz)) (hl:hz.length=32) (hb:∀x∈hz,0<=x/\ x<=255):Row w (some ⟨S,0,none⟩) 32 hz:=
 ⟨hl,hb,fun _=>⟨S,0,rfl,h.lt,fun i hi=>by rw[Nat.zero_add];exact(h.cell i).trans (zc4 hz i hi)⟩⟩
def zh8 (zs:List Int) (r:Int) (w:World) (e:Ending) (w':World):Prop:=
 ∃a c,e= .returned (.tuple #[.slice a zs.length c,.int .i64 r])/\ Row w' a zs.length zs/\ zs.length<=c/\ (a=none->c=0)/\ Below w.heap.size w w'
theorem zcv {r:Int} {w w':World} (hb:Below w.heap.size w w'):zh8 [] r w (.returned (.tuple #[.slice none 0 0,.int .i64 r])) w':=⟨none,0,rfl,Row.nil _ _,Nat.le_refl _,fun _=>rfl,hb⟩
theorem zlx {zs:List Int} {w w0 w':World} {V:Value} (h:Out w0 w' V zs) (hz:∀x∈zs,0<=x/\ x<=255) (hb:Below w.heap.size w w0):zh8 zs 0 w (.returned (.tuple #[V,.int .i64 0])) w':=by
 obtain⟨a,c,rfl,hr⟩:=h.row hz
 exact⟨a,c,rfl,hr,zaJ h.1,h.nilc,Below.step hb h.2⟩
theorem zvf (w:World) (x y:Int):Out w (w.alloc (.cells #[.int .u8 x,.int .u8 y] 5)) (.slice (some ⟨w.heap.size,0,none⟩) 2 2) [x,y]:=
 ⟨⟨rfl,.inr ⟨w.heap.size,2,#[.int .u8 x,.int .u8 y],rfl,Nat.le_refl _,heap_alloc_new w _,Nat.le_refl _,by unfold maxLen;omega,rfl,rfl⟩⟩,(Below.refl _ _).alloc (Nat.le_refl _) _⟩
def frE (s:Int):Int:=if 62<=s/\ s<=512 then 0 else 1
def frB (hz:List Int) (s:Int):List Int:=if 62<=s/\ s<=512 then zbh hz s.toNat else []
theorem zh9 (hz:List Int) (k:Nat):zbh hz k=(0::1::List.replicate (k-54) 255)++([0,48,49,48,13,6,9,96,134,72,1,101,3,4,2,1,5,0,4,32]++hz):=by
 simp[zbh,HEAD]
theorem zjc (j:Nat):0::1::List.replicate (j+1) (255:Int)=(0::1::List.replicate j 255)++[255]:=by
 rw[List.replicate_succ',List.cons_append,List.cons_append]
theorem zjd (hz:List Int) (s:Int) (w:World) (hl:hz.length=32) (hb:∀x∈hz,0<=x/\ x<=255) (s0: -9223372036854775808<=s) (s1:s<=9223372036854775807):
 Calls Tryz.prog 68 #[.agg (zbc hz),.int .i64 s] w (zh8 (frB hz s) (frE s) w):=by
 have BX:=zwd (Blk.new w 100 (zbc hz))
 have BW:=zwd (zaI w (.cells (zbc hz) 100))
 have HR:=zwd (znV BX.out hl hb)
 have FB:=zwd (zcD hb)
 have FS:=zwd (zh9 hz)
 have HL:=zwd hl
 clear hl hb BX
 go_enter Tryz.func68,Tryz.ntmps68
 generalize hw2:w.alloc (.cells (zbc hz) 100)=w2 at*
 by_cases h1:s<62
 · have t1:decide (s<(62:Int))=true:=decide_eq_true h1
   have F1:Hid (frE s=1):=zwd (if_neg (by omega))
   have F2:Hid (frB hz s=[]):=zwd (if_neg (by omega))
   go_wp2_with fail
   go_ret2
   rw[F1.out,F2.out]
   exact zcv BW.out
 have t1:decide (s<(62:Int))=false:=decide_eq_false h1
 by_cases h2:512<s
 · have t2:decide ((512:Int)<s)=true:=decide_eq_true h2
   have F1:Hid (frE s=1):=zwd (if_neg (by omega))
   have F2:Hid (frB hz s=[]):=zwd (if_neg (by omega))
   go_wp2_with fail
   go_ret2
   rw[F1.out,F2.out]
   exact zcv BW.out
 have t2:decide ((512:Int)<s)=false:=decide_eq_false h2
 obtain⟨k,rfl⟩:∃k:Nat,s=(k:Int):=⟨s.toNat,by omega⟩
 have F1:Hid (frE (k:Int)=0):=zwd (if_pos (by omega))
 have F2:Hid (frB hz (k:Int)=zbh hz k):=zwd (if_pos (by omega))
 have O1:=zwd (zvf w2 0 1)
 go_wp2_with fail
 clear hw2
 go_loopw [6] (fun V wr=>∃j:Nat,j<=k-54/\ Out w2 wr V (0::1::List.replicate j 255)) (fun V _=>1000-lenS V)
 case atStart=>exact⟨0,by omega,O1.out⟩
 case round=>
  obtain⟨j,hj,ho⟩:=hrel
  have HO:=zwd ho
  have hll:(0::1::List.replicate j (255:Int)).length=j+2:=by simp
  obtain⟨a',c',rfl⟩:=ho.shape
  clear ho
  by_cases hlt:j<k-54
  · have NE:=zwd (zjc j)
    generalize 0::1::List.replicate j (255:Int)=L at*
    have t0:decide ((L.length:Int)<(k:Int)-52)=true:=decide_eq_true (by omega)
    have HBN:Hid (L.length+1<=1000000):=zwd (by omega)
    have hl1:L.length<=600:=by omega
    clear hll
    have O3:=zwd (HO.out.alloc (.cells #[.int .u8 255] 5))
    have R3:=zwd (zaY wr [255] (0,0) (by intro y hy;simp at hy;omega))
    go_wp2_with (at_builtin;go_must (refine zag (W0:=w2) (L:=L) (zs:=[255]) rfl _ _ rfl rfl O3.out rfl R3.out (fun e=>by cases e) HBN.out ?_;intro V4 w4 ho4;obtain⟨a4,c4,e4⟩:=ho4.shape;rw[List.length_append,List.length_singleton]at e4;subst e4;have O4:=zwd ho4;clear ho4))
    go_roundw
    case rel=>exact⟨j+1,by omega,by rw[NE.out];exact O4.out⟩
    case measure=>simp only[lenS];omega
  · obtain rfl:j=k-54:=by omega
    have FX:=zwd (FS.out k)
    have FY:=zwd (FB.out k)
    generalize 0::1::List.replicate (k-54) (255:Int)=L at*
    have t0:decide ((L.length:Int)<(k:Int)-52)=false:=decide_eq_false (by omega)
    have hl1:L.length<=600:=by omega
    clear hll FS FB
    have O3:=zwd (HO.out.alloc (.cells #[.int .u8 0,.int .u8 48,.int .u8 49,.int .u8 48,.int .u8 13,.int .u8 6,.int .u8 9,.int .u8 96,.int .u8 134,.int .u8 72,.int .u8 1,.int .u8 101,.int .u8 3,.int .u8 4,.int .u8 2,.int .u8 1,.int .u8 5,.int .u8 0,.int .u8 4,.int .u8 32] 5))
    have R3:=zwd (zaY wr [0,48,49,48,13,6,9,96,134,72,1,101,3,4,2,1,5,0,4,32] (0,0) (by intro y hy;simp at hy;omega))
    have HBN:Hid (L.length+20<=1000000):=zwd (by omega)
    have HBM:Hid ((L++[0,48,49,48,13,6,9,96,134,72,1,101,3,4,2,1,5,0,4,32]).length+32<=1000000):=zwd (by simp;omega)
    go_wp2_with (at_builtin;first
     |(refine zag (W0:=w2) (L:=L) (zs:=[0,48,49,48,13,6,9,96,134,72,1,101,3,4,2,1,5,0,4,32]) rfl _ _ rfl rfl O3.out rfl R3.out (fun e=>by cases e) HBN.out ?_;intro V4 w4 ho4;have O4:=zwd ho4;have R4:=zwd (HR.out.below ho4.2);clear ho4)
     |(refine zag (W0:=w2) (zs:=hz) rfl _ _ rfl rfl O4.out rfl R4.out (fun e=>by cases e) HBM.out ?_;intro V5 w5 ho5;have O5:=zwd ho5;clear ho5))
    go_ret2
    rw[F1.out,F2.out]
    refine zlx ?_ FY.out BW.out
    rw[FX.out,<-List.append_assoc]
    exact O5.out
theorem zj4 {ops:Array Oper} {rest:List Oper} {o:Oper} {a:Act} {Q:Exit->Act->World->Prop} {W0 w:World} {V:Value} {L zs:List Int} {A:Option Addr} {m c:Nat} (hgd:o.guard=none) (s x:Operand)
 (hop:o.op= .call {callee:= .builtin .append,args:=#[s,x],argTypes:=#[26,26]}) (hs:a.eval s=V) (hout:Out W0 w V L) (hx:a.eval x= .slice A m c) (hr:Row w A m zs) (hnil:A=none->c=0) (hl:L.length+m<=1000000)
 (h:∀V' w',Out W0 w' V' (L++zs)->w.grownBy w' V.ownBlock->wpList Tryz.prog ops Q rest (a.put o.dst V') w'):wpList Tryz.prog ops Q (o::rest) a w:=by
 obtain⟨i0,hi5,hz0,hz1,hz2⟩:=info_parts Tryz.infoByte
 cases A with
 |none=>
  obtain rfl:=hnil rfl
  have hm:m=0:=by
   rcases Nat.eq_zero_or_pos m with h0|h0
   · exact h0
   · obtain⟨_,_,e,_⟩:=hr.2.2 h0
     cases e
  subst hm
  obtain rfl:zs=[]:=List.eq_nil_of_length_eq_zero hr.1
  refine wpList_append_own_none hgd s x 26 hop W0.heap.size 5 i0 1 Tryz.underlying26 hi5 V L.length _ hs hout.1 hx ?_
  exact h V w (by simpa using hout) (World.grownBy.refl w _)
 |some ad=>
  refine wpList_append_own _ hgd s x 26 hop W0.heap.size 5 i0 (.int .u8 0) 1 1 Tryz.underlying26 hi5 hz0 hz1 hz2 rfl (by decide) V L.length (L.map (Value.int .u8)) hs hout.1 ad m c (zs.map (Value.int .u8)) hx (by rw[List.length_map,hr.1,Nat.mul_one]) hr.cells ?_ (by unfold maxLen;omega) (by omega) hout.2.size ?_
  · intro u hu
    obtain⟨_,_,rfl⟩:=List.mem_map.1 hu
    rfl
  · intro V' w' hown hg _
    refine h V' w' ⟨?_,hout.2.grown hg hout.2.size (fun k hk=>(hout.1.lt k hk).1)⟩ hg
    rw[List.length_append,hr.1,List.map_append]
    exact hown
theorem zly {W0 w:World} {V:Value} {L:List Int} {q:Nat} {cs:Array Value} (h:Out W0 w V L) (k:Blk w q 26 cs):V.ownBlock≠some q:=by
 intro e
 rcases h.1.2 with⟨rfl,_⟩|⟨g',cap,cur,rfl,_,hg,_⟩
 · simp[Value.ownBlock]at e
 · simp[Value.ownBlock]at e
   subst e
   unfold Blk at k
   rw[k]at hg
   injection hg with hg
   injection hg with _ ht
   cases ht
def Held (W0 w:World) (q:Nat) (L:List Int):Prop:=∃V,Out W0 w V L/\ Blk w q 26 #[V]/\ W0.heap.size<=q
theorem ztN {W0 w:World} {q:Nat} {V V':Value} {L:List Int} (h:Out W0 w V' L) (hb:Blk w q 26 #[V]) (hq:W0.heap.size<=q):Held W0 (w.setCell ⟨q,0,none⟩ V') q L:=by
 refine⟨V',⟨h.1.kept (row:=some q) ⟨rfl,rfl,rfl,by simp,fun k hk hne=>heap_setCell_other w ⟨q,0,none⟩ k V' (fun e=>hne (by simp[e]))⟩ (.inr (zly h hb)),h.2.setCell hq _⟩,?_,hq⟩
 have:=hb.set 0 V'
 simpa using this
theorem Held.alloc {W0 w:World} {q:Nat} {L:List Int} (h:Held W0 w q L) (o:Obj):Held W0 (w.alloc o) q L:=by
 obtain⟨V,h1,h2,h3⟩:=h
 exact⟨V,h1.alloc o,h2.alloc o,h3⟩
theorem Held.below {W0 w:World} {q:Nat} {L:List Int} (h:Held W0 w q L):Below W0.heap.size W0 w:=by
 obtain⟨V,h1,_⟩:=h
 exact h1.2
theorem zdg (W0 w:World) (q:Nat) (L zs:List Int) (A:Option Addr) (m c:Nat) (hh:Held W0 w q L) (hr:Row w A m zs) (hnil:A=none->c=0) (hl:L.length+m<=1000000):
 Calls Tryz.prog 109 #[.slice A m c,.pointer (some ⟨q,0,none⟩)] w fun e w'=>e= .returned (.tuple #[])/\ Held W0 w' q (L++zs):=by
 obtain⟨V,ho,hb,hq⟩:=hh
 obtain⟨a',c',rfl⟩:=ho.shape
 have HO:=zwd ho
 have HR:=zwd hr
 have HB:=zwd hb
 have HN:=zwd hnil
 have HL:=zwd hl
 have HQ:=zwd hq
 have c0:=hb.cell 0
 simp only[List.getElem?_toArray,List.getElem?_cons_zero]at c0
 clear hnil hl hr ho hb hq
 go_enter Tryz.func109,Tryz.ntmps109
 go_wp2_with (at_builtin;go_must (refine zj4 (W0:=W0) (L:=L) (zs:=zs) rfl _ _ rfl rfl HO.out rfl HR.out HN.out HL.out ?_;intro V4 w4 ho4 hg4;obtain⟨a4,c4,e4⟩:=ho4.shape;rw[List.length_append]at e4;subst e4;have B4:Hid (Blk w4 q 26 _):=zwd ((hg4.block _ HB.out.lt (zly HO.out HB.out).symm).trans HB.out);have d0:=B4.out.cell 0;have f0:=B4.out.free 0;simp only[List.getElem?_toArray,List.getElem?_cons_zero]at d0;have O4:=zwd ho4;clear ho4 hg4 c0))
 go_end0
 exact⟨rfl,ztN O4.out B4.out HQ.out⟩
def H19:Array Value:=(HEAD.map (Value.int .u8)).toArray
def Z19:Array Value:=(List.replicate 19 (Value.int .u8 0)).toArray
theorem Tryz.size19:(Tryz.prog.info? 136).map (·.size)=some H19.size:=by kernel_rfl
theorem zwc:H19.all (·.oneCell')=true:=all_oneCell_toArray (znA _)
theorem ztO {w:World} {g:Nat} (h:Blk w g 136 H19):Row w (some ⟨g,0,none⟩) 19 HEAD:=by
 refine⟨rfl,by intro x hx;simp[HEAD]at hx;omega,fun _=>⟨g,0,rfl,h.lt,fun i hi=> ?_⟩⟩
 rw[Nat.zero_add,h.cell i]
 unfold H19
 have hi':i<HEAD.length:=hi
 rw[List.getElem?_toArray,List.getElem?_map,List.getElem?_eq_getElem hi']
 rfl
theorem zrR (hz:List Int) (s:Int) (w:World) (hl:hz.length=32) (hb:∀x∈hz,0<=x/\ x<=255) (s0: -9223372036854775808<=s) (s1:s<=9223372036854775807):
 Calls Tryz.prog 65 #[.agg (zbc hz),.int .i64 s] w (zh8 (frB hz s) (frE s) w):=by
 have BX:=zwd (Blk.new w 100 (zbc hz))
 have BW:=zwd (zaI w (.cells (zbc hz) 100))
 have HR:=zwd (znV BX.out hl hb)
 have FB:=zwd (zcD hb)
 have FS:=zwd (zh9 hz)
 have HL:=zwd hl
 clear hl hb BX
 go_enter Tryz.func65,Tryz.ntmps65
 generalize hw2:w.alloc (.cells (zbc hz) 100)=w2 at*
 have CS:=zwd (zlw s w2 s0 s1)
 by_cases h1:62<=s/\ s<=512
 · obtain⟨k,rfl⟩:∃k:Nat,s=(k:Int):=⟨s.toNat,by omega⟩
   have F1:Hid (frE (k:Int)=0):=zwd (if_pos h1)
   have F2:Hid (frB hz (k:Int)=zbh hz k):=zwd (if_pos h1)
   have t1:(decide ((62:Int)<=(k:Int))&&decide ((k:Int)<=512))=true:=by simp;omega
   rw[t1]at CS
   clear t1
   go_wp2_with fail
   refine CS.out.mono ?_
   rintro r w3 ⟨rfl,rfl⟩
   clear CS hw2
   have MK:=zwd (zfU k (by omega))
   have S3:=zwd (Blk.new w3 136 Z19)
   have S4:Hid (Blk ((w3.alloc (.cells Z19 136)).setRow w3.heap.size H19) w3.heap.size 136 H19):=zwd (setRow_heap _ _ _ _ _ _ S3.out)
   have B4:Hid (Below w3.heap.size w3 ((w3.alloc (.cells Z19 136)).setRow w3.heap.size H19)):=zwd (below_setRow (zaI w3 (.cells Z19 136)) (Nat.le_refl _) _)
   go_wp2_with (first
    |(refine wpList_buildTo rfl 136 #[(0,.const (.int .u8 48)),(1,.const (.int .u8 49)),(2,.const (.int .u8 48)),(3,.const (.int .u8 13)),(4,.const (.int .u8 6)),(5,.const (.int .u8 9)),(6,.const (.int .u8 96)),(7,.const (.int .u8 134)),(8,.const (.int .u8 72)),(9,.const (.int .u8 1)),(10,.const (.int .u8 101)),(11,.const (.int .u8 3)),(12,.const (.int .u8 4)),(13,.const (.int .u8 2)),(14,.const (.int .u8 1)),(15,.const (.int .u8 5)),(16,.const (.int .u8 0)),(17,.const (.int .u8 4)),(18,.const (.int .u8 32))] rfl (some 12) rfl H19 (by kernel_rfl) ?_)
    |(refine Great.wpList_allocTo rfl (some 6) rfl (.pointer (some ⟨w3.heap.size,0,none⟩)) (.cells Z19 136) rfl ?_)
    |(refine wpList_store_rowTo rfl 136 (.tmp 6) (.tmp 12) rfl rfl w3.heap.size H19 rfl rfl 136 Z19 S3.out Tryz.size19 rfl zwc ?_))
   generalize(w3.alloc (.cells Z19 136)).setRow w3.heap.size H19=w4 at*
   have HD:=zwd (ztO S4.out)
   have H4:=zwd (HR.out.below B4.out)
   have B5:=zwd (Below.step BW.out B4.out)
   generalize w3.heap.size=g6 at*
   clear S3 S4 B4 HR BW
   have mk:=MK.out
   have O5:=zwd (Out.made (W0:=w4) k (by omega))
   have D5:=zwd (zaI w4 (.cells (madeCells #[.int .u8 0] k) 5))
   clear MK
   simp only[mk,Result.andThen_ok]
   clear mk
   generalize hw5:w4.alloc (.cells (madeCells #[.int .u8 0] k) 5)=w5 at*
   go_wp2_with fail
   clear hw5
   have H6:Hid (Held w4 ((w5.alloc (.cells #[.slice (some ⟨w4.heap.size,0,none⟩) 0 k] 26)).alloc (.cells #[.int .u8 0,.int .u8 1] 5)) w5.heap.size []):=
    zwd (Held.alloc ⟨_,O5.out.alloc _,Blk.new _ _ _,D5.out.size⟩ _)
   have R6:Hid (Row ((w5.alloc (.cells #[.slice (some ⟨w4.heap.size,0,none⟩) 0 k] 26)).alloc (.cells #[.int .u8 0,.int .u8 1] 5)) (some ⟨w5.heap.size+1,0,none⟩) 2 [0,1]):=by
    have:=zaY (w5.alloc (.cells #[.slice (some ⟨w4.heap.size,0,none⟩) 0 k] 26)) [0,1] (0,0) (by intro y hy;simp at hy;omega)
    rw[show(w5.alloc (.cells #[.slice (some ⟨w4.heap.size,0,none⟩) 0 k] 26)).heap.size=w5.heap.size+1 by simp]at this
    exact zwd this
   clear O5 D5
   generalize w5.heap.size=q at*
   refine(zdg w4 _ q [] [0,1] _ 2 2 H6.out R6.out (fun e=>by cases e) (by simp)).mono ?_
   rintro r w6 ⟨rfl,h7⟩
   rw[List.nil_append]at h7
   have H7:=zwd h7
   clear h7 H6 R6
   go_wp2_with fail
   go_loopg [] (k-54) (fun gk wr=>∃j:Nat,gk+j=k-54/\ Held w4 wr q (0::1::List.replicate j 255))
   case atStart=>exact⟨0,by omega,H7.out⟩
   case round=>
    obtain⟨j,hj,V,ho,hb,hqq⟩:=hrel
    have HH:Hid (Held w4 wr q (0::1::List.replicate j 255)):=zwd ⟨V,ho,hb,hqq⟩
    have hll:(0::1::List.replicate j (255:Int)).length=j+2:=by simp
    obtain⟨a',c',rfl⟩:=ho.shape
    have c0:=hb.cell 0
    simp only[List.getElem?_toArray,List.getElem?_cons_zero]at c0
    clear ho hb
    have NE:=zwd (zjc j)
    have FX:=zwd (FS.out k)
    have FY:=zwd (FB.out k)
    have JK:Hid (j=k-54->0::1::List.replicate (k-54) (255:Int)=0::1::List.replicate j 255):=zwd (fun e=>by rw[e])
    generalize 0::1::List.replicate (k-54) (255:Int)=L2 at*
    generalize 0::1::List.replicate j (255:Int)=L at*
    by_cases hlt:j<k-54
    · have t0:decide ((L.length:Int)+1+19+32<(k:Int))=true:=decide_eq_true (by omega)
      have hl1:L.length<=600:=by omega
      clear hll
      go_wp2_with fail
      refine(zdg w4 _ q L [255] _ 1 1 (HH.out.alloc _) (zaY wr [255] (0,0) (by intro y hy;simp at hy;omega)) (fun e=>by cases e) (by omega)).mono ?_
      rintro r w8 ⟨rfl,h8⟩
      have H8:=zwd h8
      clear h8 HH c0
      go_wp2_with fail
      go_roundg (gk-1)
      case measure=>omega
      case rel=>exact⟨j+1,by omega,by rw[NE.out];exact H8.out⟩
    · have t0:decide ((L.length:Int)+1+19+32<(k:Int))=false:=decide_eq_false (by omega)
      have hl1:L.length<=600:=by omega
      clear hll
      obtain rfl:L2=L:=JK.out (by omega)
      go_wp2_with fail
      refine(zdg w4 _ q L2 [0] _ 1 1 (HH.out.alloc _) (zaY wr [0] (0,0) (by intro y hy;simp at hy;omega)) (fun e=>by cases e) (by omega)).mono ?_
      rintro r w8 ⟨rfl,h8⟩
      have H8:=zwd h8
      have R8:=zwd (HD.out.below h8.below)
      clear h8 HH c0
      go_wp2_with fail
      refine(zdg w4 w8 q (L2++[0]) HEAD (some ⟨g6,0,none⟩) 19 19 H8.out R8.out (fun e=>by cases e) (by simp;omega)).mono ?_
      rintro r w9 ⟨rfl,h9⟩
      have H9:=zwd h9
      have R9:=zwd (H4.out.below h9.below)
      clear h9 H8 R8
      go_wp2_with fail
      refine(zdg w4 w9 q (L2++[0]++HEAD) hz (some ⟨w.heap.size,0,none⟩) 32 32 H9.out R9.out (fun e=>by cases e) (by simp[HEAD];omega)).mono ?_
      rintro r w10 ⟨rfl,V1,ho1,hb1,_⟩
      have HX:Hid (zbh hz k=L2++[0]++HEAD++hz):=by
       rw[FX.out]
       simp[HEAD,Hid]
      rw[<-HX.out]at ho1
      obtain⟨a1,d1,rfl⟩:=ho1.shape
      have O1:=zwd ho1
      have c1:=hb1.cell 0
      simp only[List.getElem?_toArray,List.getElem?_cons_zero]at c1
      clear ho1 hb1 H9 R9 HX FX
      generalize zbh hz k=F at*
      go_wp2_with fail
      go_ret2
      rw[F1.out,F2.out]
      exact zlx O1.out FY.out B5.out
 · have t1:(decide ((62:Int)<=s)&&decide (s<=512))=false:=by
    simp only[Bool.and_eq_false_iff,decide_eq_false_iff_not]
    omega
   rw[t1]at CS
   have F1:Hid (frE s=1):=zwd (if_neg h1)
   have F2:Hid (frB hz s=[]):=zwd (if_neg h1)
   go_wp2_with fail
   refine CS.out.mono ?_
   rintro r w3 ⟨rfl,rfl⟩
   go_wp2_with fail
   go_ret2
   rw[F1.out,F2.out]
   exact zcv BW.out
end Go.Proofs.YtpgahclpbdpbnaaGreatDoor
