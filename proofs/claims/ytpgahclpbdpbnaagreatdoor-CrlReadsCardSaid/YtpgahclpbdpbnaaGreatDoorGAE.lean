import Derived.Test.YtpgahclpbdpbnaaGreatDoorGAD
import Derived.Laws.IdiomStrings
import Derived.Test.YtpgahclpbdpbnaaGreatDoorGAC
set_option maxHeartbeats 8000000
set_option maxRecDepth 100000
namespace Go.Proofs.YtpgahclpbdpbnaaGreatDoor.Clk
open Go.RowKit
def pk (l:List Int) (at_ wd:Nat):Option Int:=nz 0 ((l.drop at_).take wd)
def zcR (l:List Int) (o:Nat):Option D6:=
 (pk l 0 o).bind fun y=>(pk l o 2).bind fun m=>(pk l (o+2) 2).bind fun d=>(pk l (o+4) 2).bind fun h=>(pk l (o+6) 2).bind fun i=>(pk l (o+8) 2).bind fun s=>some ⟨y,m,d,h,i,s⟩
def readD (l:List Int) (long:Bool):Option D6:=
 if l.length=(if long=true then 15 else 13)/\ l[(if long=true then 14 else 12)]?.getD 0=90 then
  (zcR l (if long=true then 4 else 2)).map fun a=>if long=true then a else {a with y:=zdp a.y}
 else none
def readV (r:Option D6):Int:=match r with|none=>0|some a=>secsR a
def readB (r:Option D6):Bool:=match r with|none=>false|some a=>okB a
def zaZ (w:World) (r:Option D6) (e:Ending) (w':World):Prop:=e= .returned (.tuple #[.int .i64 (readV r),.bool (readB r)])/\ Below w.heap.size w w'
theorem bytes_of (t:ByteArray) (w:World):∃cap W1,(convert 9 26 (.string t)).run Tryz.prog w= .ok (.slice (some ⟨w.heap.size,0,none⟩) t.size cap) W1/\ Row W1 (some ⟨w.heap.size,0,none⟩) t.size (zae t)/\ Below w.heap.size w W1/\ t.size<=cap:=by
 refine⟨_,_,run_bytes_of_string w 9 26 5 t Tryz.underlying9 Tryz.underlying26 Tryz.underlying5,⟨zaK t,zke t,fun _=>⟨w.heap.size,0,rfl,by simp,fun i hi=> ?_⟩⟩,(({Below.refl w.heap.size w with}:Below w.heap.size w w.drew)).alloc (Nat.le_refl _) _,grownCap_ge w t.size 0 5⟩
 generalize hc:grownCap w t.size 0 5=c
 have e:=heap_alloc_new w.drew (.cells (bytesRow t c) 5 ((bytesRow t c).size,(bytesRow t c).size+1))
 have hd:i<t.data.size:=hi
 have q:(w.drew.alloc (.cells (bytesRow t c) 5 ((bytesRow t c).size,(bytesRow t c).size+1))).cell? ⟨w.heap.size,0+i,none⟩=(bytesRow t c)[i]?:=by
  simp only[World.cell?]
  rw[show w.heap.size=w.drew.heap.size from rfl,e,Nat.zero_add]
  rfl
 rw[q,bytesRow_at t c i hd]
 unfold zae
 rw[List.getElem?_map,List.getElem?_eq_getElem (by simpa using hd)]
 rfl
theorem _root_.Go.Proofs.YtpgahclpbdpbnaaGreatDoor.Row.piece {w:World} {g n:Nat} {zs:List Int} (h:Row w (some ⟨g,0,none⟩) n zs) (off wd:Nat) (hw:off+wd<=n):Row w (some ⟨g,off,none⟩) wd ((zs.drop off).take wd):=by
 have hl:=h.1
 refine⟨by rw[List.length_take,List.length_drop];omega,fun x hx=>h.2.1 x (List.mem_of_mem_drop (List.mem_of_mem_take hx)),fun h0=> ?_⟩
 obtain⟨b,o,e,hb,hc⟩:=h.2.2 (by omega)
 injection e with e
 injection e with e1 e2
 subst e1 e2
 exact⟨g,off,rfl,hb,fun i hi=>by rw[show off+i=0+(off+i)by omega,hc (off+i) (by omega),List.getElem?_take,if_pos hi,List.getElem?_drop]⟩
theorem _root_.Go.Proofs.YtpgahclpbdpbnaaGreatDoor.Row.farK {w:World} {g n:Nat} {zs:List Int} (h:Row w (some ⟨g,0,none⟩) n zs) {b:Nat} (hne:g≠b) (j:Nat) (v:Value):Row (w.setCell ⟨b,j,none⟩ v) (some ⟨g,0,none⟩) n zs:=by
 refine⟨h.1,h.2.1,fun h0=> ?_⟩
 obtain⟨b',o,e,hb,hc⟩:=h.2.2 h0
 injection e with e
 injection e with e1 e2
 subst e1 e2
 exact⟨g,0,rfl,by simpa using hb,fun i hi=>by rw[World.cell?_setCell_other w _ _ _ (fun e=>hne (by injection e with e1;exact e1.symm))];exact hc i hi⟩
def Pref (l:List Int) (o k:Nat) (a:D6):Prop:=(0<k->pk l 0 o=some a.y)/\ (1<k->pk l o 2=some a.m)/\ (2<k->pk l (o+2) 2=some a.d)/\ (3<k->pk l (o+4) 2=some a.h)/\ (4<k->pk l (o+6) 2=some a.i)/\ (5<k->pk l (o+8) 2=some a.s)
def St (w wr:World) (g n:Nat) (l:List Int) (o k:Nat) (a:D6):Prop:=Blk wr w.heap.size 147 a.cells/\ Row wr (some ⟨g,0,none⟩) n l/\ Below w.heap.size w wr/\ Pref l o k a
theorem za9 {l:List Int} {o:Nat} (h:pk l 0 o=none \/pk l o 2=none \/pk l (o+2) 2=none \/pk l (o+4) 2=none \/pk l (o+6) 2=none \/pk l (o+8) 2=none):zcR l o=none:=by
 unfold zcR
 cases h0:pk l 0 o with
 |none=>rfl
 |some y=>
   cases h1:pk l o 2 with
   |none=>rfl
   |some m=>
     cases h2:pk l (o+2) 2 with
     |none=>rfl
     |some d=>
       cases h3:pk l (o+4) 2 with
       |none=>rfl
       |some hh=>
         cases h4:pk l (o+6) 2 with
         |none=>rfl
         |some i=>
           cases h5:pk l (o+8) 2 with
           |none=>rfl
           |some s=>simp[h0,h1,h2,h3,h4,h5]at h
theorem zeG {l:List Int} {o:Nat} {a:D6} (h:Pref l o 6 a):zcR l o=some a:=by
 obtain⟨h0,h1,h2,h3,h4,h5⟩:=h
 unfold zcR
 rw[h0 (by omega),h1 (by omega),h2 (by omega),h3 (by omega),h4 (by omega),h5 (by omega)]
 rfl
theorem zbE {w wr:World} {g n o k:Nat} {l:List Int} {a:D6} (h:St w wr g n l o k a) (off wd:Nat) (hw:off+wd<=n) (h4:wd<=4):Calls Tryz.prog 216 #[.slice (some ⟨g,off,none⟩) wd wd] wr (zt4 wr (pk l off wd)):=
 zf1 _ _ _ _ _ (h.2.1.piece off wd hw) h4
theorem zaZ.bad {w wr:World} {r:Option D6} (hr:r=none) (hb:Below w.heap.size w wr):zaZ w r (.returned (.tuple #[.int .i64 0,.bool false])) wr:=by
 subst hr
 exact⟨rfl,hb⟩
theorem zol (t:ByteArray) (w:World) (h1:t.size=13) (h2:nth t 12=90):Calls Tryz.prog 190 #[.string t,.bool false] w (zaZ w (readD (zae t) false)):=by
 have NL:=zwd (zaK t)
 have hi:=zd3 t 12 (by omega) 12 rfl
 rw[h2]at hi
 have HD:Hid (readD (zae t) false=(zcR (zae t) 2).map fun a=> {a with y:=zdp a.y}):=by
  unfold Hid readD
  rw[if_pos ⟨by rw[NL.out,h1];rfl,h2⟩]
  rfl
 have h1':(t.size:Int)=13:=by omega
 obtain⟨i0,i1,i2,i3,i4,i5⟩:=zeE (.int .i64 2) (.int .i64 2) (.int .i64 2) (.int .i64 2) (.int .i64 2) (.int .i64 2)
 have K0:=zwd (Blk.new w 147 (d6c 0 0 0 0 0 0))
 have B0:=zwd ((Below.refl w.heap.size w).alloc (Nat.le_refl _) (.cells (d6c 0 0 0 0 0 0) 147))
 obtain⟨cap,W1,hrun,hrow,hb1,hcap⟩:=bytes_of t (w.alloc (.cells (d6c 0 0 0 0 0 0) 147))
 rw[show(w.alloc (.cells (d6c 0 0 0 0 0 0) 147)).heap.size=w.heap.size+1 by simp,h1]at hrun hrow
 have K1:Hid (Blk W1 w.heap.size 147 (d6c 0 0 0 0 0 0)):=zwd (K0.out.below hb1 (by simp))
 have B1:=zwd (Below.step B0.out hb1)
 have R1:=zwd hrow
 rw[h1]at hcap
 clear hrow hb1 K0 B0 h1 h2
 simp only[d6c]at hrun
 go_enter Tryz.func190,Tryz.ntmps190
 go_wp2_with fail
 refine(zf0 false _).mono ?_
 rintro e w2 ⟨rfl,hb2⟩
 have HZ:Hid (St w w2 (w.heap.size+1) 13 (zae t) 2 0 ze5):=zwd ⟨K1.out.below hb2 K1.out.lt,R1.out.below hb2,Below.step B1.out hb2,by unfold Pref;simp⟩
 clear hb2 K1 R1 B1 hrun
 rw[if_neg (by simp)]
 simp only[d6c]
 go_wp2
 go_loopw [8,29] (fun V x wr=>∃k:Nat,k<=6/\ x= .int .i64 (k:Int)/\ (∃off c:Nat,off=(if k=0 then 0 else 2+2*(k-1))/\ c+off=cap/\ V= .slice (some ⟨w.heap.size+1,off,none⟩) (13-off) c)/\ ∃a,St w wr (w.heap.size+1) 13 (zae t) 2 k a) (fun _ x _=>6-(intOf x).toNat)
 case atStart=>exact⟨0,by omega,rfl,⟨0,cap,rfl,rfl,rfl⟩,_,HZ.out⟩
 case round=>
  obtain⟨k,hk,rfl,⟨off,c,hoff,hc,rfl⟩,a,hst⟩:=hrel
  have HS:=zwd hst
  clear hst HZ
  have ht0:=h1'
  rcases k with _|_|_|_|_|_|_|k
  · obtain rfl:off=0:=by simpa using hoff
    have hc':13<=c:=by omega
    clear hoff
    have HC:=zwd hc
    clear hc
    have C:=zwd (zbE HS.out 0 2 (by omega) (by omega))
    have fk:=HS.out.1.free 0
    have ck:wr.cell? ⟨w.heap.size,0,none⟩=some (.int .i64 a.y):=HS.out.1.cell 0
    cases hv:pk (zae t) 0 2 with
    |none=>
      rw[hv]at C
      have DN:Hid (readD (zae t) false=none):=zwd (by rw[HD.out,za9 (.inl hv)];rfl)
      clear hv
      go_wp2_with fail
      refine C.out.mono ?_
      rintro e w5 ⟨rfl,rfl⟩
      simp only[Option.getD_none,Option.isSome_none]
      go_wp2
      go_ret2
      exact zaZ.bad DN.out HS.out.2.2.1
    |some v=>
      rw[hv]at C
      have HN:Hid (St w (wr.setCell ⟨w.heap.size,0,none⟩ (.int .i64 v)) (w.heap.size+1) 13 (zae t) 2 1 ⟨v,a.m,a.d,a.h,a.i,a.s⟩):=by
       refine⟨HS.out.1.set 0 _,HS.out.2.1.farK (by omega) _ _,HS.out.2.2.1.setCell (Nat.le_refl _) _,?_⟩
       have hp:=HS.out.2.2.2
       unfold Pref at hp⊢
       obtain⟨p0,p1,p2,p3,p4,p5⟩:=hp
       refine⟨fun _=> ?_,fun _=> ?_,fun _=> ?_,fun _=> ?_,fun _=> ?_,fun _=> ?_⟩
       all_goals first|exact hv|exact p0 (by omega)|exact p1 (by omega)|exact p2 (by omega)|exact p3 (by omega)|exact p4 (by omega)|exact p5 (by omega)|omega
      clear hv HS
      go_wp2_with fail
      refine C.out.mono ?_
      rintro e w5 ⟨rfl,rfl⟩
      simp only[Option.getD_some,Option.isSome_some]
      clear C
      go_wp2
      go_roundw
      case rel=>exact⟨1,by omega,by go_num,⟨2,c-2,rfl,by have:=HC.out;omega,by first|rfl|(congr 1;omega)⟩,_,HN.out⟩
      case measure=>simp[intOf]
  · obtain rfl:off=2:=by simpa using hoff
    have hc':11<=c:=by omega
    clear hoff
    have HC:=zwd hc
    clear hc
    have C:=zwd (zbE HS.out 2 2 (by omega) (by omega))
    have fk:=HS.out.1.free 1
    have ck:wr.cell? ⟨w.heap.size,1,none⟩=some (.int .i64 a.m):=HS.out.1.cell 1
    cases hv:pk (zae t) 2 2 with
    |none=>
      rw[hv]at C
      have DN:Hid (readD (zae t) false=none):=zwd (by rw[HD.out,za9 (.inr (.inl hv))];rfl)
      clear hv
      go_wp2_with fail
      refine C.out.mono ?_
      rintro e w5 ⟨rfl,rfl⟩
      simp only[Option.getD_none,Option.isSome_none]
      go_wp2
      go_ret2
      exact zaZ.bad DN.out HS.out.2.2.1
    |some v=>
      rw[hv]at C
      have HN:Hid (St w (wr.setCell ⟨w.heap.size,1,none⟩ (.int .i64 v)) (w.heap.size+1) 13 (zae t) 2 2 ⟨a.y,v,a.d,a.h,a.i,a.s⟩):=by
       refine⟨HS.out.1.set 1 _,HS.out.2.1.farK (by omega) _ _,HS.out.2.2.1.setCell (Nat.le_refl _) _,?_⟩
       have hp:=HS.out.2.2.2
       unfold Pref at hp⊢
       obtain⟨p0,p1,p2,p3,p4,p5⟩:=hp
       refine⟨fun _=> ?_,fun _=> ?_,fun _=> ?_,fun _=> ?_,fun _=> ?_,fun _=> ?_⟩
       all_goals first|exact hv|exact p0 (by omega)|exact p1 (by omega)|exact p2 (by omega)|exact p3 (by omega)|exact p4 (by omega)|exact p5 (by omega)|omega
      clear hv HS
      go_wp2_with fail
      refine C.out.mono ?_
      rintro e w5 ⟨rfl,rfl⟩
      simp only[Option.getD_some,Option.isSome_some]
      clear C
      go_wp2
      go_roundw
      case rel=>exact⟨2,by omega,by go_num,⟨4,c-2,rfl,by have:=HC.out;omega,by first|rfl|(congr 1;omega)⟩,_,HN.out⟩
      case measure=>simp[intOf]
  · obtain rfl:off=4:=by simpa using hoff
    have hc':9<=c:=by omega
    clear hoff
    have HC:=zwd hc
    clear hc
    have C:=zwd (zbE HS.out 4 2 (by omega) (by omega))
    have fk:=HS.out.1.free 2
    have ck:wr.cell? ⟨w.heap.size,2,none⟩=some (.int .i64 a.d):=HS.out.1.cell 2
    cases hv:pk (zae t) 4 2 with
    |none=>
      rw[hv]at C
      have DN:Hid (readD (zae t) false=none):=zwd (by rw[HD.out,za9 (.inr (.inr (.inl hv)))];rfl)
      clear hv
      go_wp2_with fail
      refine C.out.mono ?_
      rintro e w5 ⟨rfl,rfl⟩
      simp only[Option.getD_none,Option.isSome_none]
      go_wp2
      go_ret2
      exact zaZ.bad DN.out HS.out.2.2.1
    |some v=>
      rw[hv]at C
      have HN:Hid (St w (wr.setCell ⟨w.heap.size,2,none⟩ (.int .i64 v)) (w.heap.size+1) 13 (zae t) 2 3 ⟨a.y,a.m,v,a.h,a.i,a.s⟩):=by
       refine⟨HS.out.1.set 2 _,HS.out.2.1.farK (by omega) _ _,HS.out.2.2.1.setCell (Nat.le_refl _) _,?_⟩
       have hp:=HS.out.2.2.2
       unfold Pref at hp⊢
       obtain⟨p0,p1,p2,p3,p4,p5⟩:=hp
       refine⟨fun _=> ?_,fun _=> ?_,fun _=> ?_,fun _=> ?_,fun _=> ?_,fun _=> ?_⟩
       all_goals first|exact hv|exact p0 (by omega)|exact p1 (by omega)|exact p2 (by omega)|exact p3 (by omega)|exact p4 (by omega)|exact p5 (by omega)|omega
      clear hv HS
      go_wp2_with fail
      refine C.out.mono ?_
      rintro e w5 ⟨rfl,rfl⟩
      simp only[Option.getD_some,Option.isSome_some]
      clear C
      go_wp2
      go_roundw
      case rel=>exact⟨3,by omega,by go_num,⟨6,c-2,rfl,by have:=HC.out;omega,by first|rfl|(congr 1;omega)⟩,_,HN.out⟩
      case measure=>simp[intOf]
  · obtain rfl:off=6:=by simpa using hoff
    have hc':7<=c:=by omega
    clear hoff
    have HC:=zwd hc
    clear hc
    have C:=zwd (zbE HS.out 6 2 (by omega) (by omega))
    have fk:=HS.out.1.free 3
    have ck:wr.cell? ⟨w.heap.size,3,none⟩=some (.int .i64 a.h):=HS.out.1.cell 3
    cases hv:pk (zae t) 6 2 with
    |none=>
      rw[hv]at C
      have DN:Hid (readD (zae t) false=none):=zwd (by rw[HD.out,za9 (.inr (.inr (.inr (.inl hv))))];rfl)
      clear hv
      go_wp2_with fail
      refine C.out.mono ?_
      rintro e w5 ⟨rfl,rfl⟩
      simp only[Option.getD_none,Option.isSome_none]
      go_wp2
      go_ret2
      exact zaZ.bad DN.out HS.out.2.2.1
    |some v=>
      rw[hv]at C
      have HN:Hid (St w (wr.setCell ⟨w.heap.size,3,none⟩ (.int .i64 v)) (w.heap.size+1) 13 (zae t) 2 4 ⟨a.y,a.m,a.d,v,a.i,a.s⟩):=by
       refine⟨HS.out.1.set 3 _,HS.out.2.1.farK (by omega) _ _,HS.out.2.2.1.setCell (Nat.le_refl _) _,?_⟩
       have hp:=HS.out.2.2.2
       unfold Pref at hp⊢
       obtain⟨p0,p1,p2,p3,p4,p5⟩:=hp
       refine⟨fun _=> ?_,fun _=> ?_,fun _=> ?_,fun _=> ?_,fun _=> ?_,fun _=> ?_⟩
       all_goals first|exact hv|exact p0 (by omega)|exact p1 (by omega)|exact p2 (by omega)|exact p3 (by omega)|exact p4 (by omega)|exact p5 (by omega)|omega
      clear hv HS
      go_wp2_with fail
      refine C.out.mono ?_
      rintro e w5 ⟨rfl,rfl⟩
      simp only[Option.getD_some,Option.isSome_some]
      clear C
      go_wp2
      go_roundw
      case rel=>exact⟨4,by omega,by go_num,⟨8,c-2,rfl,by have:=HC.out;omega,by first|rfl|(congr 1;omega)⟩,_,HN.out⟩
      case measure=>simp[intOf]
  · obtain rfl:off=8:=by simpa using hoff
    have hc':5<=c:=by omega
    clear hoff
    have HC:=zwd hc
    clear hc
    have C:=zwd (zbE HS.out 8 2 (by omega) (by omega))
    have fk:=HS.out.1.free 4
    have ck:wr.cell? ⟨w.heap.size,4,none⟩=some (.int .i64 a.i):=HS.out.1.cell 4
    cases hv:pk (zae t) 8 2 with
    |none=>
      rw[hv]at C
      have DN:Hid (readD (zae t) false=none):=zwd (by rw[HD.out,za9 (.inr (.inr (.inr (.inr (.inl hv)))))];rfl)
      clear hv
      go_wp2_with fail
      refine C.out.mono ?_
      rintro e w5 ⟨rfl,rfl⟩
      simp only[Option.getD_none,Option.isSome_none]
      go_wp2
      go_ret2
      exact zaZ.bad DN.out HS.out.2.2.1
    |some v=>
      rw[hv]at C
      have HN:Hid (St w (wr.setCell ⟨w.heap.size,4,none⟩ (.int .i64 v)) (w.heap.size+1) 13 (zae t) 2 5 ⟨a.y,a.m,a.d,a.h,v,a.s⟩):=by
       refine⟨HS.out.1.set 4 _,HS.out.2.1.farK (by omega) _ _,HS.out.2.2.1.setCell (Nat.le_refl _) _,?_⟩
       have hp:=HS.out.2.2.2
       unfold Pref at hp⊢
       obtain⟨p0,p1,p2,p3,p4,p5⟩:=hp
       refine⟨fun _=> ?_,fun _=> ?_,fun _=> ?_,fun _=> ?_,fun _=> ?_,fun _=> ?_⟩
       all_goals first|exact hv|exact p0 (by omega)|exact p1 (by omega)|exact p2 (by omega)|exact p3 (by omega)|exact p4 (by omega)|exact p5 (by omega)|omega
      clear hv HS
      go_wp2_with fail
      refine C.out.mono ?_
      rintro e w5 ⟨rfl,rfl⟩
      simp only[Option.getD_some,Option.isSome_some]
      clear C
      go_wp2
      go_roundw
      case rel=>exact⟨5,by omega,by go_num,⟨10,c-2,rfl,by have:=HC.out;omega,by first|rfl|(congr 1;omega)⟩,_,HN.out⟩
      case measure=>simp[intOf]
  · obtain rfl:off=10:=by simpa using hoff
    have hc':3<=c:=by omega
    clear hoff
    have HC:=zwd hc
    clear hc
    have C:=zwd (zbE HS.out 10 2 (by omega) (by omega))
    have fk:=HS.out.1.free 5
    have ck:wr.cell? ⟨w.heap.size,5,none⟩=some (.int .i64 a.s):=HS.out.1.cell 5
    cases hv:pk (zae t) 10 2 with
    |none=>
      rw[hv]at C
      have DN:Hid (readD (zae t) false=none):=zwd (by rw[HD.out,za9 (.inr (.inr (.inr (.inr (.inr (hv))))))];rfl)
      clear hv
      go_wp2_with fail
      refine C.out.mono ?_
      rintro e w5 ⟨rfl,rfl⟩
      simp only[Option.getD_none,Option.isSome_none]
      go_wp2
      go_ret2
      exact zaZ.bad DN.out HS.out.2.2.1
    |some v=>
      rw[hv]at C
      have HN:Hid (St w (wr.setCell ⟨w.heap.size,5,none⟩ (.int .i64 v)) (w.heap.size+1) 13 (zae t) 2 6 ⟨a.y,a.m,a.d,a.h,a.i,v⟩):=by
       refine⟨HS.out.1.set 5 _,HS.out.2.1.farK (by omega) _ _,HS.out.2.2.1.setCell (Nat.le_refl _) _,?_⟩
       have hp:=HS.out.2.2.2
       unfold Pref at hp⊢
       obtain⟨p0,p1,p2,p3,p4,p5⟩:=hp
       refine⟨fun _=> ?_,fun _=> ?_,fun _=> ?_,fun _=> ?_,fun _=> ?_,fun _=> ?_⟩
       all_goals first|exact hv|exact p0 (by omega)|exact p1 (by omega)|exact p2 (by omega)|exact p3 (by omega)|exact p4 (by omega)|exact p5 (by omega)|omega
      clear hv HS
      go_wp2_with fail
      refine C.out.mono ?_
      rintro e w5 ⟨rfl,rfl⟩
      simp only[Option.getD_some,Option.isSome_some]
      clear C
      go_wp2
      go_roundw
      case rel=>exact⟨6,by omega,by go_num,⟨12,c-2,rfl,by have:=HC.out;omega,by first|rfl|(congr 1;omega)⟩,_,HN.out⟩
      case measure=>simp[intOf]
  · clear hoff hc
    have DS:=zwd (zeG HS.out.2.2.2)
    have yr:=zkC _ 0 a.y (by omega) (HS.out.2.2.2.1 (by omega))
    have yl:(((zae t).drop 0).take 2).length=2:=by rw[List.drop_zero,List.length_take,NL.out];omega
    rw[yl]at yr
    have y0:0<=a.y:=yr.1
    have y1:a.y<=10000:=by omega
    clear yr yl
    have RD:Hid (readD (zae t) false=some ⟨zdp a.y,a.m,a.d,a.h,a.i,a.s⟩):=zwd (by rw[HD.out,DS.out];rfl)
    have c0:wr.cell? ⟨w.heap.size,0,none⟩=some (.int .i64 a.y):=HS.out.1.cell 0
    have f0:=HS.out.1.free 0
    have L1:Hid (Blk (wr.setCell ⟨w.heap.size,0,none⟩ (.int .i64 (zdp a.y))) w.heap.size 147 (d6c (zdp a.y) a.m a.d a.h a.i a.s)):=HS.out.1.set 0 _
    have LB:=zwd (HS.out.2.2.1.setCell (p:=⟨w.heap.size,0,none⟩) (Nat.le_refl _) (.int .i64 (zdp a.y)))
    clear HS DS
    go_wp2_with fail
    refine(zsR a.y _ y0 (by omega)).mono ?_
    rintro e w5 ⟨rfl,hw5⟩
    subst hw5
    go_wp2_with (refine wpList_load_row rfl 147 (.tmp 7) rfl w.heap.size rfl 147 (d6c (zdp a.y) a.m a.d a.h a.i a.s) (0,0) (.array 6 3) L1.out Tryz.underlying147 rfl (Tryz.size22 ..) ?_)
    refine(zm7 (zdp a.y) a.m a.d a.h a.i a.s _).mono ?_
    rintro e w6 ⟨rfl,hb6⟩
    have B6:=zwd (Below.step LB.out hb6)
    clear hb6
    go_wp2
    go_ret2
    exact⟨by rw[RD.out];rfl,B6.out⟩
  · omega
theorem zqh (t:ByteArray) (w:World) (h1:t.size=15) (h2:nth t 14=90):Calls Tryz.prog 190 #[.string t,.bool true] w (zaZ w (readD (zae t) true)):=by
 have NL:=zwd (zaK t)
 have hi:=zd3 t 14 (by omega) 14 rfl
 rw[h2]at hi
 have HD:Hid (readD (zae t) true=(zcR (zae t) 4).map fun a=>a):=by
  unfold Hid readD
  rw[if_pos ⟨by rw[NL.out,h1];rfl,h2⟩]
  rfl
 have h1':(t.size:Int)=15:=by omega
 obtain⟨i0,i1,i2,i3,i4,i5⟩:=zeE (.int .i64 4) (.int .i64 2) (.int .i64 2) (.int .i64 2) (.int .i64 2) (.int .i64 2)
 have K0:=zwd (Blk.new w 147 (d6c 0 0 0 0 0 0))
 have B0:=zwd ((Below.refl w.heap.size w).alloc (Nat.le_refl _) (.cells (d6c 0 0 0 0 0 0) 147))
 obtain⟨cap,W1,hrun,hrow,hb1,hcap⟩:=bytes_of t (w.alloc (.cells (d6c 0 0 0 0 0 0) 147))
 rw[show(w.alloc (.cells (d6c 0 0 0 0 0 0) 147)).heap.size=w.heap.size+1 by simp,h1]at hrun hrow
 have K1:Hid (Blk W1 w.heap.size 147 (d6c 0 0 0 0 0 0)):=zwd (K0.out.below hb1 (by simp))
 have B1:=zwd (Below.step B0.out hb1)
 have R1:=zwd hrow
 rw[h1]at hcap
 clear hrow hb1 K0 B0 h1 h2
 simp only[d6c]at hrun
 go_enter Tryz.func190,Tryz.ntmps190
 go_wp2_with fail
 refine(zf0 true _).mono ?_
 rintro e w2 ⟨rfl,hb2⟩
 have HZ:Hid (St w w2 (w.heap.size+1) 15 (zae t) 4 0 ze5):=zwd ⟨K1.out.below hb2 K1.out.lt,R1.out.below hb2,Below.step B1.out hb2,by unfold Pref;simp⟩
 clear hb2 K1 R1 B1 hrun
 rw[if_pos rfl]
 simp only[d6c]
 go_wp2
 go_loopw [8,29] (fun V x wr=>∃k:Nat,k<=6/\ x= .int .i64 (k:Int)/\ (∃off c:Nat,off=(if k=0 then 0 else 4+2*(k-1))/\ c+off=cap/\ V= .slice (some ⟨w.heap.size+1,off,none⟩) (15-off) c)/\ ∃a,St w wr (w.heap.size+1) 15 (zae t) 4 k a) (fun _ x _=>6-(intOf x).toNat)
 case atStart=>exact⟨0,by omega,rfl,⟨0,cap,rfl,rfl,rfl⟩,_,HZ.out⟩
 case round=>
  obtain⟨k,hk,rfl,⟨off,c,hoff,hc,rfl⟩,a,hst⟩:=hrel
  have HS:=zwd hst
  clear hst HZ
  have ht0:=h1'
  rcases k with _|_|_|_|_|_|_|k
  · obtain rfl:off=0:=by simpa using hoff
    have hc':15<=c:=by omega
    clear hoff
    have HC:=zwd hc
    clear hc
    have C:=zwd (zbE HS.out 0 4 (by omega) (by omega))
    have fk:=HS.out.1.free 0
    have ck:wr.cell? ⟨w.heap.size,0,none⟩=some (.int .i64 a.y):=HS.out.1.cell 0
    cases hv:pk (zae t) 0 4 with
    |none=>
      rw[hv]at C
      have DN:Hid (readD (zae t) true=none):=zwd (by rw[HD.out,za9 (.inl hv)];rfl)
      clear hv
      go_wp2_with fail
      refine C.out.mono ?_
      rintro e w5 ⟨rfl,rfl⟩
      simp only[Option.getD_none,Option.isSome_none]
      go_wp2
      go_ret2
      exact zaZ.bad DN.out HS.out.2.2.1
    |some v=>
      rw[hv]at C
      have HN:Hid (St w (wr.setCell ⟨w.heap.size,0,none⟩ (.int .i64 v)) (w.heap.size+1) 15 (zae t) 4 1 ⟨v,a.m,a.d,a.h,a.i,a.s⟩):=by
       refine⟨HS.out.1.set 0 _,HS.out.2.1.farK (by omega) _ _,HS.out.2.2.1.setCell (Nat.le_refl _) _,?_⟩
       have hp:=HS.out.2.2.2
       unfold Pref at hp⊢
       obtain⟨p0,p1,p2,p3,p4,p5⟩:=hp
       refine⟨fun _=> ?_,fun _=> ?_,fun _=> ?_,fun _=> ?_,fun _=> ?_,fun _=> ?_⟩
       all_goals first|exact hv|exact p0 (by omega)|exact p1 (by omega)|exact p2 (by omega)|exact p3 (by omega)|exact p4 (by omega)|exact p5 (by omega)|omega
      clear hv HS
      go_wp2_with fail
      refine C.out.mono ?_
      rintro e w5 ⟨rfl,rfl⟩
      simp only[Option.getD_some,Option.isSome_some]
      clear C
      go_wp2
      go_roundw
      case rel=>exact⟨1,by omega,by go_num,⟨4,c-4,rfl,by have:=HC.out;omega,by first|rfl|(congr 1;omega)⟩,_,HN.out⟩
      case measure=>simp[intOf]
  · obtain rfl:off=4:=by simpa using hoff
    have hc':11<=c:=by omega
    clear hoff
    have HC:=zwd hc
    clear hc
    have C:=zwd (zbE HS.out 4 2 (by omega) (by omega))
    have fk:=HS.out.1.free 1
    have ck:wr.cell? ⟨w.heap.size,1,none⟩=some (.int .i64 a.m):=HS.out.1.cell 1
    cases hv:pk (zae t) 4 2 with
    |none=>
      rw[hv]at C
      have DN:Hid (readD (zae t) true=none):=zwd (by rw[HD.out,za9 (.inr (.inl hv))];rfl)
      clear hv
      go_wp2_with fail
      refine C.out.mono ?_
      rintro e w5 ⟨rfl,rfl⟩
      simp only[Option.getD_none,Option.isSome_none]
      go_wp2
      go_ret2
      exact zaZ.bad DN.out HS.out.2.2.1
    |some v=>
      rw[hv]at C
      have HN:Hid (St w (wr.setCell ⟨w.heap.size,1,none⟩ (.int .i64 v)) (w.heap.size+1) 15 (zae t) 4 2 ⟨a.y,v,a.d,a.h,a.i,a.s⟩):=by
       refine⟨HS.out.1.set 1 _,HS.out.2.1.farK (by omega) _ _,HS.out.2.2.1.setCell (Nat.le_refl _) _,?_⟩
       have hp:=HS.out.2.2.2
       unfold Pref at hp⊢
       obtain⟨p0,p1,p2,p3,p4,p5⟩:=hp
       refine⟨fun _=> ?_,fun _=> ?_,fun _=> ?_,fun _=> ?_,fun _=> ?_,fun _=> ?_⟩
       all_goals first|exact hv|exact p0 (by omega)|exact p1 (by omega)|exact p2 (by omega)|exact p3 (by omega)|exact p4 (by omega)|exact p5 (by omega)|omega
      clear hv HS
      go_wp2_with fail
      refine C.out.mono ?_
      rintro e w5 ⟨rfl,rfl⟩
      simp only[Option.getD_some,Option.isSome_some]
      clear C
      go_wp2
      go_roundw
      case rel=>exact⟨2,by omega,by go_num,⟨6,c-2,rfl,by have:=HC.out;omega,by first|rfl|(congr 1;omega)⟩,_,HN.out⟩
      case measure=>simp[intOf]
  · obtain rfl:off=6:=by simpa using hoff
    have hc':9<=c:=by omega
    clear hoff
    have HC:=zwd hc
    clear hc
    have C:=zwd (zbE HS.out 6 2 (by omega) (by omega))
    have fk:=HS.out.1.free 2
    have ck:wr.cell? ⟨w.heap.size,2,none⟩=some (.int .i64 a.d):=HS.out.1.cell 2
    cases hv:pk (zae t) 6 2 with
    |none=>
      rw[hv]at C
      have DN:Hid (readD (zae t) true=none):=zwd (by rw[HD.out,za9 (.inr (.inr (.inl hv)))];rfl)
      clear hv
      go_wp2_with fail
      refine C.out.mono ?_
      rintro e w5 ⟨rfl,rfl⟩
      simp only[Option.getD_none,Option.isSome_none]
      go_wp2
      go_ret2
      exact zaZ.bad DN.out HS.out.2.2.1
    |some v=>
      rw[hv]at C
      have HN:Hid (St w (wr.setCell ⟨w.heap.size,2,none⟩ (.int .i64 v)) (w.heap.size+1) 15 (zae t) 4 3 ⟨a.y,a.m,v,a.h,a.i,a.s⟩):=by
       refine⟨HS.out.1.set 2 _,HS.out.2.1.farK (by omega) _ _,HS.out.2.2.1.setCell (Nat.le_refl _) _,?_⟩
       have hp:=HS.out.2.2.2
       unfold Pref at hp⊢
       obtain⟨p0,p1,p2,p3,p4,p5⟩:=hp
       refine⟨fun _=> ?_,fun _=> ?_,fun _=> ?_,fun _=> ?_,fun _=> ?_,fun _=> ?_⟩
       all_goals first|exact hv|exact p0 (by omega)|exact p1 (by omega)|exact p2 (by omega)|exact p3 (by omega)|exact p4 (by omega)|exact p5 (by omega)|omega
      clear hv HS
      go_wp2_with fail
      refine C.out.mono ?_
      rintro e w5 ⟨rfl,rfl⟩
      simp only[Option.getD_some,Option.isSome_some]
      clear C
      go_wp2
      go_roundw
      case rel=>exact⟨3,by omega,by go_num,⟨8,c-2,rfl,by have:=HC.out;omega,by first|rfl|(congr 1;omega)⟩,_,HN.out⟩
      case measure=>simp[intOf]
  · obtain rfl:off=8:=by simpa using hoff
    have hc':7<=c:=by omega
    clear hoff
    have HC:=zwd hc
    clear hc
    have C:=zwd (zbE HS.out 8 2 (by omega) (by omega))
    have fk:=HS.out.1.free 3
    have ck:wr.cell? ⟨w.heap.size,3,none⟩=some (.int .i64 a.h):=HS.out.1.cell 3
    cases hv:pk (zae t) 8 2 with
    |none=>
      rw[hv]at C
      have DN:Hid (readD (zae t) true=none):=zwd (by rw[HD.out,za9 (.inr (.inr (.inr (.inl hv))))];rfl)
      clear hv
      go_wp2_with fail
      refine C.out.mono ?_
      rintro e w5 ⟨rfl,rfl⟩
      simp only[Option.getD_none,Option.isSome_none]
      go_wp2
      go_ret2
      exact zaZ.bad DN.out HS.out.2.2.1
    |some v=>
      rw[hv]at C
      have HN:Hid (St w (wr.setCell ⟨w.heap.size,3,none⟩ (.int .i64 v)) (w.heap.size+1) 15 (zae t) 4 4 ⟨a.y,a.m,a.d,v,a.i,a.s⟩):=by
       refine⟨HS.out.1.set 3 _,HS.out.2.1.farK (by omega) _ _,HS.out.2.2.1.setCell (Nat.le_refl _) _,?_⟩
       have hp:=HS.out.2.2.2
       unfold Pref at hp⊢
       obtain⟨p0,p1,p2,p3,p4,p5⟩:=hp
       refine⟨fun _=> ?_,fun _=> ?_,fun _=> ?_,fun _=> ?_,fun _=> ?_,fun _=> ?_⟩
       all_goals first|exact hv|exact p0 (by omega)|exact p1 (by omega)|exact p2 (by omega)|exact p3 (by omega)|exact p4 (by omega)|exact p5 (by omega)|omega
      clear hv HS
      go_wp2_with fail
      refine C.out.mono ?_
      rintro e w5 ⟨rfl,rfl⟩
      simp only[Option.getD_some,Option.isSome_some]
      clear C
      go_wp2
      go_roundw
      case rel=>exact⟨4,by omega,by go_num,⟨10,c-2,rfl,by have:=HC.out;omega,by first|rfl|(congr 1;omega)⟩,_,HN.out⟩
      case measure=>simp[intOf]
  · obtain rfl:off=10:=by simpa using hoff
    have hc':5<=c:=by omega
    clear hoff
    have HC:=zwd hc
    clear hc
    have C:=zwd (zbE HS.out 10 2 (by omega) (by omega))
    have fk:=HS.out.1.free 4
    have ck:wr.cell? ⟨w.heap.size,4,none⟩=some (.int .i64 a.i):=HS.out.1.cell 4
    cases hv:pk (zae t) 10 2 with
    |none=>
      rw[hv]at C
      have DN:Hid (readD (zae t) true=none):=zwd (by rw[HD.out,za9 (.inr (.inr (.inr (.inr (.inl hv)))))];rfl)
      clear hv
      go_wp2_with fail
      refine C.out.mono ?_
      rintro e w5 ⟨rfl,rfl⟩
      simp only[Option.getD_none,Option.isSome_none]
      go_wp2
      go_ret2
      exact zaZ.bad DN.out HS.out.2.2.1
    |some v=>
      rw[hv]at C
      have HN:Hid (St w (wr.setCell ⟨w.heap.size,4,none⟩ (.int .i64 v)) (w.heap.size+1) 15 (zae t) 4 5 ⟨a.y,a.m,a.d,a.h,v,a.s⟩):=by
       refine⟨HS.out.1.set 4 _,HS.out.2.1.farK (by omega) _ _,HS.out.2.2.1.setCell (Nat.le_refl _) _,?_⟩
       have hp:=HS.out.2.2.2
       unfold Pref at hp⊢
       obtain⟨p0,p1,p2,p3,p4,p5⟩:=hp
       refine⟨fun _=> ?_,fun _=> ?_,fun _=> ?_,fun _=> ?_,fun _=> ?_,fun _=> ?_⟩
       all_goals first|exact hv|exact p0 (by omega)|exact p1 (by omega)|exact p2 (by omega)|exact p3 (by omega)|exact p4 (by omega)|exact p5 (by omega)|omega
      clear hv HS
      go_wp2_with fail
      refine C.out.mono ?_
      rintro e w5 ⟨rfl,rfl⟩
      simp only[Option.getD_some,Option.isSome_some]
      clear C
      go_wp2
      go_roundw
      case rel=>exact⟨5,by omega,by go_num,⟨12,c-2,rfl,by have:=HC.out;omega,by first|rfl|(congr 1;omega)⟩,_,HN.out⟩
      case measure=>simp[intOf]
  · obtain rfl:off=12:=by simpa using hoff
    have hc':3<=c:=by omega
    clear hoff
    have HC:=zwd hc
    clear hc
    have C:=zwd (zbE HS.out 12 2 (by omega) (by omega))
    have fk:=HS.out.1.free 5
    have ck:wr.cell? ⟨w.heap.size,5,none⟩=some (.int .i64 a.s):=HS.out.1.cell 5
    cases hv:pk (zae t) 12 2 with
    |none=>
      rw[hv]at C
      have DN:Hid (readD (zae t) true=none):=zwd (by rw[HD.out,za9 (.inr (.inr (.inr (.inr (.inr (hv))))))];rfl)
      clear hv
      go_wp2_with fail
      refine C.out.mono ?_
      rintro e w5 ⟨rfl,rfl⟩
      simp only[Option.getD_none,Option.isSome_none]
      go_wp2
      go_ret2
      exact zaZ.bad DN.out HS.out.2.2.1
    |some v=>
      rw[hv]at C
      have HN:Hid (St w (wr.setCell ⟨w.heap.size,5,none⟩ (.int .i64 v)) (w.heap.size+1) 15 (zae t) 4 6 ⟨a.y,a.m,a.d,a.h,a.i,v⟩):=by
       refine⟨HS.out.1.set 5 _,HS.out.2.1.farK (by omega) _ _,HS.out.2.2.1.setCell (Nat.le_refl _) _,?_⟩
       have hp:=HS.out.2.2.2
       unfold Pref at hp⊢
       obtain⟨p0,p1,p2,p3,p4,p5⟩:=hp
       refine⟨fun _=> ?_,fun _=> ?_,fun _=> ?_,fun _=> ?_,fun _=> ?_,fun _=> ?_⟩
       all_goals first|exact hv|exact p0 (by omega)|exact p1 (by omega)|exact p2 (by omega)|exact p3 (by omega)|exact p4 (by omega)|exact p5 (by omega)|omega
      clear hv HS
      go_wp2_with fail
      refine C.out.mono ?_
      rintro e w5 ⟨rfl,rfl⟩
      simp only[Option.getD_some,Option.isSome_some]
      clear C
      go_wp2
      go_roundw
      case rel=>exact⟨6,by omega,by go_num,⟨14,c-2,rfl,by have:=HC.out;omega,by first|rfl|(congr 1;omega)⟩,_,HN.out⟩
      case measure=>simp[intOf]
  · clear hoff hc
    have DS:=zwd (zeG HS.out.2.2.2)
    have yr:=zkC _ 0 a.y (by omega) (HS.out.2.2.2.1 (by omega))
    have yl:(((zae t).drop 0).take 4).length=4:=by rw[List.drop_zero,List.length_take,NL.out];omega
    rw[yl]at yr
    have y0:0<=a.y:=yr.1
    have y1:a.y<=10000:=by omega
    clear yr yl
    have RD:Hid (readD (zae t) true=some ⟨a.y,a.m,a.d,a.h,a.i,a.s⟩):=zwd (by rw[HD.out,DS.out];rfl)
    have L1:Hid (Blk wr w.heap.size 147 (d6c a.y a.m a.d a.h a.i a.s)):=HS.out.1
    have LB:=zwd HS.out.2.2.1
    clear HS DS
    go_wp2_with (refine wpList_load_row rfl 147 (.tmp 7) rfl w.heap.size rfl 147 (d6c a.y a.m a.d a.h a.i a.s) (0,0) (.array 6 3) L1.out Tryz.underlying147 rfl (Tryz.size22 ..) ?_)
    refine(zm7 a.y a.m a.d a.h a.i a.s _).mono ?_
    rintro e w6 ⟨rfl,hb6⟩
    have B6:=zwd (Below.step LB.out hb6)
    clear hb6
    go_wp2
    go_ret2
    exact⟨by rw[RD.out];rfl,B6.out⟩
  · omega
theorem read_any (t:ByteArray) (long:Bool) (w:World):Calls Tryz.prog 190 #[.string t,.bool long] w (zaZ w (readD (zae t) long)):=by
 have NL:=zwd (zaK t)
 cases long
 · by_cases h1:t.size=13
   · by_cases h2:nth t 12=90
     · exact zol t w h1 h2
     · have RD:Hid (readD (zae t) false=none):=by
        unfold Hid readD
        rw[if_neg (fun h=>h2 h.2)]
       have hi:=zd3 t 12 (by omega) 12 rfl
       have h1':(t.size:Int)=13:=by omega
       generalize nth t 12=c at hi h2
       have t2:(c !=90)=true:=by simpa using h2
       clear h1
       go_enter Tryz.func190,Tryz.ntmps190
       go_wp2
       go_ret2
       exact zaZ.bad RD.out (Below.refl _ _)
   · have RD:Hid (readD (zae t) false=none):=by
      unfold Hid readD
      rw[if_neg (fun h=>h1 (by have:=h.1;rw[NL.out]at this;exact this))]
     have t1:((t.size:Int) !=13)=true:=by simp;omega
     go_enter Tryz.func190,Tryz.ntmps190
     go_wp2
     go_ret2
     exact zaZ.bad RD.out (Below.refl _ _)
 · by_cases h1:t.size=15
   · by_cases h2:nth t 14=90
     · exact zqh t w h1 h2
     · have RD:Hid (readD (zae t) true=none):=by
        unfold Hid readD
        rw[if_neg (fun h=>h2 h.2)]
       have hi:=zd3 t 14 (by omega) 14 rfl
       have h1':(t.size:Int)=15:=by omega
       generalize nth t 14=c at hi h2
       have t2:(c !=90)=true:=by simpa using h2
       clear h1
       go_enter Tryz.func190,Tryz.ntmps190
       go_wp2
       go_ret2
       exact zaZ.bad RD.out (Below.refl _ _)
   · have RD:Hid (readD (zae t) true=none):=by
      unfold Hid readD
      rw[if_neg (fun h=>h1 (by have:=h.1;rw[NL.out]at this;exact this))]
     have t1:((t.size:Int) !=15)=true:=by simp;omega
     go_enter Tryz.func190,Tryz.ntmps190
     go_wp2
     go_ret2
     exact zaZ.bad RD.out (Below.refl _ _)
end Go.Proofs.YtpgahclpbdpbnaaGreatDoor.Clk
namespace Go.Proofs.YtpgahclpbdpbnaaGreatDoor
open Go.RowKit
set_option linter.unusedVariables false
def Fair (s:ByteArray) (k:Nat):Prop:=s.size<=200/\ 32<=nth s k/\ nth s k<=126
instance (s:ByteArray) (k:Nat):Decidable (Fair s k):=by unfold Fair;infer_instance
def zaX (s:ByteArray):T×Int:=if∀k,k<s.size->Fair s k then(.node 22 (zae s) [],0)else(zbz,1)
theorem zf3 (s:ByteArray) (w:World) (hs:s.size<=1000000):Calls Tryz.prog 26 #[.string s] w (zaQ (zaX s) w):=by
 have S0:=zwd (RB.start w)
 go_enter Tryz.func26,Tryz.ntmps26
 go_wp2_with fail
 generalize hw0:w.alloc (.cells #[.int .i64 0,.slice none 0 0,.slice none 0 0] 30)=w0 at*
 clear hw0
 go_loopw [4] (fun i wr=>∃k:Nat,k<=s.size/\ i= .int .i64 (k:Int)/\ wr=w0/\ ∀j,j<k->Fair s j) (fun i _=>s.size-(intOf i).toNat)
 case atStart=>exact⟨0,by omega,rfl,rfl,fun j hj=>by omega⟩
 case round=>
  obtain⟨k,hk,rfl,rfl,hf⟩:=hrel
  have HF:=zwd hf
  clear hf
  by_cases hlt:k<s.size
  · have hi:=zd3 s k hlt _ rfl
    by_cases hfair:Fair s k
    · have N:Hid (∀j,j<k+1->Fair s j):=fun j hj=>by
       rcases Nat.lt_or_ge j k with h|h
       · exact HF.out j h
       · obtain rfl:j=k:=by omega
         exact hfair
      obtain⟨f1,f2,f3⟩:=hfair
      generalize nth s k=x at hi f2 f3
      clear HF
      go_wp2_with fail
      go_roundw
      case rel=>exact⟨k+1,by omega,by go_num,trivial,N.out⟩
      case measure=>simp[intOf];omega
    · have F:Hid (zaX s=(.node 0 [] [],1)):=if_neg (fun h=>hfair (h k hlt))
      obtain⟨p0,p1,p2,q0,q1,q2⟩:=S0.out.box.six
      unfold Fair at hfair
      have hx:=zfj s k
      generalize nth s k=x at hi hfair hx
      clear HF
      have RN:=zwd (Row.nil wr)
      by_cases b1:32<=x
      · by_cases b2:x<=126
        · have b3:200<s.size:=by omega
          go_wp2_with fail
          exact zah (zs:=[]) (c:=0) F.out rfl rfl rfl S0.out (RN.out _) (fun h=>absurd h (by simp)) ⟨fun _=>rfl,Nat.le_refl _⟩ rfl (by simp)
        · go_wp2_with fail
          exact zah (zs:=[]) (c:=0) F.out rfl rfl rfl S0.out (RN.out _) (fun h=>absurd h (by simp)) ⟨fun _=>rfl,Nat.le_refl _⟩ rfl (by simp)
      · go_wp2_with fail
        exact zah (zs:=[]) (c:=0) F.out rfl rfl rfl S0.out (RN.out _) (fun h=>absurd h (by simp)) ⟨fun _=>rfl,Nat.le_refl _⟩ rfl (by simp)
  · obtain rfl:k=s.size:=by omega
    have F:Hid (zaX s=(.node 22 (zae s) [],0)):=if_pos HF.out
    clear HF
    obtain⟨cap,W1,hrun,hrow,hb1,hcap⟩:=Clk.bytes_of s wr
    have S1:=zwd (S0.out.go hb1)
    have R1:=zwd hrow
    obtain⟨p0,p1,p2,q0,q1,q2⟩:=S1.out.box.six
    have hlt0:w.heap.size<wr.heap.size:=S0.out.box.lt
    have NL:=zaK s
    clear hrow hb1
    go_wp2_with fail
    rw[<-NL]
    exact zah (zs:=zae s) (c:=cap) F.out rfl rfl rfl S1.out (by rw[NL];exact R1.out) (fun _=>⟨_,_,rfl,hlt0⟩) ⟨fun e=>(by cases e),by rw[NL];exact hcap⟩ rfl (by omega)
end Go.Proofs.YtpgahclpbdpbnaaGreatDoor
namespace Go.Proofs.YtpgahclpbdpbnaaGreatDoor
open Go.RowKit
set_option linter.unusedVariables false
def za1 (t:T):ByteArray×Int:=if(zaX (strOfNums t.body)).2=0/\ zaW (zaX (strOfNums t.body)).1 t=true then(strOfNums t.body,0)else(⟨#[]⟩,2)
def zcY (x:ByteArray×Int) (w:World) (e:Ending) (w':World):Prop:=e= .returned (.tuple #[.string x.1,.int .i64 x.2])/\ Below w.heap.size w w'
theorem zcY.of {x:ByteArray×Int} {b:ByteArray} {n:Int} {w w':World} (h:x=(b,n)) (hb:Below w.heap.size w w'):zcY x w (.returned (.tuple #[.string b,.int .i64 n])) w':=by subst h;exact⟨rfl,hb⟩
theorem zsU (s:ByteArray):(zaX s).2=0 \/(zaX s).2=1:=by
 unfold zaX
 split
 · exact .inl rfl
 · exact .inr rfl
theorem zom (t:T) (v:Value) (w:World) (hin:t.In w v) (hwt:t.body.length<=1000000):Calls Tryz.prog 61 #[v] w (zcY (za1 t) w):=by
 obtain⟨A,n,c,K,m,d,rfl,hw,hr,hn,hc,hm,hm',hks⟩:=hin.open
 have B2:=zwd (Box.start hin)
 have GZ:Hid (za1 t=if(zaX (strOfNums t.body)).2=0/\ zaW (zaX (strOfNums t.body)).1 t=true then(strOfNums t.body,0)else(⟨#[]⟩,2)):=rfl
 have hcv:=zbx c (hr.below B2.out.below)
 have CT:=zwd (zf3 (strOfNums t.body) (w.alloc (.cells #[.int .i64 t.tag,.slice A n c,.slice K m d] 30)) (by rw[strOfNums_size];exact hwt))
 have HE:=zsU (strOfNums t.body)
 have CV:=zwd (fun W (hW:Below w.heap.size w W)=>zbx c (hr.below hW))
 obtain⟨g0,g1,g2⟩:=B2.out.cells
 clear hr hks hc hin hm hm' hw hn
 generalize strOfNums t.body=S at*
 generalize zaX S=X at*
 go_enter Tryz.func61,Tryz.ntmps61
 generalize hw2:w.alloc (.cells #[.int .i64 t.tag,.slice A n c,.slice K m d] 30)=w2 at*
 go_wp2_with fail
 refine CT.out.mono ?_
 rintro e w3 ⟨A3,n3,c3,K3,m3,d3,rfl,hin3,hb3⟩
 have B3:=zwd (B2.out.go hb3)
 have B4:=zwd (B3.out.go ((Below.refl w3.heap.size w3).alloc (Nat.le_refl _) (.cells #[.int .i64 X.1.tag,.slice A3 n3 c3,.slice K3 m3 d3] 30)))
 have X4:=zwd (T.In.below ((Below.refl w3.heap.size w3).alloc (Nat.le_refl _) (.cells #[.int .i64 X.1.tag,.slice A3 n3 c3,.slice K3 m3 d3] 30)) X.1 (T.InP.in _ hin3))
 clear hw2 CT g0 g1 g2 hin3 hb3
 obtain⟨g0,g1,g2⟩:=B4.out.cells
 obtain⟨xt,xe⟩:=X
 rcases HE with rfl|rfl
 · have GX:Hid (za1 t=if zaW xt t=true then(S,0)else(⟨#[]⟩,2)):=by rw[GZ.out];simp[Hid]
   have CS:=zwd (zdR xt t _ _ _ X4.out B4.out.has)
   clear GZ X4
   go_wp2_with fail
   refine CS.out.mono ?_
   rintro e w5 ⟨rfl,hb5⟩
   have B5:=zwd (B4.out.go hb5)
   clear hb5 CS B4 hcv g0 g1 g2
   cases hs:zaW xt t
   · have F:Hid (za1 t=(⟨#[]⟩,2)):=by rw[GX.out,hs];rfl
     go_wp2_with fail
     go_ret2
     exact zcY.of F.out B5.out.below
   · have F:Hid (za1 t=(S,0)):=by rw[GX.out,hs];rfl
     have hcv:=CV.out w5 B5.out.below
     obtain⟨g0,g1,g2⟩:=B5.out.cells
     go_wp2_with fail
     go_ret2
     exact zcY.of F.out B5.out.below
 · have F:Hid (za1 t=(⟨#[]⟩,2)):=by rw[GZ.out];simp[Hid]
   clear GZ
   go_wp2_with fail
   go_ret2
   exact zcY.of F.out B4.out.below
end Go.Proofs.YtpgahclpbdpbnaaGreatDoor
namespace Go.Proofs.YtpgahclpbdpbnaaGreatDoor.Clk
open Go.RowKit
def zon (s:Int) (S:ByteArray) (ok:Bool):Prop:=(ok=true/\ ∃a,IsDate s a/\ S=strOfNums a.long) \/(ok=false/\ S=⟨#[]⟩/\ (s< -631152000 \/7258118399<s))
def zhq (s:Int) (S:ByteArray) (ok:Bool):Prop:=(ok=true/\ ∃a,IsDate s a/\ a.y<2050/\ S=strOfNums (a.long.drop 2)) \/(ok=false/\ S=⟨#[]⟩/\ ((s< -631152000 \/7258118399<s) \/∃a,IsDate s a/\ 2050<=a.y))
def TextR (s:Int) (S:ByteArray) (ok:Bool):Prop:=(ok=true/\ zhq s S true) \/(zhq s ⟨#[]⟩ false/\ zon s S ok)
def ziI (R:ByteArray->Bool->Prop) (w:World) (e:Ending) (w':World):Prop:=∃S ok,R S ok/\ e= .returned (.tuple #[.string S,.bool ok])/\ Below w.heap.size w w'
theorem zjr {s:Int} {a:D6} (h:IsDate s a):¬(s< -631152000 \/7258118399<s):=by
 have:=zgK h.1
 rw[h.2]at this
 omega
theorem zon.eq {s:Int} {S T:ByteArray} {p q:Bool} (h:zon s S p) (k:zon s T q):S=T/\ p=q:=by
 rcases h with⟨rfl,a,ha,rfl⟩|⟨rfl,rfl,h⟩<;>rcases k with⟨rfl,b,hb,rfl⟩|⟨rfl,rfl,k⟩
 · rw[ha.eq hb];exact⟨rfl,rfl⟩
 · exact absurd k (zjr ha)
 · exact absurd h (zjr hb)
 · exact⟨rfl,rfl⟩
theorem zhq.eq {s:Int} {S T:ByteArray} {p q:Bool} (h:zhq s S p) (k:zhq s T q):S=T/\ p=q:=by
 rcases h with⟨rfl,a,ha,hy,rfl⟩|⟨rfl,rfl,h⟩<;>rcases k with⟨rfl,b,hb,hy',rfl⟩|⟨rfl,rfl,k⟩
 · rw[ha.eq hb];exact⟨rfl,rfl⟩
 · rcases k with k|⟨b,hb,hy'⟩
   · exact absurd k (zjr ha)
   · rw[ha.eq hb]at hy;omega
 · rcases h with h|⟨a,ha,hy⟩
   · exact absurd h (zjr hb)
   · rw[ha.eq hb]at hy;omega
 · exact⟨rfl,rfl⟩
theorem TextR.eq {s:Int} {S T:ByteArray} {p q:Bool} (h:TextR s S p) (k:TextR s T q):S=T/\ p=q:=by
 rcases h with⟨rfl,h⟩|⟨h,h'⟩<;>rcases k with⟨rfl,k⟩|⟨k,k'⟩
 · exact⟨(h.eq k).1,rfl⟩
 · have:=(h.eq k).2;cases this
 · have:=(h.eq k).2;cases this
 · exact h'.eq k'
theorem _root_.Go.Proofs.YtpgahclpbdpbnaaGreatDoor.Row.two {w:World} {g n:Nat} {zs:List Int} (h:Row w (some ⟨g,0,none⟩) n zs) (h2:2<=n):Row w (some ⟨g,2,none⟩) (n-2) (zs.drop 2):=by
 have hl:=h.1
 refine⟨by rw[List.length_drop];omega,fun x hx=>h.2.1 x (List.mem_of_mem_drop hx),fun h0=> ?_⟩
 obtain⟨b,off,e,hb,hc⟩:=h.2.2 (by omega)
 injection e with e
 injection e with e1 e2
 subst e1 e2
 exact⟨g,2,rfl,hb,fun i hi=>by rw[show 2+i=0+(2+i)by omega,hc (2+i) (by omega),List.getElem?_drop]⟩
theorem zsV (s:Int) (w:World):Calls Tryz.prog 75 #[.int .i64 s] w (ziI (zon s) w):=by
 have C:=zwd (zm8 s w)
 go_enter Tryz.func75,Tryz.ntmps75
 go_wp2_with fail
 refine C.out.mono ?_
 rintro e w1 ⟨a,ok,hR,rfl,hb1⟩
 clear C
 have B1:=zwd hb1
 clear hb1
 rcases hR with⟨rfl,hd⟩|⟨rfl,rfl,ho⟩
 · have HD:=zwd hd
   clear hd
   obtain⟨y,m,d,h,i,s'⟩:=a
   simp only[D6.cells,d6c]
   go_wp2_with fail
   refine(zho y m d h i s' _ HD.out.1).mono ?_
   rintro e w2 ⟨V,rfl,ho⟩
   obtain⟨A,C,rfl,hrow⟩:=ho.row (D6.long_byte _)
   have kc:=zbx C hrow
   have B2:=zwd (Below.step ((B1.out).alloc B1.out.size _) ho.2)
   clear ho hrow
   go_wp2
   go_ret2
   exact⟨_,true,.inl ⟨rfl,_,HD.out,rfl⟩,rfl,B2.out⟩
 · simp only[D6.cells,d6c,ze5]
   go_wp2
   go_ret2
   exact⟨_,false,.inr ⟨rfl,rfl,ho⟩,rfl,B1.out.alloc B1.out.size _⟩
theorem zqi (s:Int) (w:World):Calls Tryz.prog 74 #[.int .i64 s] w (ziI (zhq s) w):=by
 have C:=zwd (zm8 s w)
 go_enter Tryz.func74,Tryz.ntmps74
 go_wp2_with fail
 refine C.out.mono ?_
 rintro e w1 ⟨a,ok,hR,rfl,hb1⟩
 clear C
 have B1:=zwd hb1
 clear hb1
 rcases hR with⟨rfl,hd⟩|⟨rfl,rfl,ho⟩
 · have HD:=zwd hd
   clear hd
   obtain⟨y,m,d,h,i,s'⟩:=a
   simp only[D6.cells,d6c]
   by_cases hy:2050<=y
   · go_wp2
     go_ret2
     exact⟨_,false,.inr ⟨rfl,rfl,.inr ⟨_,HD.out,hy⟩⟩,rfl,B1.out.alloc B1.out.size _⟩
   · have hy':decide (2050<=y)=false:=by simpa using hy
     go_wp2_with fail
     refine(zho y m d h i s' _ HD.out.1).mono ?_
     rintro e w2 ⟨V,rfl,ho⟩
     obtain⟨g,C,hV,_⟩:=ho.form (by rw[D6.long_length];omega)
     have hcap:(15:Nat)<=C:=by have:=ho.1;rw[hV]at this;have:=zaJ this;rw[D6.long_length]at this;exact this
     subst hV
     have hrow:=Row.of_own ho.1 (D6.long_byte _)
     rw[D6.long_length]at hrow⊢
     have kc:=zbx 13 (hrow.two (by omega))
     have B2:=zwd (Below.step ((B1.out).alloc B1.out.size _) ho.2)
     clear ho hrow
     go_wp2
     go_ret2
     exact⟨_,true,.inl ⟨rfl,_,HD.out,by simp only;omega,rfl⟩,rfl,B2.out⟩
 · simp only[D6.cells,d6c,ze5]
   go_wp2
   go_ret2
   exact⟨_,false,.inr ⟨rfl,rfl,.inl ho⟩,rfl,B1.out.alloc B1.out.size _⟩
theorem text_any (s:Int) (w:World):Calls Tryz.prog 45 #[.int .i64 s] w (ziI (TextR s) w):=by
 have C:=zwd (zqi s w)
 go_enter Tryz.func45,Tryz.ntmps45
 go_wp2_with fail
 refine C.out.mono ?_
 rintro e w1 ⟨S,ok,hR,rfl,hb1⟩
 clear C
 have B1:=zwd hb1
 have HR:=zwd hR
 clear hb1 hR
 cases ok
 · go_wp2_with fail
   refine(zsV s _).mono ?_
   rintro e w2 ⟨S',ok',hR',rfl,hb2⟩
   have B2:=zwd (Below.step B1.out hb2)
   have HT:Hid (TextR s S' ok'):= .inr ⟨by
    rcases HR.out with⟨h,_⟩|⟨h,e,h'⟩
    · cases h
    · rw[<-e];exact HR.out,hR'⟩
   clear hb2 hR'
   go_wp2
   go_ret2
   exact⟨S',ok',HT.out,rfl,B2.out⟩
 · go_wp2
   go_ret2
   exact⟨S,true,.inl ⟨rfl,HR.out⟩,rfl,B1.out⟩
end Go.Proofs.YtpgahclpbdpbnaaGreatDoor.Clk
namespace Go.Proofs.YtpgahclpbdpbnaaGreatDoor.Clk
open Go.RowKit
theorem zgC {l xs ys zs:List Int} {at_ wd:Nat} (hl:l=xs++(ys++zs)) (hx:xs.length=at_) (hy:ys.length=wd):pk l at_ wd=nz 0 ys:=by
 unfold pk
 rw[hl,<-hx,List.drop_left,<-hy,List.take_left]
theorem zf4 (l:List Int):readD l true=if l.length=15/\ l[14]?.getD 0=90 then(zcR l 4).map (fun a=>a)else none:=rfl
theorem zhr (l:List Int):readD l false=if l.length=13/\ l[12]?.getD 0=90 then(zcR l 2).map (fun a=> {a with y:=zdp a.y})else none:=rfl
theorem long_read {a:D6} (h:a.ok):readD a.long true=some a:=by
 obtain⟨h1,h2,h3,h4,h5,h6,h7,h8,h9,h10,h11,h12⟩:=h
 have hl:=zd5 a.y a.m
 have e0:a.long=[]++(digs 4 a.y++(digs 2 a.m++digs 2 a.d++digs 2 a.h++digs 2 a.i++digs 2 a.s++[90])):=by simp[D6.long,D6.txt]
 have e1:a.long=digs 4 a.y++(digs 2 a.m++(digs 2 a.d++digs 2 a.h++digs 2 a.i++digs 2 a.s++[90])):=by simp[D6.long,D6.txt]
 have e2:a.long=(digs 4 a.y++digs 2 a.m)++(digs 2 a.d++(digs 2 a.h++digs 2 a.i++digs 2 a.s++[90])):=by simp[D6.long,D6.txt]
 have e3:a.long=(digs 4 a.y++digs 2 a.m++digs 2 a.d)++(digs 2 a.h++(digs 2 a.i++digs 2 a.s++[90])):=by simp[D6.long,D6.txt]
 have e4:a.long=(digs 4 a.y++digs 2 a.m++digs 2 a.d++digs 2 a.h)++(digs 2 a.i++(digs 2 a.s++[90])):=by simp[D6.long,D6.txt]
 have e5:a.long=(digs 4 a.y++digs 2 a.m++digs 2 a.d++digs 2 a.h++digs 2 a.i)++(digs 2 a.s++[90]):=by simp[D6.long,D6.txt]
 have p:Pref a.long 4 6 a:=by
  refine⟨fun _=> ?_,fun _=> ?_,fun _=> ?_,fun _=> ?_,fun _=> ?_,fun _=> ?_⟩
  · rw[zgC (at_:=0) e0 rfl (digs_length 4 _)];exact zcA 4 _ (by omega) (by show a.y<10000;omega)
  · rw[zgC e1 (digs_length 4 _) (digs_length 2 _)];exact zcA 2 _ (by omega) (by show a.m<100;omega)
  · rw[zgC e2 (by simp[digs_length]) (digs_length 2 _)];exact zcA 2 _ (by omega) (by show a.d<100;omega)
  · rw[zgC e3 (by simp[digs_length]) (digs_length 2 _)];exact zcA 2 _ (by omega) (by show a.h<100;omega)
  · rw[zgC e4 (by simp[digs_length]) (digs_length 2 _)];exact zcA 2 _ (by omega) (by show a.i<100;omega)
  · rw[zgC e5 (by simp[digs_length]) (digs_length 2 _)];exact zcA 2 _ (by omega) (by show a.s<100;omega)
 rw[zf4]
 have h14:a.long[14]?.getD 0=90:=by
  unfold D6.long
  rw[List.getElem?_append_right (by simp[D6.txt,digs_length])]
  simp[D6.txt,digs_length]
 rw[if_pos ⟨D6.long_length a,h14⟩,zeG p]
 rfl
theorem zvA (y:Int):digs 4 y=digs 2 (y/100)++digs 2 y:=by
 simp only[digs,List.nil_append,List.cons_append]
 rw[show y/10/10/10=y/100/10 by omega,show y/10/10=y/100 by omega]
theorem zoo (n:Int):digs 2 (zdp n)=digs 2 n:=by
 have e1:zdp n%10=n%10:=by unfold zdp;split<;>omega
 have e2:zdp n/10%10=n/10%10:=by unfold zdp;split<;>omega
 simp only[digs,List.nil_append,e1,e2]
theorem znf (a:D6):a.long.drop 2=digs 2 a.y++(digs 2 a.m++(digs 2 a.d++(digs 2 a.h++(digs 2 a.i++(digs 2 a.s++[90]))))):=by
 have e:a.long=digs 2 (a.y/100)++(digs 2 a.y++(digs 2 a.m++(digs 2 a.d++(digs 2 a.h++(digs 2 a.i++(digs 2 a.s++[90])))))):=by simp[D6.long,D6.txt,zvA]
 rw[e]
 have:=List.drop_left (l₁:=digs 2 (a.y/100)) (l₂:=digs 2 a.y++(digs 2 a.m++(digs 2 a.d++(digs 2 a.h++(digs 2 a.i++(digs 2 a.s++[90]))))))
 rw[digs_length]at this
 exact this
end Go.Proofs.YtpgahclpbdpbnaaGreatDoor.Clk
namespace Go.Proofs.YtpgahclpbdpbnaaGreatDoor.Clk
open Go.RowKit
theorem zvY (y:Int):lp y=if lpB y=true then 1 else 0:=rfl
theorem zhs (y m d:Int) (w:World) (hy1:1950<=y) (hy2:y<=2200) (hm1:1<=m) (hm2:m<=12) (hd1:1<=d) (hd2:d<=31):
 Calls Tryz.prog 178 #[.int .i64 y,.int .i64 m,.int .i64 d] w fun e w'=>e= .returned (.int .i64 (d-1+(dby y-711857)+cum y m))/\ Below w.heap.size w w':=by
 go_enter Tryz.func178,Tryz.ntmps178
 go_wp2
 go_loop [7,8] (fun t k=>∃n:Int,1950<=n/\ n<=y/\ k= .int .i64 n/\ t= .int .i64 (d-1+(dby n-711857))) (fun _ k=>(2200-intOf k).toNat)
 case atStart=>exact⟨1950,by omega,by omega,rfl,by rw[zbY];simp⟩
 case round=>
  obtain⟨n,hn1,hn2,rfl,rfl⟩:=hrel
  have d1:=zcc hn1
  have d2:=zcc (show n<=2200 by omega)
  rw[zbY]at d1
  rw[zcW]at d2
  by_cases hlt:n<y
  · have DS:=zwd (zfs n)
    have LE:=zwd (zvY n)
    have C:=zwd (fun W=>zkz n W (by omega) (by omega))
    cases hb:lpB n
    · rw[hb]at C LE
      clear hb
      have E:Hid (dby (n+1)=dby n+365):=zwd (by rw[DS.out,LE.out,if_neg (by simp),Int.add_zero])
      clear DS LE
      go_wp2_with (go_at_call 208;refine(C.out _).mono ?_;rintro e w1 ⟨rfl,rfl⟩)
      go_round
      case rel=>exact⟨n+1,by omega,by omega,rfl,by rw[E.out];go_num⟩
      case measure=>simp[intOf];omega
    · rw[hb]at C LE
      clear hb
      have E:Hid (dby (n+1)=dby n+366):=zwd (by rw[DS.out,LE.out,if_pos rfl];omega)
      clear DS LE
      go_wp2_with (go_at_call 208;refine(C.out _).mono ?_;rintro e w1 ⟨rfl,rfl⟩)
      go_round
      case rel=>exact⟨n+1,by omega,by omega,rfl,by rw[E.out];go_num⟩
      case measure=>simp[intOf];omega
  · obtain rfl:n=y:=by omega
    go_wp2
    go_loopw [7,9] (fun t k wr=>∃q:Int,1<=q/\ q<=m/\ k= .int .i64 q/\ t= .int .i64 (d-1+(dby n-711857)+cum n q)/\ Below w.heap.size w wr) (fun _ k _=>(12-intOf k).toNat)
    case atStart=>exact⟨1,by omega,by omega,rfl,by rw[zcQ,Int.add_zero],Below.refl _ _⟩
    case round=>
     obtain⟨q,hq1,hq2,rfl,rfl,hbel⟩:=hrel
     have HB:=zwd hbel
     clear hbel
     have c1:=zcX (y:=n) hq1
     have c2:=zcX (y:=n) (show q<=13 by omega)
     have dl:=zoj n
     rw[zcQ]at c1
     rw[zhk]at c2
     by_cases hq:q<m
     · have CS:=zwd (zeD n q hq1 (by omega))
       have mr:=zd5 n q
       go_wp2_with fail
       refine(zce n q _ (by omega) (by omega) hq1 (by omega)).mono ?_
       rintro e w2 ⟨rfl,hb2⟩
       have HB2:=zwd (HB.out.trans (hb2.mono HB.out.size))
       clear hb2
       go_wp2
       go_roundw
       case rel=>exact⟨q+1,by omega,by omega,rfl,by rw[CS.out];go_num,HB2.out⟩
       case measure=>simp[intOf];omega
     · obtain rfl:q=m:=by omega
       go_wp2
       go_ret
       exact⟨rfl,HB.out⟩
end Go.Proofs.YtpgahclpbdpbnaaGreatDoor.Clk
