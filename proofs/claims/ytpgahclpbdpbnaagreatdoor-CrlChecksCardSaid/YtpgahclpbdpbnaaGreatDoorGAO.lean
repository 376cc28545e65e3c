import Derived.Test.YtpgahclpbdpbnaaGreatDoorGAB
import Derived.Lib.AppendZeros
import Derived.Maps.AppendAt
import Derived.Test.YtpgahclpbdpbnaaGreatDoorGAN
set_option maxHeartbeats 1000000
set_option maxRecDepth 100000
namespace Go.Proofs.YtpgahclpbdpbnaaGreatDoor
open Go.RowKit
set_option linter.unusedVariables false
theorem zeM (n:Nat):(Builtin.zeroCells #[Value.int .u8 0] n).toList=List.replicate n (Value.int .u8 0):=by
 unfold Builtin.zeroCells
 apply List.ext_getElem
 · simp
 · intro i h1 h2
   have:i%1=0:=Nat.mod_one i
   simp[this]
theorem zqR (w:World) (m:Nat) (hm:m<=64) (ty:TypeId):∃V' w',(Builtin.append_ #[26,59] ty #[.slice (some ⟨w.heap.size,0,none⟩) 1 1,.int .u64 (m:Int)]).run Tryz.prog (w.alloc (.cells #[.int .u8 128] 5))= .ok V' w'/\ Out w w' V' ([128]++List.replicate m 0):=by
 obtain⟨i0,hi5,hz0,hz1,hz2⟩:=info_parts Tryz.infoByte
 have hw:IntKind.i64.wrap (m:Int)=m:=by rw[IntKind.wrap_i64];omega
 have hneg:¬((m:Int)<0):=by omega
 have h48i:¬(281474976710656<(m:Int)):=by omega
 rcases Nat.eq_zero_or_pos m with h0|h0
 · subst h0
   refine⟨.slice (some ⟨w.heap.size,0,none⟩) 1 1,w.alloc (.cells #[.int .u8 128] 5),?_,by simpa using zbd w 128⟩
   simp[Builtin.append_,run_underlying Tryz.underlying26,run_underlying Tryz.underlying59,sizeOf,typeInfo,hi5,hz2,asInt,asIntOf,storeCells,IntKind.wrap_i64]
 · have hn:¬(m=0):=by omega
   have hneed:¬(1+m<=1):=by omega
   have h63':¬(9223372036854775807<((1:Int)+(m:Int))):=by omega
   have h48':¬(281474976710656<Builtin.nextslicecap (1+m) 1):=by
    have:=nextslicecap_le (need:=1+m) (old:=1) (by omega)
    omega
   have hold:=run_firstCells_some (P:=Tryz.prog) (w.alloc (.cells #[.int .u8 128] 5)).drew 1 1 ⟨w.heap.size,0,none⟩ 1 1 [.int .u8 128] rfl (fun j v hv=>by
    rcases j with _|j
    · simp at hv
      subst hv
      rw[Addr.add_lit]
      exact cell_of_row _ w.heap.size _ #[.int .u8 128] 5 (0,0) (by show(w.alloc (.cells #[.int .u8 128] 5)).heap[w.heap.size]?=_;exact heap_alloc_new w _)
    · simp at hv)
   have hge:=grownCap_ge (w.alloc (.cells #[.int .u8 128] 5)) (1+m) 1 5
   have hcm:=grownCap_le_maxLen (w.alloc (.cells #[.int .u8 128] 5)) (1+m) 1 5 (by unfold maxLen;omega)
   refine⟨.slice (some ⟨(w.alloc (.cells #[.int .u8 128] 5)).heap.size,0,none⟩) (1+m) (grownCap (w.alloc (.cells #[.int .u8 128] 5)) (1+m) 1 5),
    (w.alloc (.cells #[.int .u8 128] 5)).drew.alloc (.cells (#[.int .u8 128]++Builtin.zeroCells #[.int .u8 0] m++Builtin.zeroCells #[.int .u8 0] (grownCap (w.alloc (.cells #[.int .u8 128] 5)) (1+m) 1 5-(1+m))) 5),?_,?_,?_⟩
   · simp[Builtin.append_,run_underlying Tryz.underlying26,run_underlying Tryz.underlying59,sizeOf,typeInfo,zeroValue,hi5,hz0,hz1,hz2,asInt,asIntOf,hw,hn,hneg,h48i,hneed,h63',h48',Question.forced,hold,newRow,grownCap]
     rfl
   · have hl:([128]++List.replicate m (0:Int)).length=1+m:=by simp;omega
     refine⟨by rw[hl];simp;omega,.inr ⟨_,_,_,by rw[hl];rfl,by simp,heap_alloc_new _ _,by rw[hl];exact hge,hcm,?_,?_⟩⟩
     · rw[<-Array.length_toList,Array.toList_append,Array.toList_append,zeM,zeM]
       simp
       omega
     · rw[Array.toList_append,Array.toList_append,zeM,zeM,hl]
       simp only[List.map_append,List.map_replicate,List.map_cons,List.map_nil]
       rw[List.take_append_of_le_length (by simp;omega),List.take_of_length_le (by simp;omega)]
   · exact(((Below.refl _ _).alloc (Nat.le_refl _) _).drew).alloc (by simp) _
theorem zth {ops:Array Oper} {rest:List Oper} {o:Oper} {a:Act} {Q:Exit->Act->World->Prop} {w:World} (m:Nat) (hm:m<=64) (hgd:o.guard=none) (s x:Operand)
 (hop:o.op= .call {callee:= .builtin .append,args:=#[s,x],argTypes:=#[26,59]}) (hs:a.eval s= .slice (some ⟨w.heap.size,0,none⟩) 1 1) (hx:a.eval x= .int .u64 (m:Int))
 (h:∀V' w',Out w w' V' ([128]++List.replicate m 0)->wpList Tryz.prog ops Q rest (a.put o.dst V') w'):wpList Tryz.prog ops Q (o::rest) a (w.alloc (.cells #[.int .u8 128] 5)):=by
 obtain⟨V',w',hr,ho⟩:=zqR w m hm o.type
 exact Lib.wpList_append_run _ hgd s x _ _ hop _ _ hs hx V' w' hr (h V' w' ho)
def padZ (n:Nat):List Int:=[128]++List.replicate (padN n) 0++beZ 8 (8*(n:Int))
theorem zuO (zs:List Int):zdI zs=zs++padZ zs.length:=by
 unfold zdI padZ
 simp only[List.append_assoc]
theorem zmb (n:Nat) (w:World) (hn:n<=1000000):Calls Tryz.prog 162 #[.int .u64 (n:Int)] w (zdK (padZ n) w):=by
 have hz:IntKind.u64.wrap (55-(n:Int))=55-(n:Int) \/IntKind.u64.wrap (55-(n:Int))=18446744073709551616+(55-(n:Int)):=by
  rw[IntKind.wrap_u64]
  omega
 have hp:IntKind.u64.wrap (55-(n:Int))%64=((padN n:Nat):Int):=by
  unfold padN
  omega
 have hw0:0<=IntKind.u64.wrap (55-(n:Int)):=by
  rw[IntKind.wrap_u64]
  omega
 have htm:(IntKind.u64.wrap (55-(n:Int))).tmod 64=((padN n:Nat):Int):=by
  rw[Int.tmod_eq_emod_of_nonneg hw0]
  exact hp
 have hpl:=zmT n
 have F:Hid (padZ n=[128]++List.replicate (padN n) 0++beZ 8 (8*(n:Int))):=zwd rfl
 have LL:Hid (([128]++List.replicate (padN n) (0:Int)).length+8<=1000000):=zwd (by simp;omega)
 have w8:IntKind.u64.wrap (8*(n:Int))=8*(n:Int):=IntWalk.u64_in _ (by omega)
 have h8:(8*(n:Int))/256^8=0:=by
  rw[show(256:Int)^8=18446744073709551616 by rfl];omega
 have CB:=zwd (fun W=>zmS (8*(n:Int)) 8 8 W rfl (by omega) (by omega) (by omega) h8)
 clear hz h8
 generalize padN n=m at*
 go_enter Tryz.func162,Tryz.ntmps162
 go_wp2_with (at_builtin;go_must (refine zth (w:=w) m (by omega) rfl _ _ rfl rfl rfl ?_;intro V1 w1 ho1;have O1:=zwd ho1;clear ho1))
 clear htm hp hw0
 have hL:Hid (([128]++List.replicate m (0:Int)).length+8<=1000000):=LL
 generalize([128]++List.replicate m (0:Int))=L at*
 generalize hB:beZ 8 (8*(n:Int))=B8 at*
 have BB:Hid (∀x∈B8,0<=x/\ x<=255):=by rw[<-hB];exact zwd (zex 8 _)
 clear hB
 refine(CB.out _).mono ?_
 rintro e w5 ⟨a5,c5,rfl,hr5,hb5,hc5⟩
 have O5:=zwd (O1.out.below hb5)
 have R5:=zwd hr5
 have N5:Hid (a5=none->c5=0):=by
  obtain⟨b,off,e,_⟩:=hr5.2.2 (by omega)
  exact zwd (fun h=>by rw[e]at h;cases h)
 clear hr5 hb5 O1 CB
 go_wp2_with (at_builtin;go_must (refine zag (W0:=w) (L:=L) (zs:=B8) rfl _ _ rfl rfl O5.out rfl R5.out N5.out hL.out ?_;intro V4 w4 ho4;have O4:=zwd ho4;clear ho4))
 go_ret
 rw[F.out]
 exact⟨V4,rfl,O4.out⟩
def zaU (s:V8) (m:Int) (rs:List Int):Array Value:=(s.cells.toList++(Value.int .u64 m::rs.map (Value.int .u8))).toArray
theorem zcE (s:V8) (m:Int) (rs:List Int) (h:rs.length=64):(zaU s m rs).size=73:=by
 unfold zaU
 simp[h,V8.cells]
theorem zhJ (s:V8) (m:Int) (rs:List Int):(zaU s m rs)[8]?=some (.int .u64 m):=rfl
theorem zmc (s:V8) (m:Int) (rs:List Int) (j:Nat) (v:Value) (h:s.cells.toList[j]?=some v):(zaU s m rs)[j]?=some v:=by
 unfold zaU
 have hj:j<s.cells.toList.length:=(List.getElem?_eq_some_iff.1 h).1
 rw[List.getElem?_toArray,List.getElem?_append_left hj]
 exact h
theorem zmd (s:V8) (m:Int) (rs:List Int) (j:Nat) (h:j<rs.length):(zaU s m rs)[9+j]?=some (.int .u8 (rs[j]?.getD 0)):=by
 unfold zaU
 rw[List.getElem?_toArray,List.getElem?_append_right (by simp[V8.cells];omega),show 9+j-s.cells.toList.length=j+1 by simp[V8.cells];omega,List.getElem?_cons_succ,List.getElem?_map,List.getElem?_eq_getElem h]
 rfl
theorem zik (s:V8) (m m':Int) (rs:List Int):(zaU s m rs).setIfInBounds 8 (.int .u64 m')=zaU s m' rs:=rfl
theorem zeh (s s':V8) (m:Int) (rs:List Int):((zaU s m rs).toList.take 0++s'.cells.toList++(zaU s m rs).toList.drop (0+s'.cells.toList.length)).toArray=zaU s' m rs:=by
 unfold zaU
 simp[V8.cells]
theorem zdr (s:V8) (m:Int) (rs cs:List Int) (k:Nat) (h:k+cs.length<=rs.length):(splice (zaU s m rs).toList (9+k) (cs.map (Value.int .u8))).toArray=zaU s m (rs.take k++cs++rs.drop (k+cs.length)):=by
 unfold splice zaU
 have e:s.cells.toList.length=8:=by simp[V8.cells]
 apply Array.ext'
 simp only[List.map_append,List.map_take,List.map_drop,List.length_map]
 rw[List.take_append,List.drop_append,e,show 9+k-8=k+1 by omega,show 9+k+cs.length-8=(k+cs.length)+1 by omega,List.take_succ_cons,List.drop_succ_cons,List.take_of_length_le (by omega),List.drop_of_length_le (by omega)]
 simp[List.append_assoc]
def HBlk (w:World) (g:Nat) (s:V8) (m:Int) (rs:List Int):Prop:=Blk w g 176 (zaU s m rs)
theorem HBlk.row {w:World} {g:Nat} {s:V8} {m:Int} {rs:List Int} (h:HBlk w g s m rs) (hl:rs.length=64) (hb:∀x∈rs,0<=x/\ x<=255):Row w (some ⟨g,9,none⟩) 64 rs:=
 ⟨hl,hb,fun _=>⟨g,9,rfl,Blk.lt h,fun i hi=>(Blk.cell h (9+i)).trans (zmd s m rs i (by omega))⟩⟩
theorem HBlk.range {w:World} {g:Nat} {s:V8} {m:Int} {rs:List Int} (h:HBlk w g s m rs):w.rangeAt g 0 s.cells.toList:=by
 intro j v hj
 rw[Nat.zero_add,Blk.cell h j]
 exact zmc s m rs j v hj
def zfc (w:World) (g:Nat) (L:List Int):Prop:=
 ∃rs:List Int,rs.length=64/\ (∀x∈rs,0<=x/\ x<=255)/\ rs.take (L.length%64)=L.drop (64*(L.length/64))/\ HBlk w g (runV (L.length/64) H0 L) (L.length:Int) rs
theorem zfc.kept {w w':World} {g:Nat} {L:List Int} (h:zfc w g L) (hb:w'.heap[g]?=w.heap[g]?):zfc w' g L:=by
 obtain⟨rs,h1,h2,h3,h4⟩:=h
 exact⟨rs,h1,h2,h3,hb.trans h4⟩
theorem zfc.lt {w:World} {g:Nat} {L:List Int} (h:zfc w g L):g<w.heap.size:=by
 obtain⟨rs,h1,h2,h3,h4⟩:=h
 exact Blk.lt h4
theorem zfc.below {w w':World} {g:Nat} {L:List Int} (h:zfc w g L) (hb:Below w.heap.size w w'):zfc w' g L:=h.kept (hb.block g h.lt)
theorem znz (k:Nat):∀ {s:V8} (l:List Int),s.ok->(runV k s l).ok:=by
 induction k with
 |zero=>intro s l h;exact h
 |succ k ih=>intro s l h;exact ih _ (zsl _ _)
def zjF:Array Value:=zaU H0 0 (List.replicate 64 0)
theorem zuP (w:World) (ht:Tab w):Calls Tryz.prog 110 #[] w fun e w'=>e= .returned (.pointer (some ⟨w.heap.size,0,none⟩))/\ w'=w.alloc (.cells zjF 176):=by
 obtain⟨tt,fr,hg⟩:=ht.2.1
 have HG:=zwd hg
 clear hg ht
 go_enter Tryz.func110,Tryz.ntmps110
 go_wp2_with (first
  |(refine wpList_load_row rfl 173 (.global 0) rfl 0 rfl tt H0.cells fr (.array 8 22) HG.out Tryz.underlying173 rfl (Tryz.size41 _) ?_)
  |(refine wpList_buildTo rfl 176 #[(0,.tmp 1)] rfl (some 2) rfl zjF (by kernel_rfl) ?_)
  |(refine Great.wpList_boxTo rfl 176 (.tmp 2) rfl (some 3) rfl w.heap.size rfl zjF rfl ?_))
 go_ret
 exact⟨rfl,rfl⟩
theorem zqS (w:World):zfc (w.alloc (.cells zjF 176)) w.heap.size []:=
 ⟨List.replicate 64 0,by simp,by intro x hx;have:=List.eq_of_mem_replicate hx;omega,rfl,Blk.new w _ _⟩
theorem zjG (j:Nat):∀(s:V8) (l1 l2:List Int),64*j<=l1.length->runV j s (l1++l2)=runV j s l1:=by
 induction j with
 |zero=>intro s l1 l2 h;rfl
 |succ j ih=>
   intro s l1 l2 h
   rw[runV,runV,List.take_append_of_le_length (by omega),List.drop_append_of_le_length (by omega)]
   exact ih _ _ _ (by rw[List.length_drop];omega)
theorem zhK (j:Nat):∀(s:V8) (l:List Int),runV (j+1) s l=zbC (runV j s l) ((l.drop (64*j)).take 64):=by
 induction j with
 |zero=>intro s l;rfl
 |succ j ih=>
   intro s l
   rw[runV,ih,runV,List.drop_drop,show 64+64*j=64*(j+1)by omega]
theorem zqT (l:List Int) (j:Nat):(l.drop (64*j)).drop 64=l.drop (64*(j+1)):=by
 rw[List.drop_drop,show 64*j+64=64*(j+1)by omega]
theorem zoD {L zs rs:List Int} (h64:rs.length=64) (hr:rs.take (L.length%64)=L.drop (64*(L.length/64))) (hs:L.length%64+zs.length<64):
 (L++zs).length/64=L.length/64/\ (L++zs).length%64=L.length%64+zs.length/\
 (rs.take (L.length%64)++zs++rs.drop (L.length%64+zs.length)).take ((L++zs).length%64)=(L++zs).drop (64*((L++zs).length/64))/\
 (rs.take (L.length%64)++zs++rs.drop (L.length%64+zs.length)).length=64:=by
 have e1:(L++zs).length/64=L.length/64:=by rw[List.length_append];omega
 have e2:(L++zs).length%64=L.length%64+zs.length:=by rw[List.length_append];omega
 refine⟨e1,e2,?_,?_⟩
 · have hl:(rs.take (L.length%64)++zs).length=L.length%64+zs.length:=by rw[List.length_append,List.length_take];omega
   rw[e1,e2,<-hl,List.take_left,hr,List.drop_append_of_le_length (by omega)]
 · simp only[List.length_append,List.length_take,List.length_drop]
   omega
theorem zqU {L zs rs:List Int} (h64:rs.length=64) (hr:rs.take (L.length%64)=L.drop (64*(L.length/64))) (hs:64<=L.length%64+zs.length):
 rs.take (L.length%64)++zs.take (64-L.length%64)++rs.drop (L.length%64+(zs.take (64-L.length%64)).length)=((L++zs).drop (64*(L.length/64))).take 64/\
 runV (L.length/64+1) H0 (L++zs)=zbC (runV (L.length/64) H0 L) (rs.take (L.length%64)++zs.take (64-L.length%64)++rs.drop (L.length%64+(zs.take (64-L.length%64)).length))/\
 zs.drop (64-L.length%64)=(L++zs).drop (64*(L.length/64+1))/\
 (rs.take (L.length%64)++zs.take (64-L.length%64)++rs.drop (L.length%64+(zs.take (64-L.length%64)).length)).length=64:=by
 have hlz:(zs.take (64-L.length%64)).length=64-L.length%64:=by rw[List.length_take];omega
 have hd:rs.drop (L.length%64+(zs.take (64-L.length%64)).length)=[]:=List.drop_of_length_le (by omega)
 have hll:(L.drop (64*(L.length/64))).length=L.length%64:=by rw[List.length_drop];omega
 have e1:rs.take (L.length%64)++zs.take (64-L.length%64)++rs.drop (L.length%64+(zs.take (64-L.length%64)).length)=((L++zs).drop (64*(L.length/64))).take 64:=by
  rw[hd,List.append_nil,hr,List.drop_append_of_le_length (by omega),List.take_append,hll,List.take_of_length_le (l:=L.drop (64*(L.length/64))) (by omega)]
 refine⟨e1,?_,?_,?_⟩
 · rw[e1,zhK,zjG _ _ _ _ (by omega)]
 · have:64*(L.length/64+1)=L.length+(64-L.length%64):=by omega
   rw[this,List.drop_length_add_append]
 · rw[hd]
   simp only[List.length_append,List.length_take,List.length_nil]
   omega
theorem zti {T rs:List Int} {j n:Nat} (h64:rs.length=64) (hj:64*j+n=T.length) (hn:n<64):
 T.length/64=j/\ T.length%64=n/\ (rs.take 0++T.drop (64*j)++rs.drop (0+(T.drop (64*j)).length)).take (T.length%64)=T.drop (64*(T.length/64))/\ (rs.take 0++T.drop (64*j)++rs.drop (0+(T.drop (64*j)).length)).length=64:=by
 have e1:T.length/64=j:=by omega
 have e2:T.length%64=n:=by omega
 have hl:(T.drop (64*j)).length=n:=by rw[List.length_drop];omega
 refine⟨e1,e2,?_,?_⟩
 · rw[e1,e2,List.take_zero,List.nil_append]
   have:=hl
   rw[List.take_append_of_le_length (by omega),List.take_of_length_le (by omega)]
 · simp only[List.length_append,List.length_drop,List.take_zero,List.length_nil]
   omega
theorem Tryz.sizeU8H:(Tryz.prog.info? 5).map (·.size)=some 1:=by kernel_rfl
theorem znA (cs:List Int):∀v∈cs.map (Value.int .u8),v.oneCell'=true:=by
 intro v hv
 obtain⟨_,_,rfl⟩:=List.mem_map.1 hv
 rfl
theorem zcL (w:World) (g:Nat) (cs:Array Value):w.grownBy (w.setRow g cs) (some g):=
 ⟨rfl,rfl,rfl,by simp[World.setRow],fun k _ hk=>setRow_other w g k _ (fun e=>hk (by simp[e]))⟩
theorem zei {ops:Array Oper} {rest:List Oper} {o:Oper} {a:Act} {Q:Exit->Act->World->Prop} {w:World} (hgd:o.guard=none) (d s:Operand) (hop:o.op= .call {callee:= .builtin .copy,args:=#[d,s],argTypes:=#[26,26]})
 (g off dLen dCap:Nat) (sp:Option Addr) (sLen sCap:Nat) (hd:a.eval d= .slice (some ⟨g,off,none⟩) dLen dCap) (hs:a.eval s= .slice sp sLen sCap)
 (cur:Array Value) (t:TypeId) (hg:Blk w g t cur) (cs:List Int) (hn:cs.length=Nat.min sLen dLen) (hsrc:0<cs.length->∃ad,sp=some ad/\ ∀j v,(cs.map (Value.int .u8))[j]?=some v->w.cell? (ad.add j)=some v) (hfit:off+cs.length<=cur.size)
 (h:∀w',Blk w' g t (splice cur.toList off (cs.map (Value.int .u8))).toArray->w.grownBy w' (some g)->wpList Tryz.prog ops Q rest (a.put o.dst (.int .i64 (cs.length:Int))) w'):wpList Tryz.prog ops Q (o::rest) a w:=by
 by_cases h0:cs.length=0
 · obtain rfl:cs=[]:=List.eq_nil_of_length_eq_zero h0
   refine wpList_copy_nothing hgd d s 26 26 hop 5 Tryz.underlying26 Tryz.sizeU8H _ sp dLen dCap sLen sCap hd hs (by simpa using hn.symm) ?_
   refine h w ?_ (World.grownBy.refl w _)
   have:(splice cur.toList off (([]:List Int).map (Value.int .u8))).toArray=cur:=by simp[splice]
   rw[this]
   exact hg
 · obtain⟨ad,rfl,hsrc'⟩:=hsrc (by omega)
   refine wpList_copy_own hgd d s 26 26 hop 5 Tryz.underlying26 Tryz.sizeU8H g off dLen dCap ad sLen sCap hd hs cur t hg (cs.map (Value.int .u8)) (by rw[List.length_map];exact hn) hsrc' (by rw[List.length_map];exact hfit) (znA cs) ?_
   rw[List.length_map]
   refine h _ ?_ (zcL w g _)
   have:=setRow_heap w g cur (cur.toList.take off++(cs.map (Value.int .u8)++cur.toList.drop (off+cs.length))).toArray t (0,0) hg
   unfold Blk splice
   rw[List.length_map]
   exact this
theorem zfF {P:Program} {o:Oper} {a:Act} {w:World} {K:Act->World->Prop} {Q:Exit->Act->World->Prop} (ty:TypeId) (x y:Operand) (ho:o.op= .store ty x y) (hd:o.dst=none)
 (g off:Nat) (cells:Array Value) (hx:a.eval x= .pointer (some ⟨g,off,none⟩)) (hy:a.eval y= .agg cells) (t:TypeId) (cur:Array Value) (hg:Blk w g t cur)
 (hfit:off+cells.size<=cur.size) (hi:(P.info? ty).map (·.size)=some cells.size) (h1:cells.all (·.oneCell')=true)
 (h:K a (w.setRow g (cur.toList.take off++cells.toList++cur.toList.drop (off+cells.toList.length)).toArray)):o.wp P a w K Q:=by
 have hst:=run_storeCells_at P g off t cells.toList 0 cur w hg (by simpa using hfit) (fun v hv=>(Array.all_eq_true_iff_forall_mem.1 h1) v (by simpa using hv))
 simp only[Nat.add_zero]at hst
 have hv:(storeVar ty ⟨g,off,none⟩ (.agg cells)).run P w= .ok () (w.setRow g (cur.toList.take off++cells.toList++cur.toList.drop (off+cells.toList.length)).toArray):=by
  cases hq:P.info? ty with
  |none=>simp[hq]at hi
  |some i=>
    have hs:cells.size=i.size:=by simp[hq]at hi;omega
    simp[storeVar,sizeOf,typeInfo,hq,Value.cells,hs]
    simpa[hs]using hst
 unfold Oper.wp execOp
 simp only[ho,hx,hy,Instr.storeAt,Instr.sureAddr,Sem.run_bind,Sem.run_pure,Result.andThen_ok,hv]
 show K (a.put o.dst undef) _
 rw[hd]
 exact h
theorem Row.grown {w w':World} {a:Option Addr} {n g:Nat} {zs:List Int} (h:Row w a n zs) (hg:w.grownBy w' (some g)) (hne:0<n->∃b off,a=some ⟨b,off,none⟩/\ b≠g):Row w' a n zs:=by
 refine⟨h.1,h.2.1,fun h0=> ?_⟩
 obtain⟨b,off,e,hb,hc⟩:=h.2.2 h0
 obtain⟨b',off',e',hne'⟩:=hne h0
 rw[e]at e'
 obtain⟨rfl,rfl⟩:b=b'/\ off=off':=by simpa using e'
 exact⟨b,off,e,Nat.lt_of_lt_of_le hb hg.size,fun i hi=>(hg.cell (hc i hi) (by intro e;exact hne' (by simpa using e)))⟩
theorem Tab.grown {w w':World} {g:Nat} (h:Tab w) (hg:w.grownBy w' (some g)) (h2:1+1<=g):Tab w':=by
 obtain⟨h0,⟨t0,f0,k0⟩,t1,f1,k1⟩:=h
 exact⟨Nat.le_trans h0 hg.size,⟨t0,f0,(hg.block 0 (by omega) (by simp;omega)).trans k0⟩,t1,f1,(hg.block 1 (by omega) (by simp;omega)).trans k1⟩
theorem zej {a w w':World} {g:Nat} (h:a.grownBy w (some g)) (hb:Below w.heap.size w w'):a.grownBy w' (some g):=
 ⟨hb.os.trans h.os,hb.tape.trans h.tape,hb.output.trans h.output,Nat.le_trans h.size hb.size,fun k hk hne=>(hb.block k (Nat.lt_of_lt_of_le hk h.size)).trans (h.block k hk hne)⟩
theorem zdy (w:World) (g i:Nat) (v:Value):w.grownBy (w.setCell ⟨g,i,none⟩ v) (some g):=
 ⟨rfl,rfl,rfl,by simp,fun k hk hne=>heap_setCell_other w ⟨g,i,none⟩ k v (fun e=>hne (by simp[e]))⟩
def znB (w wr:World) (g:Nat) (T:List Int) (j:Nat):Prop:=
 ∃rs:List Int,rs.length=64/\ (∀x∈rs,0<=x/\ x<=255)/\ HBlk wr g (runV j H0 T) (T.length:Int) rs/\ w.grownBy wr (some g)/\ Tab wr
def zdm (w:World) (g:Nat) (a:Option Addr) (n:Nat) (zs:List Int):Prop:=Row w a n zs/\ (0<n->∃b off,a=some ⟨b,off,none⟩/\ b≠g)
theorem zdm.grown {w w':World} {g:Nat} {a:Option Addr} {n:Nat} {zs:List Int} (h:zdm w g a n zs) (hg:w.grownBy w' (some g)):zdm w' g a n zs:=⟨h.1.grown hg h.2,h.2⟩
theorem zdm.first {w:World} {g:Nat} {a:Option Addr} {n:Nat} {zs:List Int} (h:zdm w g a n zs) (k:Nat) (hk:k<=n):zdm w g a k (zs.take k):=⟨h.1.first k hk,fun h0=>h.2 (by omega)⟩
theorem zdm.rest {w:World} {g:Nat} {a:Option Addr} {n:Nat} {zs:List Int} (h:zdm w g a n zs) (k c:Nat) (hk:k<=n) (hc:n<=c):zdm w g (if c=k then a else a.map (·.add k)) (n-k) (zs.drop k):=by
 refine⟨h.1.rest k c hk hc,fun h0=> ?_⟩
 obtain⟨b,off,rfl,hne⟩:=h.2 (by omega)
 rw[if_neg (by omega)]
 exact⟨b,off+k,by rw[Option.map_some,Addr.add_lit],hne⟩
def zv0 (w:World) (g:Nat) (T:List Int) (e:Ending) (w':World):Prop:=e= .returned (.tuple #[])/\ zfc w' g T/\ w.grownBy w' (some g)
theorem zqV {w:World} {g:Nat} {s:V8} {m:Int} {rs:List Int} (h:HBlk w g s m rs) (m':Int):HBlk (w.setCell ⟨g,8,none⟩ (.int .u64 m')) g s m' rs:=by
 have:=Blk.set h 8 (.int .u64 m')
 rw[zik]at this
 exact this
theorem zjH {rs zs:List Int} {i k l:Nat} (h1:∀x∈rs,0<=x/\ x<=255) (h2:∀x∈zs,0<=x/\ x<=255):∀x∈rs.take i++zs++rs.drop l,0<=x/\ x<=255:=by
 intro x hx
 rcases List.mem_append.1 hx with hx|hx
 · rcases List.mem_append.1 hx with hx|hx
   · exact h1 x (List.mem_of_mem_take hx)
   · exact h2 x hx
 · exact h1 x (List.mem_of_mem_drop hx)
theorem ziR (g:Nat) (L:List Int) (a:Option Addr) (n ca:Nat) (zs:List Int) (w:World) (hh:zfc w g L) (hg2:1+1<=g) (hr:zdm w g a n zs) (hca:n<=ca) (ht:Tab w) (hl:L.length+n<=1000000):
 Calls Tryz.prog 111 #[.pointer (some ⟨g,0,none⟩),.slice a n ca] w (zv0 w g (L++zs)):=by
 obtain⟨rs,h64,hrb,hrt,hblk⟩:=hh
 have hzn:=hr.1.1
 have HR:=zwd hr
 have HB:=zwd hblk
 have HB1:=zwd (zqV hblk ((L.length:Int)+n))
 have HRT:=zwd hrt
 have HRB:=zwd hrb
 have TA:=zwd ht
 have c8:=(Blk.cell hblk 8).trans (zhJ _ _ _)
 have f8:=Blk.free hblk 8
 have G1:=zwd (zdy w g 8 (.int .u64 ((L.length:Int)+n)))
 have TL:(L++zs).length=L.length+n:=by rw[List.length_append,hzn]
 have RS:=zwd (fun h=>zoD (L:=L) (zs:=zs) h64 hrt h)
 have RF:=zwd (fun h=>zqU (L:=L) (zs:=zs) h64 hrt h)
 have PE:=zwd (fun(h:L.length%64=0)=>(zjG (L.length/64) H0 L zs (by omega)))
 have PD:=zwd (fun(h:L.length%64=0)=>(show(L++zs).drop (64*(L.length/64))=zs from by rw[show 64*(L.length/64)=L.length by omega,List.drop_left]))
 have LD:=zwd (show 64*(L.length/64)+L.length%64=L.length from by omega)
 have h64':L.length%64<64:=by omega
 generalize hhe:L.length%64=h at*
 generalize hqe:L.length/64=q at*
 have HH:=zwd hhe
 have HQ:=zwd hqe
 have e1:((L.length:Int)).tmod 64=(h:Int):=by
  rw[Int.tmod_eq_emod_of_nonneg (by omega)]
  omega
 have k1:IntKind.i64.wrap (h:Int)=(h:Int):=IntWalk.i64_in _ (by omega)
 have k2:IntKind.u64.wrap (n:Int)=(n:Int):=IntWalk.u64_in _ (by omega)
 have k3:IntKind.u64.wrap ((L.length:Int)+(n:Int))=(L.length:Int)+(n:Int):=IntWalk.u64_in _ (by omega)
 have hi64:(h:Int)<=64:=by omega
 have hne:¬64=h:=by omega
 generalize hT:L++zs=T at*
 have HT:=zwd hT
 clear hblk hrt ht hr hrb hhe hqe hT
 by_cases h0:h=0
 case' pos=>
  subst h0
  have IL:Hid (znB w (w.setCell ⟨g,8,none⟩ (.int .u64 ((L.length:Int)+n))) g T q):=by
   refine zwd ⟨rs,h64,HRB.out,?_,G1.out,TA.out.grown G1.out hg2⟩
   rw[PE.out rfl,TL,Int.natCast_add]
   exact HB1.out
  have AP:=HR.out.grown G1.out
  have HAP:Hid (zdm (w.setCell ⟨g,8,none⟩ (.int .u64 ((L.length:Int)+n))) g a n (T.drop (64*q))):=by
   rw[PD.out rfl]
   exact zwd AP
  have JN:64*q+n=T.length:=by have:=LD.out;omega
  have NC:n<=ca:=hca
  clear AP HB1 HB PE PD RS RF HR
  go_enter Tryz.func111,Tryz.ntmps111
  go_wp2_with fail
  generalize w.setCell ⟨g,8,none⟩ (.int .u64 ((L.length:Int)+n))=w4 at*
 case' neg=>
  have t0:decide ((0:Int)<(h:Int))=true:=by simp;omega
  have hb1:=zcE (runV q H0 L) ((L.length:Int)+n) rs h64
  by_cases hs:h+n<64
  case pos=>
   have t1:decide ((h:Int)+(n:Int)<64)=true:=by simp;omega
   have k4:IntKind.i64.wrap ((h:Int)+(n:Int))=(h:Int)+(n:Int):=IntWalk.i64_in _ (by omega)
   have CS:Hid (0<zs.length->∃ad,a=some ad/\ ∀j v,(zs.map (Value.int .u8))[j]?=some v->(w.setCell ⟨g,8,none⟩ (.int .u64 ((L.length:Int)+n))).cell? (ad.add j)=some v):=zwd (fun hz=>by
    obtain⟨b,off,e,_⟩:=HR.out.2 (by omega)
    subst e
    exact⟨_,rfl,(HR.out.grown G1.out).1.cells⟩)
   obtain⟨s1,s2,s3,s4⟩:=RS.out (by omega)
   have S1:=zwd s1
   have S3:=zwd s3
   have S4:=zwd s4
   have SR:=zwd (zdr (runV q H0 L) ((L.length:Int)+n) rs zs h (by omega))
   have MN:Hid (zs.length=Nat.min n (64-h)):=zwd (by rw[hzn];exact(Nat.min_eq_left (by omega)).symm)
   have BM:=zwd (zjH (i:=h) (k:=0) (l:=h+zs.length) HRB.out HR.out.1.2.1)
   have PE1:=zwd (fun(hh:64*q<=L.length)=>(zjG q H0 L zs hh).trans (by rfl))
   rw[HT.out]at PE1
   clear s1 s2 s3 s4 RS RF PE PD HB
   go_enter Tryz.func111,Tryz.ntmps111
   go_wp2_with (refine zei rfl _ _ rfl g (9+h) (64-h) (64-h) a n ca rfl rfl (zaU (runV q H0 L) ((L.length:Int)+n) rs) 176 HB1.out zs MN.out CS.out (by omega) ?_;intro w2 hb2 hg2';have HB2:=zwd hb2;have G2:=zwd (World.grownBy.trans G1.out hg2');clear hb2 hg2';rw[hzn])
   go_end0
   refine⟨rfl,⟨_,S4.out,BM.out,S3.out,?_⟩,G2.out⟩
   rw[S1.out,PE1.out (by have:=LD.out;omega),TL,Int.natCast_add]
   have e:=HB2.out
   rw[SR.out]at e
   exact e
  case' neg=>
   have t1:decide ((h:Int)+((64-h:Nat):Int)<64)=false:=by simp;omega
   have k4:IntKind.i64.wrap ((h:Int)+((64-h:Nat):Int))=64:=by rw[show(h:Int)+((64-h:Nat):Int)=64 by omega];exact IntWalk.i64_in _ (by omega)
   obtain⟨bb,off,rfl,hbne⟩:=HR.out.2 (by omega)
   obtain⟨s1,s2,s3,s4⟩:=RF.out (by omega)
   have SR:=zdr (runV q H0 L) ((L.length:Int)+n) rs (zs.take (64-h)) h (by rw[List.length_take];omega)
   have BM:=zwd (zjH (i:=h) (k:=0) (l:=h+(zs.take (64-h)).length) HRB.out (fun x hx=>HR.out.1.2.1 x (List.mem_of_mem_take (i:=64-h) hx)))
   have MN:(zs.take (64-h)).length=64-h:=by rw[List.length_take];omega
   have CS:Hid (0<(zs.take (64-h)).length->∃ad,(some ⟨bb,off,none⟩:Option Addr)=some ad/\ ∀j v,((zs.take (64-h)).map (Value.int .u8))[j]?=some v->(w.setCell ⟨g,8,none⟩ (.int .u64 ((L.length:Int)+n))).cell? (ad.add j)=some v):=zwd (fun hz=>by
    exact⟨_,rfl,((HR.out.grown G1.out).1.first (64-h) (by omega)).cells⟩)
   generalize hc1:zs.take (64-h)=c1 at*
   generalize hR:rs.take h++c1++rs.drop (h+c1.length)=R at*
   have S2:=zwd s2
   have S3:=zwd s3
   have S4:=zwd s4
   have SRR:=zwd SR
   have MM:Hid (c1.length=Nat.min n (64-h)):=zwd (by rw[MN];exact(Nat.min_eq_right (by omega)).symm)
   have HMN:=zwd MN
   have OK:=zwd (znz q L zpy)
   clear s1 s2 s3 s4 RS RF PE PD HB SR hc1 hR
   have hc1l:h+c1.length=64:=by omega
   go_enter Tryz.func111,Tryz.ntmps111
   go_wp2_with (refine zei rfl _ _ rfl g (9+h) (64-h) (64-h) (some ⟨bb,off,none⟩) n ca rfl rfl (zaU (runV q H0 L) ((L.length:Int)+n) rs) 176 HB1.out c1 MM.out CS.out (by omega) ?_;intro w2 hb2 hg2';have HB2:=zwd hb2;have G2:=zwd (World.grownBy.trans G1.out hg2');clear hb2 hg2';rw[HMN.out])
   have HB3:Hid (HBlk w2 g (runV q H0 L) ((L.length:Int)+n) R):=by
    have e:=HB2.out
    rw[SRR.out]at e
    exact zwd e
   clear HB2 HB1 SRR
   generalize runV q H0 L=s at*
   refine zaa (fun _ _=>True) (fun _=>trivial) (fun _ _ _ _ _=>trivial) ((0,false)::(1,false)::(2,false)::(3,false)::(5,false)::(6,false)::(7,false)::(8,false)::(4,true)::(9,true)::(10,false)::(11,false)::(12,true)::[]) (by kernel_rfl) (by kernel_rfl) rfl (by kernel_rfl) (fun _ _ _ _ _ h=>h) ?_
   repeat(refine zab _ rfl (by rfl) (fun W hW=>by go_simp;first|done|rfl) ?_;simp only[Act.put,zwe,zwg,zwf])
   refine zad rfl (by rfl) (fun K1 hK1=> ?_)
   refine wp_load_mid 173 (.tmp 38) rfl g 0 rfl s.cells.toList (.array 8 22) (show HBlk w2.drew g s ((L.length:Int)+n) R from HB3.out).range Tryz.underlying173 rfl (Tryz.size41 s) ?_
   refine hK1 _ _ trivial ?_
   clear hK1 K1
   simp only[Act.put,zwe,zwg,zwf]
   refine zad rfl (by rfl) (fun K1 hK1=> ?_)
   go_simp
   have R2:Hid (Row w2.drew (some ⟨g,9,none⟩) 64 R):=zwd ((show HBlk w2.drew g s ((L.length:Int)+n) R from HB3.out).row S4.out BM.out)
   have T2:Hid (Tab w2.drew):=zwd (show Tab w2 from TA.out.grown G2.out hg2)
   have WM:Hid (w.grownBy w2.drew (some g)):=zwd (show w.grownBy w2.drew (some g)from {G2.out with})
   refine(zkk s OK.out (some ⟨g,9,none⟩) 64 R w2.drew R2.out (Nat.le_refl _) T2.out).mono ?_
   rintro e w3 ⟨rfl,hb3⟩
   have HB4:Hid (HBlk w3 g s ((L.length:Int)+n) R):=zwd (Blk.below (show HBlk w2.drew g s ((L.length:Int)+n) R from HB3.out) hb3 (Blk.lt (show HBlk w2.drew g s ((L.length:Int)+n) R from HB3.out)))
   have G3:Hid (w.grownBy w3 (some g)):=zwd (zej WM.out hb3)
   refine hK1 _ _ trivial ?_
   clear hK1 K1 hb3 R2 T2 WM G2 HB3
   repeat(refine zab _ rfl (by rfl) (fun W hW=>by go_simp;first|done|rfl) ?_;simp only[Act.put,zwe,zwg,zwf])
   refine zad rfl (by rfl) (fun K1 hK1=> ?_)
   refine zfF 173 (.tmp 46) (.tmp 44) rfl rfl g 0 (zbC s R).cells rfl rfl 176 (zaU s ((L.length:Int)+n) R) HB4.out (by rw[zcE _ _ _ S4.out];show 0+8<=73;omega) (Tryz.size41 _) (zfl _) ?_
   refine hK1 _ _ trivial ?_
   clear hK1 K1
   refine zai ?_
   have IL:Hid (znB w (w3.setRow g ((zaU s ((L.length:Int)+n) R).toList.take 0++(zbC s R).cells.toList++(zaU s ((L.length:Int)+n) R).toList.drop (0+(zbC s R).cells.toList.length)).toArray) g T (q+1)):=by
    rw[zeh]
    have g4:=World.grownBy.trans G3.out (zcL w3 g (zaU (zbC s R) ((L.length:Int)+n) R))
    refine zwd ⟨R,S4.out,BM.out,?_,g4,TA.out.grown g4 hg2⟩
    rw[S2.out,TL,Int.natCast_add]
    exact setRow_heap _ _ _ _ _ _ HB4.out
   generalize(w3.setRow g ((zaU s ((L.length:Int)+n) R).toList.take 0++(zbC s R).cells.toList++(zaU s ((L.length:Int)+n) R).toList.drop (0+(zbC s R).cells.toList.length)).toArray)=w4 at*
   have g4:=IL.out
   obtain⟨_,_,_,_,g4,_⟩:=g4
   have AP:=(HR.out.grown g4).rest (64-h) ca (by omega) hca
   rw[S3.out]at AP
   obtain⟨A1,hA1⟩:∃A1:Option Addr,(if ca=64-h then some (⟨bb,off,none⟩:Addr)else some ⟨bb,off+(64-h),none⟩)=A1:=⟨_,rfl⟩
   rw[Option.map_some,Addr.add_lit,hA1]at AP
   have HAP:=zwd AP
   clear AP g4 G3 HB4 HR
   have kl:(((64-h:Nat)):Int)<=(n:Int):=by omega
   have kc:(((64-h:Nat)):Int)<=(ca:Int):=by omega
   have kn:(0:Int)<=((64-h:Nat):Int):=by omega
   have JN:64*(q+1)+(n-(64-h))=T.length:=by have:=LD.out;omega
   have NC:n-(64-h)<=ca-(64-h):=by omega
   go_wp2_with fail
 all_goals
  go_loopw [1] (fun b wr=>∃(j:Nat) (A:Option Addr) (m c:Nat),b= .slice A m c/\ m<=c/\ 64*j+m=T.length/\ znB w wr g T j/\ zdm wr g A m (T.drop (64*j))) (fun b _=>lenS b)
  case atStart=>exact⟨_,_,_,_,rfl,NC,JN,IL.out,HAP.out⟩
  case round=>
   obtain⟨j,A,m,c,rfl,hmc,hjm,hil,hap⟩:=hrel
   obtain⟨ss,l64,ssb,hblk,hgr,htab⟩:=hil
   have HB:=zwd hblk
   have SSB:=zwd ssb
   have GR:=zwd hgr
   have TB:=zwd htab
   have AP:=zwd hap
   have OK:=zwd (znz j T zpy)
   clear hblk ssb hgr htab hap
   by_cases hm:64<=m
   · obtain⟨bb,off,rfl,hbn⟩:=AP.out.2 (by omega)
     have t0:decide ((64:Int)<=(m:Int))=true:=by simp;omega
     have km:(64:Int)<=(m:Int):=by omega
     have kc:(64:Int)<=(c:Int):=by omega
     have RL:=zwd (zhK j H0 T)
     have DN:=zwd (zqT T j)
     generalize hs1:runV (j+1) H0 T=s1 at*
     have RS1:=zwd hs1
     clear hs1
     have kc':64<=c:=by omega
     generalize runV j H0 T=s at*
     generalize T.drop (64*j)=D at*
     go_wp2_with fail
     refine zaa (fun _ _=>True) (fun _=>trivial) (fun _ _ _ _ _=>trivial) ((0,false)::(1,false)::(2,false)::(3,false)::(5,false)::(6,false)::(4,true)::(7,true)::(8,false)::(9,false)::(10,true)::[]) (by kernel_rfl) (by kernel_rfl) rfl (by kernel_rfl) (fun _ _ _ _ _ h=>h) ?_
     repeat(refine zab _ rfl (by rfl) (fun W hW=>by go_simp;first|done|rfl) ?_;simp only[Act.put,zwe,zwg,zwf])
     refine zad rfl (by rfl) (fun K1 hK1=> ?_)
     refine wp_load_mid 173 (.tmp 56) rfl g 0 rfl s.cells.toList (.array 8 22) (show HBlk wr.drew g s (T.length:Int) ss from HB.out).range Tryz.underlying173 rfl (Tryz.size41 s) ?_
     refine hK1 _ _ trivial ?_
     clear hK1 K1
     simp only[Act.put,zwe,zwg,zwf]
     have R2:Hid (Row wr.drew (some ⟨bb,off,none⟩) 64 (D.take 64)):=zwd ((AP.out.first 64 hm).1.drewN 1)
     have T2:Hid (Tab wr.drew):=zwd (show Tab wr.drew from TB.out)
     have WM:Hid (w.grownBy wr.drew (some g)):=zwd (show w.grownBy wr.drew (some g)from {GR.out with})
     have WD:Hid (wr.grownBy wr.drew (some g)):=zwd (show wr.grownBy wr.drew (some g)from {World.grownBy.refl wr (some g)with})
     refine zad rfl (by rfl) (fun K1 hK1=> ?_)
     go_simp
     refine(zkk s OK.out (some ⟨bb,off,none⟩) c (D.take 64) wr.drew R2.out kc' T2.out).mono ?_
     rintro e w3 ⟨rfl,hb3⟩
     have HB4:Hid (HBlk w3 g s (T.length:Int) ss):=zwd (Blk.below (show HBlk wr.drew g s (T.length:Int) ss from HB.out) hb3 (Blk.lt (show HBlk wr.drew g s (T.length:Int) ss from HB.out)))
     have G3:Hid (w.grownBy w3 (some g)):=zwd (zej WM.out hb3)
     have D3:Hid (wr.grownBy w3 (some g)):=zwd (zej WD.out hb3)
     refine hK1 _ _ trivial ?_
     clear hK1 K1 hb3 R2 T2 WM WD HB
     repeat(refine zab _ rfl (by rfl) (fun W hW=>by go_simp;first|done|rfl) ?_;simp only[Act.put,zwe,zwg,zwf])
     refine zad rfl (by rfl) (fun K1 hK1=> ?_)
     refine zfF 173 (.tmp 62) (.tmp 60) rfl rfl g 0 (zbC s (D.take 64)).cells rfl rfl 176 (zaU s (T.length:Int) ss) HB4.out (by rw[zcE _ _ _ l64];show 0+8<=73;omega) (Tryz.size41 _) (zfl _) ?_
     refine hK1 _ _ trivial ?_
     clear hK1 K1
     refine zai ?_
     have IL2:Hid (znB w (w3.setRow g ((zaU s (T.length:Int) ss).toList.take 0++(zbC s (D.take 64)).cells.toList++(zaU s (T.length:Int) ss).toList.drop (0+(zbC s (D.take 64)).cells.toList.length)).toArray) g T (j+1)/\ wr.grownBy (w3.setRow g ((zaU s (T.length:Int) ss).toList.take 0++(zbC s (D.take 64)).cells.toList++(zaU s (T.length:Int) ss).toList.drop (0+(zbC s (D.take 64)).cells.toList.length)).toArray) (some g)):=by
      rw[zeh]
      have g4:=World.grownBy.trans G3.out (zcL w3 g (zaU (zbC s (D.take 64)) (T.length:Int) ss))
      refine zwd ⟨⟨ss,l64,SSB.out,?_,g4,TA.out.grown g4 hg2⟩,World.grownBy.trans D3.out (zcL w3 g _)⟩
      rw[RS1.out,RL.out]
      exact setRow_heap _ _ _ _ _ _ HB4.out
     generalize(w3.setRow g ((zaU s (T.length:Int) ss).toList.take 0++(zbC s (D.take 64)).cells.toList++(zaU s (T.length:Int) ss).toList.drop (0+(zbC s (D.take 64)).cells.toList.length)).toArray)=w5 at*
     have AP2:=(AP.out.grown IL2.out.2).rest 64 c hm hmc
     rw[DN.out]at AP2
     obtain⟨A1,hA1⟩:∃A1:Option Addr,(if c=64 then some (⟨bb,off,none⟩:Addr)else some ⟨bb,off+64,none⟩)=A1:=⟨_,rfl⟩
     rw[Option.map_some,Addr.add_lit,hA1]at AP2
     have HAP2:=zwd AP2
     clear AP2 G3 D3 HB4 AP SSB GR TB RL DN
     go_wp2_with fail
     go_roundw
     case rel=>exact⟨j+1,_,_,_,rfl,by omega,by omega,IL2.out.1,HAP2.out⟩
     case measure=>simp only[lenS];omega
   · have t0:decide ((64:Int)<=(m:Int))=false:=by simp;omega
     obtain⟨s1,s2,s3,s4⟩:=zti (T:=T) (rs:=ss) l64 hjm (by omega)
     have S1:=zwd s1
     have S3:=zwd s3
     have S4:=zwd s4
     have AL:=AP.out.1.1
     have SRR:=zwd (zdr (runV j H0 T) (T.length:Int) ss (T.drop (64*j)) 0 (by omega))
     have BM:=zwd (zjH (i:=0) (k:=0) (l:=0+(T.drop (64*j)).length) SSB.out AP.out.1.2.1)
     have MM:Hid ((T.drop (64*j)).length=Nat.min m 64):=zwd (by rw[AL];exact(Nat.min_eq_left (by omega)).symm)
     have HAL:=zwd AL
     have CS2:Hid (0<(T.drop (64*j)).length->∃ad,A=some ad/\ ∀i v,((T.drop (64*j)).map (Value.int .u8))[i]?=some v->wr.cell? (ad.add i)=some v):=zwd (fun hz=>by
      obtain⟨b,off,e,_⟩:=AP.out.2 (by omega)
      have ap:=AP.out
      subst e
      exact⟨_,rfl,ap.1.cells⟩)
     have hsz:=zcE (runV j H0 T) (T.length:Int) ss l64
     clear s1 s2 s3 s4
     generalize hD:T.drop (64*j)=D at*
     clear hD
     generalize hs1:runV j H0 T=s at*
     have HS1:=zwd hs1
     clear hs1
     go_wp2_with (refine zei rfl _ _ rfl g (9+0) 64 64 A m c rfl rfl (zaU s (T.length:Int) ss) 176 HB.out D MM.out CS2.out (by omega) ?_;intro w6 hb6 hg6;have HB6:=zwd hb6;have G6:=zwd (World.grownBy.trans GR.out hg6);clear hb6 hg6;rw[HAL.out])
     go_end0
     refine⟨rfl,⟨_,S4.out,BM.out,S3.out,?_⟩,G6.out⟩
     rw[S1.out,HS1.out]
     have e:=HB6.out
     rw[SRR.out]at e
     exact e
def zbc (l:List Int):Array Value:=((l++List.replicate (32-l.length) 0).map (Value.int .u8)).toArray
def Z32:Array Value:=(List.replicate 32 (Value.int .u8 0)).toArray
theorem zdW (l:List Int) (h:l.length<=32):(zbc l).size=32:=by
 unfold zbc
 simp
 omega
theorem zdz (l:List Int) (x:Int) (k:Nat) (hk:k=l.length) (h:l.length<32):(zbc l).setIfInBounds k (.int .u8 x)=zbc (l++[x]):=by
 subst hk
 unfold zbc
 apply Array.ext'
 rw[Array.toList_setIfInBounds,List.length_append,List.length_singleton]
 show((l++List.replicate (32-l.length) 0).map (Value.int .u8)).set l.length (.int .u8 x)=(l++[x]++List.replicate (32-(l.length+1)) 0).map (Value.int .u8)
 rw[<-List.map_set,List.set_append_right _ _ (Nat.le_refl _),Nat.sub_self,show 32-l.length=(32-(l.length+1))+1 by omega,List.replicate_succ,zwg,List.append_assoc]
 rfl
theorem zc4 (l:List Int) (i:Nat) (h:i<32):(zbc l)[i]?=some (.int .u8 (l[i]?.getD 0)):=by
 unfold zbc
 rw[List.getElem?_toArray,List.getElem?_map,List.getElem?_append]
 split
 · rename_i hi
   rw[List.getElem?_eq_getElem hi]
   rfl
 · rename_i hi
   rw[List.getElem?_replicate,if_pos (by omega),List.getElem?_eq_none (by omega)]
   rfl
theorem zgc (l:List Int):(zbc l).all (·.oneCell')=true:=by
 unfold zbc
 exact all_oneCell_toArray (znA _)
theorem Tryz.size24 (l:List Int) (h:l.length<=32):(Tryz.prog.info? 100).map (·.size)=some (zbc l).size:=by
 rw[zdW l h]
 kernel_rfl
theorem be4 (x:Int):beZ 4 x=[x/16777216%256,x/65536%256,x/256%256,x%256]:=by
 have e:beZ 4 x=[x/256^3%256,x/256^2%256,x/256^1%256,x/256^0%256]:=rfl
 rw[e,show(256:Int)^3=16777216 by rfl,show(256:Int)^2=65536 by rfl,show(256:Int)^1=256 by rfl,show(256:Int)^0=1 by rfl,Int.ediv_one]
theorem ztj (g:Nat) (l:List Int) (o n c:Nat) (x:Int) (w:World) (hb:Blk w g 100 (zbc l)) (ho:o=l.length) (hl:l.length+4<=32) (hn:4<=n):Calls Tryz.prog 163 #[.slice (some ⟨g,o,none⟩) n c,.int .u32 x] w fun e w'=>e= .returned (.tuple #[])/\ Blk w' g 100 (zbc (l++beZ 4 x))/\ w.grownBy w' (some g):=by
 subst ho
 have c0:=(hb.cell l.length).trans (zc4 l l.length (by omega))
 have c1:=(hb.cell (l.length+1)).trans (zc4 l (l.length+1) (by omega))
 have c2:=(hb.cell (l.length+2)).trans (zc4 l (l.length+2) (by omega))
 have c3:=(hb.cell (l.length+3)).trans (zc4 l (l.length+3) (by omega))
 have f0:=hb.free l.length
 have f1:=hb.free (l.length+1)
 have f2:=hb.free (l.length+2)
 have f3:=hb.free (l.length+3)
 have F:Hid (∀y0 y1 y2 y3:Int,y0=x/16777216%256->y1=x/65536%256->y2=x/256%256->y3=x%256->Blk ((((w.setCell ⟨g,l.length,none⟩ (.int .u8 y0)).setCell ⟨g,l.length+1,none⟩ (.int .u8 y1)).setCell ⟨g,l.length+2,none⟩ (.int .u8 y2)).setCell ⟨g,l.length+3,none⟩ (.int .u8 y3)) g 100 (zbc (l++beZ 4 x))/\
  w.grownBy ((((w.setCell ⟨g,l.length,none⟩ (.int .u8 y0)).setCell ⟨g,l.length+1,none⟩ (.int .u8 y1)).setCell ⟨g,l.length+2,none⟩ (.int .u8 y2)).setCell ⟨g,l.length+3,none⟩ (.int .u8 y3)) (some g)):=by
  refine zwd ?_
  rintro _ _ _ _ rfl rfl rfl rfl
  refine⟨?_,((((zdy w g _ _).trans (zdy _ g _ _)).trans (zdy _ g _ _)).trans (zdy _ g _ _))⟩
  have b1:=hb.set l.length (.int .u8 (x/16777216%256))
  rw[zdz l _ _ rfl (by omega)]at b1
  have b2:=b1.set (l.length+1) (.int .u8 (x/65536%256))
  rw[zdz _ _ _ (by simp) (by simp;omega)]at b2
  have b3:=b2.set (l.length+2) (.int .u8 (x/256%256))
  rw[zdz _ _ _ (by simp) (by simp;omega)]at b3
  have b4:=b3.set (l.length+3) (.int .u8 (x%256))
  rw[zdz _ _ _ (by simp) (by simp;omega)]at b4
  rw[be4]
  simpa using b4
 have k0:(0:Int)<(n:Int):=by omega
 have k1:(1:Int)<(n:Int):=by omega
 have k2:(2:Int)<(n:Int):=by omega
 have k3:(3:Int)<(n:Int):=by omega
 clear hb
 go_enter Tryz.func163,Tryz.ntmps163
 go_wp2_with fail
 go_end0
 exact⟨rfl,F.out _ _ _ _ rfl rfl rfl rfl⟩
def outK (v:V8) (k:Nat):List Int:=(v.list.take k).flatMap fun x=>beZ 4 x
theorem ztk (v:V8) (k:Nat) (h:k<=8):(outK v k).length=4*k:=by
 rcases k with _|_|_|_|_|_|_|_|_|k
 all_goals first|rfl|omega
theorem zqW (v:V8) (k:Nat) (h:k<8):outK v (k+1)=outK v k++beZ 4 (v.list[k]?.getD 0):=by
 unfold outK
 have hl:k<v.list.length:=h
 rw[List.take_add_one,List.flatMap_append,List.getElem?_eq_getElem hl]
 simp
theorem ztl (v:V8):outK v 8=outV v:=rfl
theorem zdX (zs:List Int):(zbV zs).length=32:=by
 unfold zbV outV V8.list
 simp[zbH]
theorem zek (zs:List Int):∀x∈zbV zs,0<=x/\ x<=255:=by
 intro x hx
 unfold zbV outV at hx
 obtain⟨y,_,hy⟩:=List.mem_flatMap.1 hx
 exact zex 4 y x hy
def zhL (zs:List Int) (w:World) (e:Ending) (w':World):Prop:=e= .returned (.agg (zbc zs))/\ Below w.heap.size w w'
def zil (w wr:World) (S:Nat) (l:List Int):Prop:=Blk wr w.heap.size 100 Z32/\ Blk wr S 100 (zbc l)/\ Below w.heap.size w wr
theorem Tryz.size45 (s:V8) (m:Int) (rs:List Int) (h:rs.length=64):(Tryz.prog.info? 176).map (·.size)=some (zaU s m rs).size:=by
 rw[zcE _ _ _ h]
 kernel_rfl
theorem zoE (s:V8) (m:Int) (rs:List Int):(zaU s m rs).all (·.oneCell')=true:=by
 unfold zaU
 refine all_oneCell_toArray ?_
 intro v hv
 rcases List.mem_append.1 hv with hv|hv
 · exact(Array.all_eq_true_iff_forall_mem.1 (zfl s)) v (by simpa using hv)
 · rcases List.mem_cons.1 hv with rfl|hv
   · rfl
   · exact znA rs v hv
theorem zqX (v:V8) (k:Nat) (h:k<8) (W:World):(Instr.index 173 (.agg v.cells) (.int .i64 (k:Int))).run Tryz.prog W= .ok (.int .u32 (v.list[k]?.getD 0)) W:=by
 obtain⟨a,b,c,d,e,f,g,hh⟩:=v
 rcases k with _|_|_|_|_|_|_|_|k
 all_goals first
  |(exfalso;omega)
  |(simp only[V8.cells,V8.list];kernel_rfl)
theorem zil.next {w wr w':World} {S:Nat} {v:V8} {k:Nat} (h:zil w wr S (outK v k)) (hk:k<8) (hS:w.heap.size<S) (hb:Blk w' S 100 (zbc (outK v k++beZ 4 (v.list[k]?.getD 0)))) (hg:wr.grownBy w' (some S)):zil w w' S (outK v (k+1)):=by
 refine⟨(hg.block _ (Blk.lt h.1) (by simp;omega)).trans h.1,?_,h.2.2.grown hg h.2.2.size (fun j e=>by simp at e;omega)⟩
 rw[zqW v k hk]
 exact hb
def zim:Array Value:=zaU Z8 0 (List.replicate 64 0)
def zvI (w wr:World) (g:Nat) (L:List Int):Prop:=Blk wr w.heap.size 100 Z32/\ zfc wr (w.heap.size+1) L/\ Below w.heap.size w wr/\ w.heap.size+1<wr.heap.size
theorem zla {w:World} {g:Nat} {L rs:List Int} (h64:rs.length=64) (hrb:∀x∈rs,0<=x/\ x<=255) (hrt:rs.take (L.length%64)=L.drop (64*(L.length/64))):
 Blk ((w.alloc (.cells Z32 100)).alloc (.cells zim 176)) (w.heap.size+1) 176 zim/\ zvI w (((w.alloc (.cells Z32 100)).alloc (.cells zim 176)).setRow (w.heap.size+1) (zaU (runV (L.length/64) H0 L) (L.length:Int) rs)) g L:=by
 have hs:(w.alloc (.cells Z32 100)).heap.size=w.heap.size+1:=by simp
 have h2:=Blk.new (w.alloc (.cells Z32 100)) 176 zim
 rw[hs]at h2
 refine⟨h2,(setRow_other _ _ _ _ (by omega)).trans ((Blk.new w _ _).alloc _),⟨rs,h64,hrb,hrt,setRow_heap _ _ _ _ _ _ h2⟩,below_setRow (((Below.refl _ _).alloc (Nat.le_refl _) _).alloc (by rw[hs];omega) _) (by omega) _,?_⟩
 show _<(World.setRow _ _ _).heap.size
 simp[World.setRow]
theorem zuQ (g:Nat) (L:List Int) (w:World) (hh:zfc w g L) (ht:Tab w) (hl:L.length<=100000):
 Calls Tryz.prog 112 #[.pointer (some ⟨g,0,none⟩)] w (zhL (zbV L) w):=by
 obtain⟨rs,h64,hrb,hrt,hblk⟩:=hh
 have hlt:=Blk.lt hblk
 have BR:Below w.heap.size w (w.alloc (.cells Z32 100)):=(Below.refl _ _).alloc (Nat.le_refl _) _
 have HB:=zwd (Blk.below hblk BR hlt)
 have HH:=zwd hblk
 have CS:=zwd (zla (w:=w) (g:=g) h64 hrb hrt)
 have TA:=zwd ht
 clear hblk hrb hrt ht BR
 generalize hC:zaU (runV (L.length/64) H0 L) (L.length:Int) rs=C at*
 have S45:Hid ((Tryz.prog.info? 176).map (·.size)=some C.size):=by rw[<-hC];exact zwd (Tryz.size45 _ _ _ h64)
 have SZ:Hid (zim.size=C.size):=by rw[<-hC,zcE _ _ _ h64];exact zwd rfl
 have ONE:Hid (C.all (·.oneCell')=true):=by rw[<-hC];exact zwd (zoE _ _ _)
 have CM:Hid (C[8]?=some (.int .u64 (L.length:Int))):=by rw[<-hC];exact zwd (zhJ _ _ _)
 have HH2:Hid (Blk w g 176 C):=by rw[<-hC];exact zwd HH.out
 clear hC HH
 have CS1:Hid (Blk ((w.alloc (.cells Z32 100)).alloc (.cells zim 176)) (w.alloc (.cells Z32 100)).heap.size 176 zim):=zwd (Blk.new _ _ _)
 have K3:=zwd CS.out.2
 have d8:=(K3.out.2.2.1.cell (p:=⟨g,8,none⟩) hlt).trans ((Blk.cell HH2.out 8).trans CM.out)
 go_enter Tryz.func112,Tryz.ntmps112
 go_wp2_with (first
  |(refine Great.wpList_allocTo rfl (some 2) rfl (.pointer (some ⟨w.heap.size,0,none⟩)) (.cells Z32 100) rfl ?_)
  |(refine wpList_load_row rfl 176 (.tmp 8) rfl g rfl 176 C (0,0) _ HB.out Tryz.underlying176 rfl S45.out ?_)
  |(refine Great.wpList_allocTo rfl (some 3) rfl (.pointer (some ⟨(w.alloc (.cells Z32 100)).heap.size,0,none⟩)) (.cells zim 176) rfl ?_)
  |(refine wpList_store_rowTo rfl 176 (.tmp 3) (.tmp 9) rfl rfl (w.alloc (.cells Z32 100)).heap.size C rfl rfl 176 zim CS1.out S45.out SZ.out ONE.out ?_))
 generalize(((w.alloc (.cells Z32 100)).alloc (.cells zim 176)).setRow (w.heap.size+1) C)=w3 at*
 clear d8 CS CS1 S45 SZ ONE CM HH2 HB
 refine(zmb L.length w3 (by omega)).mono ?_
 rintro e w4 ⟨V,rfl,ho⟩
 have hp9:0<(padZ L.length).length:=by unfold padZ;simp
 have hpl:(padZ L.length).length<=200:=by
  have:=zmT L.length
  unfold padZ
  simp only[List.length_append,List.length_cons,List.length_nil,List.length_replicate,zbH]
  omega
 obtain⟨gp,cap,rfl,hge⟩:=ho.form hp9
 have hpb:∀x∈padZ L.length,0<=x/\ x<=255:=by
  intro x hx
  unfold padZ at hx
  rcases List.mem_append.1 hx with hx|hx
  · rcases List.mem_append.1 hx with hx|hx
    · simp at hx
      omega
    · have:=List.eq_of_mem_replicate hx
      omega
  · exact zex _ _ x hx
 have hcap:=zaJ ho.1
 have hrow:Row w4 (some ⟨gp,0,none⟩) (padZ L.length).length (padZ L.length):=Row.of_own ho.1 hpb
 have hb4:=ho.2
 have hP:=K3.out.2.2.2
 have T3:=TA.out.below K3.out.2.2.1
 have TW:=zwd (T3.below hb4)
 have H4:=zwd (K3.out.2.1.below hb4)
 have A4:=zwd (Blk.below K3.out.1 hb4 (by omega))
 have B4:=zwd (Below.step K3.out.2.2.1 hb4)
 have AP:=zwd (show zdm w4 (w.heap.size+1) (some ⟨gp,0,none⟩) (padZ L.length).length (padZ L.length)from⟨hrow,fun _=>⟨gp,0,rfl,by omega⟩⟩)
 have h2:=TA.out.1
 have FI:=zwd (zuO L)
 clear ho hrow hb4 T3 K3 hpb hp9 hP
 generalize padZ L.length=pz at*
 go_wp2_with fail
 refine(ziR (w.heap.size+1) L (some ⟨gp,0,none⟩) pz.length cap pz w4 H4.out (by omega) AP.out hcap TW.out (by omega)).mono ?_
 rintro e w5 ⟨rfl,hh5,hg5⟩
 have A5:Hid (Blk w5 w.heap.size 100 Z32):=zwd ((hg5.block _ (Blk.lt A4.out) (by simp)).trans A4.out)
 have B5:Hid (Below w.heap.size w w5):=zwd (B4.out.grown hg5 B4.out.size (fun k e=>by simp at e;omega))
 rw[<-FI.out]at hh5
 obtain⟨r5,k64,-,-,hk⟩:=hh5
 have HX:Hid (zbV L=outV (runV ((zdI L).length/64) H0 (zdI L))):=zwd rfl
 have L32:=zdX L
 generalize zbV L=hz at*
 generalize runV ((zdI L).length/64) H0 (zdI L)=v at*
 generalize((zdI L).length:Int)=fl at*
 have P5:=zwd hk
 have hP5:=Blk.lt hk
 clear hk hg5 A4 B4 AP TW H4 hcap FI h2
 have A6:Hid (Blk (w5.alloc (.cells Z32 100)) w.heap.size 100 Z32):=zwd (A5.out.alloc _)
 have P6:Hid (HBlk (w5.alloc (.cells Z32 100)) (w.heap.size+1) v fl r5):=zwd (Blk.alloc P5.out _)
 have S6:Hid (Blk (w5.alloc (.cells Z32 100)) w5.heap.size 100 Z32):=zwd (Blk.new _ _ _)
 have B6:Hid (Below w.heap.size w (w5.alloc (.cells Z32 100))):=zwd (B5.out.alloc B5.out.size _)
 go_wp2_with (first
  |(refine Great.wpList_allocTo rfl (some 4) rfl (.pointer (some ⟨w5.heap.size,0,none⟩)) (.cells Z32 100) rfl ?_)
  |(refine wpList_load_mid rfl 173 (.tmp 16) rfl (w.heap.size+1) 0 rfl v.cells.toList (.array 8 22) P6.out.range Tryz.underlying173 rfl (Tryz.size41 v) ?_))
 have SA:Hid (zil w (w5.alloc (.cells Z32 100)) w5.heap.size (outK v 0)):=zwd ⟨A6.out,S6.out,B6.out⟩
 have hRS:w.heap.size<w5.heap.size:=by omega
 clear A5 B5 P5 A6 P6 S6 B6
 generalize w5.alloc (.cells Z32 100)=w6 at*
 generalize w5.heap.size=S at*
 go_loopw [18] (fun i wr=>∃k:Nat,k<=8/\ i= .int .i64 (k:Int)/\ zil w wr S (outK v k)) (fun i _=>(9-intOf i).toNat)
 case atStart=>exact⟨0,by omega,rfl,SA.out⟩
 case round=>
  obtain⟨k,hk,rfl,hsa⟩:=hrel
  have SB:=zwd hsa
  clear hsa SA
  by_cases hk2:k<8
  · have t0:decide ((k:Int)<8)=true:=by simp;omega
    have IX:=fun W=>zqX v k hk2 W
    have OL:=ztk v k hk
    have PU:=zwd (fun c=>ztj S (outK v k) (4*k) (32-4*k) c (v.list[k]?.getD 0) wr SB.out.2.1 OL.symm (by omega) (by omega))
    have NX:=zwd (fun w' hb hg=>SB.out.next (w':=w') hk2 hRS hb hg)
    obtain⟨o,ho⟩:∃o:Nat,4*k=o:=⟨_,rfl⟩
    rw[ho]at PU
    have h4:IntKind.i64.wrap (4*(k:Int))=(o:Int):=by rw[show 4*(k:Int)=(o:Int)by omega];exact IntWalk.i64_in _ (by omega)
    have hle:(o:Int)<=32:=by omega
    have hne:¬32=o:=by omega
    clear SB OL
    generalize v.list[k]?.getD 0=x at*
    generalize outK v k=l at*
    generalize hl1:outK v (k+1)=l1 at*
    have HL1:=zwd hl1
    clear hl1
    go_wp2_with fail
    refine(PU.out _).mono ?_
    rintro e w7 ⟨rfl,hb7,hg7⟩
    have N7:=zwd (NX.out _ hb7 hg7)
    clear hb7 hg7 NX PU
    go_wp2_with fail
    go_roundw
    case rel=>exact⟨k+1,by omega,by first|rfl|go_num,by rw[HL1.out];exact N7.out⟩
    case measure=>simp only[intOf];omega
  · obtain rfl:k=8:=by omega
    have F:Hid (outK v 8=hz):=by rw[HX.out,ztl];exact zwd rfl
    rw[F.out]at SB
    have KA:=zwd SB.out.1
    have KS:=zwd SB.out.2.1
    have KW:=zwd SB.out.2.2
    have L2:hz.length<=32:=by omega
    clear SB F HX
    rw[show((8:Nat):Int)=8 by rfl]
    go_wp2_with (first
     |(refine wpList_load_row rfl 100 (.tmp 4) rfl S rfl 100 (zbc hz) (0,0) (.array 32 5) KS.out Tryz.underlying100 rfl (Tryz.size24 hz L2) ?_)
     |(refine wpList_store_rowTo rfl 100 (.tmp 2) (.tmp 28) rfl rfl w.heap.size (zbc hz) rfl rfl 100 Z32 KA.out (Tryz.size24 hz L2) (by rw[zdW hz L2];rfl) (zgc hz) ?_))
    exact bodyPost_ret (results_cell_row rfl _ _ w.heap.size 100 (zbc hz) (0,0) (.array 32 5) rfl (setRow_heap _ _ _ _ 100 _ KA.out) Tryz.underlying100 rfl (Tryz.size24 hz L2)) rfl ⟨rfl,below_setRow KW.out (Nat.le_refl _) _⟩
def keyZ (i k:Nat):Int:=((keyN i k:Nat):Int)
def KEY (i:Nat):List Int:=byZ (keyZ i 69)
theorem zgS (i:Nat):∀x∈KEY i,0<=x/\ x<=255:=zeA _
theorem zhM {i:Nat} (hi:i<8):(256:Int)^61<=keyZ i 69/\ keyZ i 69<256^100/\ keyN i 69%2=1:=by
 have h:=List.all_eq_true.1 zqP i (List.mem_range.2 hi)
 simp only[Bool.and_eq_true,decide_eq_true_eq,beq_iff_eq]at h
 obtain⟨⟨h1,h2⟩,h3⟩:=h
 refine⟨?_,?_,h3⟩
 · have:((256^61:Nat):Int)<=(keyN i 69:Int):=Int.ofNat_le.2 h1
   rwa[Int.natCast_pow]at this
 · have:(keyN i 69:Int)<((256^100:Nat):Int):=Int.ofNat_lt.2 h2
   rwa[Int.natCast_pow]at this
theorem zgd {i:Nat} (hi:i<8):0<keyZ i 69:=by
 have h:=(zhM hi).1
 have:(0:Int)<256^61:=Int.pow_pos (by decide)
 omega
theorem zjI {i:Nat} (hi:i<8):beV (KEY i)=keyZ i 69:=zlX (Int.le_of_lt (zgd hi))
theorem zel {i:Nat} (hi:i<8):62<=(KEY i).length/\ (KEY i).length<=100:=by
 have h:=zhM hi
 refine⟨?_,zhI (Int.le_of_lt (zgd hi)) h.2.1⟩
 rcases Nat.lt_or_ge 61 (KEY i).length with hl|hl
 · exact hl
 · exfalso
   have hb:=zfE (zgS i)
   rw[zjI hi]at hb
   obtain⟨d,hd⟩:∃d,61=(KEY i).length+d:=⟨61-(KEY i).length,by omega⟩
   have h1:=h.1
   rw[hd,Int.pow_add]at h1
   have p:(0:Int)<256^(KEY i).length:=Int.pow_pos (by decide)
   have q:(0:Int)<256^d:=Int.pow_pos (by decide)
   have m:(256:Int)^(KEY i).length*1<=256^(KEY i).length*256^d:=Int.mul_le_mul_of_nonneg_left (by omega) (Int.le_of_lt p)
   omega
theorem zqY {i:Nat} (hi:i<8):zbM (KEY i) 65537=true:=by
 have hl:=zel hi
 have hp:=zgd hi
 have hs:=(zhM hi).2.2
 have hh:(KEY i)[0]?.getD 0≠0:=zm3 (by show(KEY i).length≠0;omega)
 have ht:(KEY i)[(KEY i).length-1]?.getD 0%2=1:=by
  have hn:(keyZ i 69).toNat≠0:=by omega
  have e:KEY i=byN (keyN i 69/256)++[((keyN i 69%256:Nat):Int)]:=by
   show byN (keyZ i 69).toNat=_
   rw[zfq hn]
   rfl
  rw[e,List.length_append,List.length_singleton,Nat.add_sub_cancel,List.getElem?_append_right (Nat.le_refl _),Nat.sub_self]
  simp only[List.getElem?_cons_zero,Option.getD_some]
  omega
 unfold zbM
 rw[ht]
 simp[hl.1,hh]
 omega
theorem zoF {ns hz:List Int} {e:Int} (hb:∀x∈ns,0<=x/\ x<=255) (hr:zbM ns e=true) (hl:hz.length=32) (hh:∀x∈hz,0<=x/\ x<=255):0<=beV (zbh hz ns.length)/\ beV (zbh hz ns.length)<beV ns:=by
 have hn:=zfD hr
 have fb:=zcD hh ns.length
 have fl:=zhH hl hn.1
 refine⟨zbt fb,?_⟩
 obtain⟨xs,hx⟩:∃xs,zbh hz ns.length=0::xs:=⟨_,rfl⟩
 rw[hx]at fb fl⊢
 rw[zfp,Int.zero_mul,Int.zero_add]
 have h1:=zfE (zs:=xs) (fun y hy=>fb y (by simp[hy]))
 rw[List.length_cons]at fl
 rw[show xs.length=ns.length-1 by omega]at h1
 have h2:=zk7 hb hr
 omega
def sigZ (i:Nat) (d:Int) (ts:List Int):List Int:=widZ (KEY i).length (remZ (beV (zbh (zbV ts) (KEY i).length)^d.toNat) (keyZ i 69))
theorem zjJ {i:Nat} (hi:i<8) (d:Int) (ts:List Int):0<=remZ (beV (zbh (zbV ts) (KEY i).length)^d.toNat) (keyZ i 69)/\ remZ (beV (zbh (zbV ts) (KEY i).length)^d.toNat) (keyZ i 69)<keyZ i 69:=by
 have hp:=zgd hi
 rw[za4 hp]
 exact⟨Int.emod_nonneg _ (by omega),Int.emod_lt_of_pos _ hp⟩
theorem zlb {i:Nat} (hi:i<8) (d:Int) (ts:List Int):(byZ (remZ (beV (zbh (zbV ts) (KEY i).length)^d.toNat) (keyZ i 69))).length<=(KEY i).length:=by
 have h:=zjJ hi d ts
 have hb:=zfE (zgS i)
 rw[zjI hi]at hb
 exact zhI h.1 (Int.lt_trans h.2 hb)
theorem zme {i:Nat} (hi:i<8) (d:Int) (ts:List Int):(sigZ i d ts).length=(KEY i).length:=zuH (zlb hi d ts)
theorem zuR {i:Nat} (hi:i<8) (d:Int) (ts:List Int):beV (sigZ i d ts)=remZ (beV (zbh (zbV ts) (KEY i).length)^d.toNat) (keyZ i 69):=zuI _ (zjJ hi d ts).1
theorem undo {i:Nat} (hi:i<8) {j q:Nat} (hd:j*q%720720=1) {F:Int} (h0:0<=F) (h1:F<keyZ i 69):remZ (remZ (F^j) (keyZ i 69)^q) (keyZ i 69)=F:=by
 have hp:=zgd hi
 rw[za4 hp,za4 hp]
 obtain⟨f,rfl⟩:=Int.eq_ofNat_of_zero_le h0
 have e:((f:Int)^j%keyZ i 69)^q%keyZ i 69=(((f^j%keyN i 69)^q%keyN i 69:Nat):Int):=by
  unfold keyZ
  rw[Int.natCast_emod,Int.natCast_pow,Int.natCast_emod,Int.natCast_pow]
 rw[e,<-Nat.pow_mod,<-Nat.pow_mul,zuN hi f hd,Nat.mod_eq_of_lt (by unfold keyZ at h1;omega)]
theorem ztm {i:Nat} (hi:i<8) {d:Int} (d0:0<=d) (hd:d*65537%720720=1) (ts:List Int):errZ (KEY i) 65537 (sigZ i d ts)=0/\ powZ (KEY i) 65537 (sigZ i d ts)=zbh (zbV ts) (KEY i).length:=by
 have hr:=zqY hi
 have hl:=zme hi d ts
 have hv:=zuR hi d ts
 have hm:=zjJ hi d ts
 have kv:=zjI hi
 have he:errZ (KEY i) 65537 (sigZ i d ts)=0:=by
  unfold errZ
  rw[if_neg (by rw[hr];simp),if_neg (by omega),if_neg (by rw[hv,kv];omega)]
 refine⟨he,?_⟩
 unfold powZ
 rw[if_pos he]
 have fl:=zoF (zgS i) hr (zdX ts) (zek ts)
 rw[kv]at fl
 have hx:expZ (KEY i) 65537 (sigZ i d ts)=beV (zbh (zbV ts) (KEY i).length):=by
  unfold expZ
  rw[hv,kv]
  have hq:d.toNat*(65537:Int).toNat%720720=1:=by
   show d.toNat*65537%720720=1
   omega
  generalize(65537:Int).toNat=q at*
  exact undo hi hq fl.1 fl.2
 rw[hx]
 have:=zuJ (zcD (zek ts) (KEY i).length)
 rwa[zhH (zdX ts) (zel hi).1]at this
theorem zuS {i:Nat} (hi:i<8) {d:Int} (d0:0<=d) (hd:d*65537%720720=1) (ts us:List Int):verZ (KEY i) 65537 ts (sigZ i d ts)=0/\ (zbV ts=zbV us->verZ (KEY i) 65537 us (sigZ i d ts)=0)/\ (zbV ts≠zbV us->verZ (KEY i) 65537 us (sigZ i d ts)=6):=by
 obtain⟨h1,h2⟩:=ztm hi d0 hd ts
 refine⟨?_,fun h=> ?_,fun h=> ?_⟩
 · unfold verZ
   rw[if_pos h1,if_pos h2]
 · unfold verZ
   rw[if_pos h1,if_pos (by rw[h2,h])]
 · unfold verZ
   rw[if_pos h1,if_neg (fun e=>h (zqG (h2.symm.trans e)))]
end Go.Proofs.YtpgahclpbdpbnaaGreatDoor
