import Derived.Test.YtpgahclpbdpbnaaGreatDoorGAA
import Derived.Deep.QuietTactic
import Derived.BigQuiet
import Derived.Laws.BitsLemmas
set_option maxHeartbeats 2000000
set_option maxRecDepth 100000
namespace Go.Proofs.YtpgahclpbdpbnaaGreatDoor
open Go.RowKit
set_option linter.unusedVariables false
def valZ:List Int->Int
 | []=>0
 |x::xs=>x+4294967296*valZ xs
def zay (l:List Int):Prop:=∀x∈l,0<=x/\ x<=4294967295
def zd4 (l:List Int):Prop:=∀x,l.getLast?=some x->x≠0
theorem zay.nil:zay []:=fun x h=>by cases h
theorem zay.cons {x:Int} {xs:List Int} (hx:0<=x/\ x<=4294967295) (h:zay xs):zay (x::xs):=by
 intro y hy
 rcases List.mem_cons.1 hy with rfl|hy
 · exact hx
 · exact h y hy
theorem zay.take {xs:List Int} (h:zay xs) (k:Nat):zay (xs.take k):=fun y hy=>h y (List.mem_of_mem_take hy)
theorem zay.drop {xs:List Int} (h:zay xs) (k:Nat):zay (xs.drop k):=fun y hy=>h y (List.mem_of_mem_drop hy)
theorem zay.at {xs:List Int} (h:zay xs) (k:Nat):0<=xs[k]?.getD 0/\ xs[k]?.getD 0<=4294967295:=by
 rcases Nat.lt_or_ge k xs.length with hk|hk
 · rw[List.getElem?_eq_getElem hk]
   exact h _ (List.getElem_mem hk)
 · rw[List.getElem?_eq_none hk]
   simp
theorem zdM (xs ys:List Int):valZ (xs++ys)=valZ xs+4294967296^xs.length*valZ ys:=by
 induction xs with
 |nil=>simp[valZ]
 |cons x xs ih=>rw[List.cons_append,valZ,valZ,ih,List.length_cons,Int.pow_succ,Int.mul_add,Int.mul_comm (4294967296^xs.length) 4294967296,Int.mul_assoc,Int.add_assoc]
theorem zsm (x:Int):valZ [x]=x:=by simp[valZ]
theorem zbW (n:Nat):valZ (List.replicate n 0)=0:=by
 induction n with
 |zero=>rfl
 |succ n ih=>rw[List.replicate_succ,valZ,ih];rfl
theorem zaA {xs:List Int} (h:zay xs):0<=valZ xs:=by
 induction xs with
 |nil=>exact Int.le_refl _
 |cons x xs ih=>
   have hx:=h x (by simp)
   have:=ih (fun y hy=>h y (by simp[hy]))
   rw[valZ]
   omega
theorem zaM (n:Nat):(0:Int)<4294967296^n:=Int.pow_pos (by decide)
theorem zdN {xs:List Int} (h:zay xs):valZ xs<4294967296^xs.length:=by
 induction xs with
 |nil=>decide
 |cons x xs ih=>
   have hx:=h x (by simp)
   have:=ih (fun y hy=>h y (by simp[hy]))
   rw[valZ,List.length_cons,Int.pow_succ]
   omega
theorem zg8 {zs:List Int} {k:Nat} (h:k<zs.length):zs.take (k+1)=zs.take k++[zs[k]?.getD 0]:=by
 rw[List.take_succ_eq_append_getElem h]
 simp[List.getElem?_eq_getElem h]
theorem zc9 (zs:List Int) (k:Nat):valZ (zs.take (k+1))=valZ (zs.take k)+4294967296^k*zs[k]?.getD 0:=by
 rcases Nat.lt_or_ge k zs.length with h|h
 · rw[zg8 h,zdM,zsm,List.length_take,Nat.min_eq_left (by omega)]
 · rw[List.take_of_length_le (by omega),List.take_of_length_le h,List.getElem?_eq_none h]
   simp
theorem ziA (zs:List Int) (k:Nat) (h:k<=zs.length):valZ zs=valZ (zs.take k)+4294967296^k*valZ (zs.drop k):=by
 conv=>lhs;rw[<-List.take_append_drop k zs]
 rw[zdM,List.length_take,Nat.min_eq_left h]
theorem ze1 {x:Int} {xs:List Int} (h:zd4 (x::xs)):zd4 xs:=by
 intro y hy
 refine h y ?_
 cases xs with
 |nil=>cases hy
 |cons z zs=>rw[List.getLast?_cons_cons];exact hy
theorem zpA {xs:List Int} (h:zay xs) (hn:zd4 xs) (hne:xs≠[]):0<valZ xs:=by
 induction xs with
 |nil=>exact absurd rfl hne
 |cons x xs ih=>
   have hx:=h x (by simp)
   rw[valZ]
   cases xs with
   |nil=>
     have:=hn x rfl
     simp[valZ]
     omega
   |cons z zs=>
     have:=ih (fun y hy=>h y (by simp[hy])) (ze1 hn) (by simp)
     omega
theorem zfm:∀ {a b:List Int},zay a->zay b->zd4 a->zd4 b->valZ a=valZ b->a=b
 | [],[],_,_,_,_,_=>rfl
 | [],y::ys,_,hb,_,nb,e=>by
   have:=zpA hb nb (by simp)
   rw[<-e]at this
   exact absurd this (by simp[valZ])
 |x::xs,[],ha,_,na,_,e=>by
   have:=zpA ha na (by simp)
   rw[e]at this
   exact absurd this (by simp[valZ])
 |x::xs,y::ys,ha,hb,na,nb,e=>by
   have hx:=ha x (by simp)
   have hy:=hb y (by simp)
   rw[valZ,valZ]at e
   obtain rfl:x=y:=by omega
   have e':valZ xs=valZ ys:=by omega
   rw[zfm (fun z hz=>ha z (by simp[hz])) (fun z hz=>hb z (by simp[hz])) (ze1 na) (ze1 nb) e']
def limN (n:Nat):List Int:=if h:n=0 then []else((n%4294967296:Nat):Int)::limN (n/4294967296)
termination_by n
decreasing_by omega
def limZ (n:Int):List Int:=limN n.toNat
theorem zof (n:Nat):zay (limN n):=by
 induction n using Nat.strongRecOn with
 |ind n ih=>
   rw[limN]
   split
   · exact zay.nil
   · exact(ih _ (by omega)).cons (by omega)
theorem zsn (n:Nat):valZ (limN n)=(n:Int):=by
 induction n using Nat.strongRecOn with
 |ind n ih=>
   rw[limN]
   split
   · rename_i h
     rw[h]
     rfl
   · rw[valZ,ih _ (by omega)]
     omega
theorem zlP (n:Nat):zd4 (limN n):=by
 induction n using Nat.strongRecOn with
 |ind n ih=>
   intro x hx
   rw[limN]at hx
   split at hx
   · cases hx
   · rename_i h
     by_cases h2:n/4294967296=0
     · rw[h2,limN,dif_pos rfl]at hx
       simp at hx
       omega
     · have hne:limN (n/4294967296)≠[]:=by
        rw[limN,dif_neg h2]
        simp
       obtain⟨y,ys,hys⟩:=List.exists_cons_of_ne_nil hne
       rw[hys,List.getLast?_cons_cons,<-hys]at hx
       exact ih _ (by omega) x hx
theorem zbo (n:Int):zay (limZ n):=zof _
theorem zdO (n:Int):zd4 (limZ n):=zlP _
theorem zca {n:Int} (h:0<=n):valZ (limZ n)=n:=by
 unfold limZ
 rw[zsn]
 omega
theorem zuk {l:List Int} (h:zay l) (hn:zd4 l):l=limZ (valZ l):=zfm h (zbo _) hn (zdO _) (zca (zaA h)).symm
theorem zpB {l:List Int} (h:l=[] \/l[l.length-1]?.getD 0≠0):zd4 l:=by
 intro x hx
 rcases h with rfl|h
 · cases hx
 · rw[List.getLast?_eq_getElem?]at hx
   rw[hx]at h
   exact h
theorem zlQ {l:List Int} (hl:zay l) {k:Nat} (hk:k<=l.length) (hz:∀i,k<=i->l[i]?.getD 0=0) (hne:k=0 \/l[k-1]?.getD 0≠0):l.take k=limZ (valZ l):=by
 have hd:l.drop k=List.replicate (l.length-k) 0:=by
  apply List.ext_getElem?
  intro i
  rw[List.getElem?_drop,List.getElem?_replicate]
  have:=hz (k+i) (by omega)
  split
  · rename_i h
    rw[List.getElem?_eq_getElem (by omega)]at this⊢
    simpa using this
  · rw[List.getElem?_eq_none (by omega)]
 have hv:valZ l=valZ (l.take k):=by rw[ziA l k hk,hd,zbW];simp
 rw[hv]
 refine zuk (hl.take k) (zpB ?_)
 rcases hne with h|h
 · left
   rw[h]
   rfl
 · by_cases h0:k=0
   · left
     rw[h0]
     rfl
   · right
     rw[List.length_take,Nat.min_eq_left hk,List.getElem?_take,if_pos (by omega)]
     exact h
theorem zdt {i j:Nat} (h:i<=j):(4294967296:Int)^i<=4294967296^j:=by
 obtain⟨d,rfl⟩:=Nat.exists_eq_add_of_le h
 rw[Int.pow_add]
 have h1:=zaM i
 have h2:=zaM d
 have:=Int.mul_le_mul_of_nonneg_left (show(1:Int)<=4294967296^d by omega) (Int.le_of_lt h1)
 rw[Int.mul_one]at this
 exact this
theorem za0 (zs:List Int) (k:Nat):valZ zs=valZ (zs.take k)+4294967296^k*valZ (zs.drop k):=by
 rcases Nat.le_total k zs.length with h|h
 · exact ziA zs k h
 · rw[List.take_of_length_le h,List.drop_of_length_le h]
   simp[valZ]
theorem zaN (zs:List Int) (k:Nat):valZ (zs.drop k)=zs[k]?.getD 0+4294967296*valZ (zs.drop (k+1)):=by
 rcases Nat.lt_or_ge k zs.length with h|h
 · rw[List.drop_eq_getElem_cons h,valZ,List.getElem?_eq_getElem h]
   rfl
 · rw[List.drop_of_length_le h,List.drop_of_length_le (by omega),List.getElem?_eq_none h]
   rfl
theorem zcg {zs:List Int} (h:zay zs) (k:Nat):0<=valZ (zs.take k)/\ valZ (zs.take k)<4294967296^k:=by
 refine⟨zaA (h.take k),Int.lt_of_lt_of_le (zdN (h.take k)) (zdt ?_)⟩
 rw[List.length_take]
 omega
def cmpI (x y:Int):Int:=if x<y then-1 else if y<x then 1 else 0
theorem zmU {ps bs:List Int} (ha:zay ps) (hb:zay bs) {k:Nat} (hd:valZ (ps.drop (k+1))=valZ (bs.drop (k+1))) (h:ps[k]?.getD 0<bs[k]?.getD 0):valZ ps<valZ bs:=by
 rw[za0 ps k,za0 bs k,zaN ps k,zaN bs k,hd]
 have h1:=zcg ha k
 have h2:=zcg hb k
 have hp:=zaM k
 generalize(4294967296:Int)^k=P at*
 generalize valZ (bs.drop (k+1))=u at*
 have:=Int.mul_le_mul_of_nonneg_left (show ps[k]?.getD 0+4294967296*u+1<=bs[k]?.getD 0+4294967296*u by omega) (Int.le_of_lt hp)
 rw[Int.mul_add,Int.mul_one]at this
 omega
theorem zpC {ps bs:List Int} (ha:zay ps) (hb:zay bs) {k:Nat} (hd:valZ (ps.drop (k+1))=valZ (bs.drop (k+1))) (h:ps[k]?.getD 0<bs[k]?.getD 0):cmpI (valZ ps) (valZ bs)= -1:=if_pos (zmU ha hb hd h)
theorem zpD {ps bs:List Int} (ha:zay ps) (hb:zay bs) {k:Nat} (hd:valZ (ps.drop (k+1))=valZ (bs.drop (k+1))) (h:bs[k]?.getD 0<ps[k]?.getD 0):cmpI (valZ ps) (valZ bs)=1:=by
 have:=zmU hb ha hd.symm h
 unfold cmpI
 rw[if_neg (by omega),if_pos this]
theorem zt0 {ps bs:List Int} (hd:valZ (ps.drop 0)=valZ (bs.drop 0)):cmpI (valZ ps) (valZ bs)=0:=by
 simp only[List.drop_zero]at hd
 unfold cmpI
 rw[hd,if_neg (by omega),if_neg (by omega)]
theorem zjj {ps bs:List Int} {k:Nat} (hd:valZ (ps.drop (k+1))=valZ (bs.drop (k+1))) (h:ps[k]?.getD 0=bs[k]?.getD 0):valZ (ps.drop k)=valZ (bs.drop k):=by
 rw[zaN ps k,zaN bs k,hd,h]
theorem zul (ps bs:List Int):valZ (ps.drop (max ps.length bs.length))=valZ (bs.drop (max ps.length bs.length)):=by
 rw[List.drop_of_length_le (by omega),List.drop_of_length_le (by omega)]
theorem zso (x y:Int):cmpI x y<0↔x<y:=by
 unfold cmpI
 split
 · simp;omega
 · split<;>simp<;>omega
theorem zfW (w:World):zaz w (w.alloc (.cells #[] 22)) (.slice (some ⟨w.heap.size,0,none⟩) 0 0) []:=
 ⟨⟨rfl,.inr ⟨w.heap.size,0,#[],rfl,Nat.le_refl _,heap_alloc_new w _,Nat.le_refl _,by unfold maxLen;omega,rfl,rfl⟩⟩,(Below.refl _ _).alloc (Nat.le_refl _) _⟩
theorem zaz.cell {W0 wr:World} {g cap n:Nat} {L:List Int} (h:zaz W0 wr (.slice (some ⟨g,0,none⟩) n cap) L) (j:Nat) (hj:j<L.length):wr.cell? ⟨g,j,none⟩=some (.int .u32 (L[j]?.getD 0))/\ wr.frozen? ⟨g,j,none⟩=false:=by
 have hn:n=L.length:=by
  rcases h.1.2 with⟨e,_⟩|⟨g,cap,cur,e,hb,_⟩
  · cases e
  · injection e
 subst hn
 refine⟨?_,h.1.frozenAt j⟩
 rw[h.1.cellAt j (by omega),List.getElem?_map,List.getElem?_eq_getElem hj]
 rfl
theorem zaz.set {W0 wr:World} {g cap n:Nat} {L:List Int} (h:zaz W0 wr (.slice (some ⟨g,0,none⟩) n cap) L) (hg:W0.heap.size<=g) (j:Nat) (x:Int):zaz W0 (wr.setCell ⟨g,j,none⟩ (.int .u32 x)) (.slice (some ⟨g,0,none⟩) n cap) (L.set j x):=by
 have hn:n=L.length:=by
  rcases h.1.2 with⟨e,_⟩|⟨g,cap,cur,e,hb,_⟩
  · cases e
  · injection e
 subst hn
 refine⟨?_,h.2.setCell hg _⟩
 have:=(h.1.stored j (.int .u32 x)).1
 rw[List.length_set,List.map_set]
 exact this
theorem zaz.drewN {W0 wr:World} {V:Value} {L:List Int} (h:zaz W0 wr V L) (q:Nat):zaz W0 (wr.drewN q) V L:=⟨h.1,{h.2 with}⟩
def zfn (n:Int) (w:World) (e:Ending) (w':World):Prop:=
 ∃a c,e= .returned (.slice a (limZ n).length c)/\ zat w' a (limZ n).length (limZ n)/\ (a=none->c=0)/\ (limZ n).length<=c/\ Below w.heap.size w w'
theorem zaz.gives {w w':World} {V:Value} {n:Int} (h:zaz w w' V (limZ n)):zfn n w (.returned V) w':=by
 obtain⟨a,c,rfl,hr⟩:=h.row (zbo n)
 exact⟨a,c,rfl,hr,h.nilc,zg1 h.1,h.2⟩
theorem zap {w:World} {a:Option Addr} {n:Nat} {zs:List Int} (h:zat w a n zs):zay zs:=h.2.1
theorem zat.first {w:World} {a:Option Addr} {n:Nat} {zs:List Int} (h:zat w a n zs) (k:Nat) (hk:k<=n):zat w a k (zs.take k):=by
 have hl:=h.1
 refine⟨by rw[List.length_take];omega,fun x hx=>h.2.1 x (List.mem_of_mem_take hx),fun h0=> ?_⟩
 obtain⟨b,off,e,hb,hc⟩:=h.2.2 (by omega)
 exact⟨b,off,e,hb,fun i hi=>by rw[hc i (by omega),List.getElem?_take,if_pos hi]⟩
theorem zaH (a:Option Addr) (n ca i:Nat) (zs:List Int) (w:World) (hr:zat w a n zs):Calls Tryz.prog 121 #[.slice a n ca,.int .i64 (i:Int)] w fun e w'=>e= .returned (.int .u64 (zs[i]?.getD 0))/\ w'=w:=by
 have xr:=hr.num i
 have hl:=hr.1
 by_cases h:i<n
 · obtain⟨b,off,rfl,hb,hc⟩:=hr.2.2 (by omega)
   have c0:=hc i h
   have t0:decide ((n:Int)<=(i:Int))=false:=by simp;omega
   have hI:(i:Int)<(n:Int):=by omega
   generalize zs[i]?.getD 0=x at*
   have wx:IntKind.u64.wrap x=x:=IntWalk.u64_in _ (by omega)
   clear hr hc
   go_enter Tryz.func121,Tryz.ntmps121
   go_wp2_with fail
   go_ret
   exact⟨rfl,rfl⟩
 · have t0:decide ((n:Int)<=(i:Int))=true:=by simp;omega
   have e:zs[i]?.getD 0=0:=by rw[List.getElem?_eq_none (by omega)];rfl
   rw[e]
   clear hr xr e
   go_enter Tryz.func121,Tryz.ntmps121
   go_wp2_with fail
   go_ret
   exact⟨rfl,rfl⟩
theorem zkm (a:Option Addr) (n ca:Nat) (zs:List Int) (w:World) (hr:zat w a n zs) (hca:n<=ca) (hn:n<=100000) (hnil:a=none->ca=0):Calls Tryz.prog 122 #[.slice a n ca] w (fun e w'=>∃V,e= .returned V/\ zaz w w' V (limZ (valZ zs))):=by
 have HR:=zwd hr
 have NI:=zwd hnil
 have hl:=hr.1
 clear hr hnil
 go_enter Tryz.func122,Tryz.ntmps122
 go_wp2_with fail
 go_loop [3] (fun i=>∃k:Nat,k<=n/\ i= .int .i64 (k:Int)/\ (∀j,k<=j->zs[j]?.getD 0=0)) (fun i=>(intOf i).toNat)
 case atStart=>exact⟨n,Nat.le_refl _,rfl,fun j hj=>by rw[List.getElem?_eq_none (by omega)];rfl⟩
 case round=>
  obtain⟨k,hk,rfl,hz⟩:=hrel
  have HZ:=zwd hz
  clear hz
  by_cases hmore:∃j,k=j+1/\ zs[j]?.getD 0=0
  · obtain⟨j,rfl,hx⟩:=hmore
    obtain⟨b,off,rfl,hb,hc⟩:=HR.out.2.2 (by omega)
    have c0:=hc j (by omega)
    rw[hx]at c0
    have t0:decide ((0:Int)<(j:Int)+1)=true:=decide_eq_true (by omega)
    have w1:IntKind.i64.wrap ((j:Int)+1-1)=(j:Int):=by rw[show(j:Int)+1-1=(j:Int)by omega];exact IntWalk.i64_in _ (by omega)
    have wj:IntKind.i64.wrap (j:Int)=(j:Int):=IntWalk.i64_in _ (by omega)
    have jI:(j:Int)<(n:Int):=by omega
    have jN:(0:Int)<=(j:Int):=by omega
    have NZ:Hid (∀i,j<=i->zs[i]?.getD 0=0):=zwd (fun i hi=>by
     rcases Nat.eq_or_lt_of_le hi with rfl|h
     · exact hx
     · exact HZ.out i h)
    clear hc HZ hx
    rw[show((j+1:Nat):Int)=(j:Int)+1 by omega]
    go_wp2_with fail
    go_round
    case rel=>exact⟨j,by omega,by first|rfl|go_num,NZ.out⟩
    case measure=>simp only[intOf];omega
  · have hend:k=0 \/zs[k-1]?.getD 0≠0:=by
     rcases Nat.eq_zero_or_pos k with h|h
     · exact .inl h
     · exact .inr (fun e=>hmore ⟨k-1,by omega,e⟩)
    have F:=zwd (zlQ (zap HR.out) (by omega) HZ.out hend)
    have O3:=zwd (zfW w)
    have R3:Hid (zat (w.alloc (.cells #[] 22)) a k (zs.take k)):=zwd ((HR.out.first k hk).below ((Below.refl _ _).alloc (Nat.le_refl _) _))
    have HN:Hid (([]:List Int).length+k<=1000000):=zwd (by simp;omega)
    have kI:(k:Int)<=(ca:Int):=by omega
    have kN:(0:Int)<=(k:Int):=by omega
    clear HZ
    by_cases h0:k=0
    · subst h0
      have t0:decide ((0:Int)<((0:Nat):Int))=false:=by simp
      rw[show((0:Nat):Int)=0 by rfl]
      go_wp2_with (at_builtin;go_must (refine zcJ (W0:=w) (L:=[]) (zs:=zs.take 0) rfl _ _ rfl rfl O3.out rfl R3.out NI.out HN.out ?_;intro V4 w4 ho4;rw[List.nil_append,F.out]at ho4;have O4:=zwd ho4;clear ho4))
      go_ret
      exact⟨_,rfl,O4.out⟩
    · have hx:zs[k-1]?.getD 0≠0:=by
       rcases hend with h|h
       · exact absurd h h0
       · exact h
      obtain⟨j,rfl⟩:∃j,k=j+1:=⟨k-1,by omega⟩
      rw[show j+1-1=j by omega]at hx
      have NI2:=NI.out
      obtain⟨b,off,rfl,hb,hc⟩:=HR.out.2.2 (by omega)
      have c0:=hc j (by omega)
      generalize zs[j]?.getD 0=x at*
      have t0:decide ((0:Int)<(j:Int)+1)=true:=decide_eq_true (by omega)
      have t1:(x==0)=false:=by simpa using hx
      have w1:IntKind.i64.wrap ((j:Int)+1-1)=(j:Int):=by rw[show(j:Int)+1-1=(j:Int)by omega];exact IntWalk.i64_in _ (by omega)
      have wj:IntKind.i64.wrap (j:Int)=(j:Int):=IntWalk.i64_in _ (by omega)
      have jI:(j:Int)<(n:Int):=by omega
      have jN:(0:Int)<=(j:Int):=by omega
      clear hc hend hmore NI2
      rw[show((j+1:Nat):Int)=(j:Int)+1 by omega]at kI kN⊢
      go_wp2_with (at_builtin;go_must (refine zcJ (W0:=w) (L:=[]) (zs:=zs.take (j+1)) rfl _ _ rfl rfl O3.out rfl R3.out NI.out HN.out ?_;intro V4 w4 ho4;rw[List.nil_append,F.out]at ho4;have O4:=zwd ho4;clear ho4))
      go_ret
      exact⟨_,rfl,O4.out⟩
theorem zcV (a:Option Addr) (n ca:Nat) (zs:List Int) (w:World) (hr:zat w a n zs) (hca:n<=ca) (hn:n<=100000) (hnil:a=none->ca=0):Calls Tryz.prog 122 #[.slice a n ca] w (zfn (valZ zs) w):=by
 refine(zkm a n ca zs w hr hca hn hnil).mono ?_
 rintro e w' ⟨V,rfl,ho⟩
 exact ho.gives
theorem zsp (a b:Option Addr) (n m ca cb:Nat) (xs ys:List Int) (w:World) (hr:zat w a n xs) (hs:zat w b m ys) (hn:n<=100000) (hm:m<=100000):Calls Tryz.prog 115 #[.slice a n ca,.slice b m cb] w fun e w'=>e= .returned (.int .i64 (cmpI (valZ xs) (valZ ys)))/\ w'=w:=by
 have HA:=zwd hr
 have HB:=zwd hs
 have LA:=zwd (zap hr)
 have LB:=zwd (zap hs)
 have TOP:=zwd (zul xs ys)
 rw[hr.1,hs.1]at TOP
 clear hr hs
 obtain⟨mx,hmx⟩:∃mx,max n m=mx:=⟨_,rfl⟩
 rw[hmx]at TOP
 have mI:max (n:Int) (m:Int)=(mx:Int):=by omega
 have mI':(if(n:Int)<(m:Int)then(m:Int)else(n:Int))=(mx:Int):=by split<;>omega
 have mb:mx<=100000:=by omega
 have wm:IntKind.i64.wrap ((mx:Int)-1)=(mx:Int)-1:=IntWalk.i64_in _ (by omega)
 clear mI mI'
 have e1:¬n<m->n=mx:=by omega
 have e2:n<m->m=mx:=by omega
 clear hmx
 go_enter Tryz.func115,Tryz.ntmps115
 go_wp2_with fail
 all_goals(
  go_loop [5] (fun i=>∃k:Nat,k<=mx/\ i= .int .i64 ((k:Int)-1)/\ valZ (xs.drop k)=valZ (ys.drop k)) (fun i=>(intOf i+1).toNat)
  case atStart=>exact⟨mx,Nat.le_refl _,by congr 1;omega,TOP.out⟩
  case round=>
   obtain⟨k,hk,rfl,hd⟩:=hrel
   have HD:=zwd hd
   clear hd
   rcases Nat.eq_zero_or_pos k with h0|h0
   · subst h0
     have E:=zt0 HD.out
     rw[show((0:Nat):Int)-1= -1 by rfl]
     have t0:decide ((0:Int)<= -1)=false:=by decide
     go_wp2_with fail
     go_ret
     first|exact⟨rfl,rfl⟩|exact⟨by rw[E],rfl⟩
   · obtain⟨j,rfl⟩:∃j,k=j+1:=⟨k-1,by omega⟩
     have CL:=zwd (zpC (k:=j) LA.out LB.out HD.out)
     have CG:=zwd (zpD (k:=j) LA.out LB.out HD.out)
     have CD:=zwd (zjj (k:=j) HD.out)
     rw[show((j+1:Nat):Int)-1=(j:Int)by omega]
     have t0:decide ((0:Int)<=(j:Int))=true:=decide_eq_true (by omega)
     have w1:IntKind.i64.wrap ((j:Int)-1)=(j:Int)-1:=IntWalk.i64_in _ (by omega)
     obtain⟨x,hx⟩:∃x,xs[j]?.getD 0=x:=⟨_,rfl⟩
     obtain⟨y,hy⟩:∃y,ys[j]?.getD 0=y:=⟨_,rfl⟩
     rw[hx,hy]at CL CG CD
     have HX:=zwd hx
     have HY:=zwd hy
     clear HD TOP e1 e2 hx hy
     rcases Int.lt_trichotomy x y with h1|h1|h1
     · have E:=zwd (CL.out h1)
       have t1:decide (x<y)=true:=decide_eq_true h1
       clear CL CG CD
       go_wp2_with (go_at_call 121;go_must (refine(zaH _ _ _ _ _ _ (by first|exact HA.out|exact HB.out)).mono ?_;rintro e w' ⟨rfl,rfl⟩;first|rw[HX.out]|rw[HY.out]))
       go_ret
       exact⟨by rw[E.out];rfl,rfl⟩
     · have E:=zwd (CD.out h1)
       have t1:decide (x<y)=false:=decide_eq_false (by omega)
       have t2:decide (y<x)=false:=decide_eq_false (by omega)
       clear CL CG CD
       go_wp2_with (go_at_call 121;go_must (refine(zaH _ _ _ _ _ _ (by first|exact HA.out|exact HB.out)).mono ?_;rintro e w' ⟨rfl,rfl⟩;first|rw[HX.out]|rw[HY.out]))
       go_round
       case rel=>exact⟨j,by omega,rfl,E.out⟩
       case measure=>simp only[intOf];omega
     · have E:=zwd (CG.out h1)
       have t1:decide (x<y)=false:=decide_eq_false (by omega)
       have t2:decide (y<x)=true:=decide_eq_true h1
       clear CL CG CD
       go_wp2_with (go_at_call 121;go_must (refine(zaH _ _ _ _ _ _ (by first|exact HA.out|exact HB.out)).mono ?_;rintro e w' ⟨rfl,rfl⟩;first|rw[HX.out]|rw[HY.out]))
       go_ret
       exact⟨by rw[E.out];rfl,rfl⟩)
theorem zpE (w:World):zaz w w (.slice none 0 0) []:=⟨⟨rfl,.inl ⟨rfl,rfl⟩⟩,Below.refl _ _⟩
theorem zbm {k:Nat} (h:k<=1000000):(1000001-((k:Int)+1)).toNat<(1000001-(k:Int)).toNat:=by omega
theorem ziB {L:List Int} {x:Int} (h:zay L) (h0:0<=x) (h1:x<=4294967295):zay (L++[x]):=by
 intro y hy
 rcases List.mem_append.1 hy with hy|hy
 · exact h y hy
 · simp at hy;omega
theorem zd7:limZ 0=[]:=by unfold limZ;rw[limN];rfl
theorem zcH:∀(zs:List Int) (k:Nat) (v:Int),k<zs.length->valZ (zs.set k v)=valZ zs+4294967296^k*(v-zs[k]?.getD 0)
 | [],k,v,h=>by simp at h
 |x::xs,0,v,h=>by simp[valZ];omega
 |x::xs,k+1,v,h=>by
   have ih:=zcH xs k v (by simpa using h)
   simp only[zwf,valZ,ih,List.getElem?_cons_succ,Int.pow_succ]
   generalize v-xs[k]?.getD 0=d
   rw[Int.mul_add,Int.mul_comm (4294967296^k) 4294967296,Int.mul_assoc,Int.add_assoc]
theorem zbD {zs:List Int} (h:zay zs) (k:Nat) {v:Int} (h0:0<=v) (h1:v<=4294967295):zay (zs.set k v):=by
 intro y hy
 rcases List.mem_or_eq_of_mem_set hy with hy|rfl
 · exact h y hy
 · exact⟨h0,h1⟩
theorem zby (n:Nat):zay (List.replicate n 0):=by
 intro y hy
 have:=List.eq_of_mem_replicate hy
 omega
theorem zum {P Q c z x y t v w:Int} (h:t=c+z+x*y) (hv:v+Q*P*c=w):v+Q*P*(t%4294967296-z)+Q*(P*4294967296)*(t/4294967296)=w+Q*P*(x*y):=by
 have e:4294967296*(t/4294967296)+t%4294967296=t:=by omega
 have e2:t%4294967296-z+4294967296*(t/4294967296)=c+x*y:=by omega
 rw[<-hv,<-Int.mul_assoc Q P 4294967296,Int.mul_assoc (Q*P) 4294967296,Int.add_assoc,<-Int.mul_add,e2,Int.mul_add]
 omega
theorem zmV {zs ys:List Int} {i k:Nat} {c x V:Int} (hk:i+k<zs.length) (h:valZ zs+4294967296^(i+k)*c=V+x*4294967296^i*valZ (ys.take k)):
 valZ (zs.set (i+k) ((c+zs[i+k]?.getD 0+x*ys[k]?.getD 0)%4294967296))+4294967296^(i+(k+1))*((c+zs[i+k]?.getD 0+x*ys[k]?.getD 0)/4294967296)=V+x*4294967296^i*valZ (ys.take (k+1)):=by
 rw[zcH zs _ _ hk,zc9]
 rw[Int.pow_add]at h⊢
 rw[Int.pow_add,Int.pow_succ]
 rw[zum rfl h,Int.mul_add]
 generalize valZ (ys.take k)=T
 generalize ys[k]?.getD 0=y
 generalize(4294967296:Int)^i=Q
 generalize(4294967296:Int)^k=P
 have:Q*P*(x*y)=x*Q*(P*y):=by
  rw[Int.mul_comm x Q,Int.mul_assoc,Int.mul_assoc,Int.mul_left_comm P x y]
 omega
theorem zpF {zs xs ys:List Int} {i k:Nat} {c:Int} (hm:ys.length<=k) (h:valZ zs+4294967296^(i+k)*c=valZ (xs.take i)*valZ ys+xs[i]?.getD 0*4294967296^i*valZ (ys.take k)):
 valZ zs+4294967296^(i+k)*c=valZ (xs.take (i+1))*valZ ys:=by
 rw[h,List.take_of_length_le hm,zc9,Int.add_mul,Int.mul_comm (4294967296^i)]
theorem zpG {zs xs ys:List Int} {i k:Nat} {c:Int} (hz:zay zs) (hx:zay xs) (hy:zay ys) (c0:0<=c) (hk:ys.length<k) (h:valZ zs+4294967296^(i+k)*c=valZ (xs.take (i+1))*valZ ys):c=0:=by
 have a0:=zaA hz
 have a1:=zcg hx (i+1)
 have a2:=zdN hy
 have a3:=zaA hy
 have h1:valZ (xs.take (i+1))*valZ ys<4294967296^(i+1)*4294967296^ys.length:=by
  have p:=zaM (i+1)
  have q:=zaM ys.length
  have b1:valZ (xs.take (i+1))*valZ ys<=4294967296^(i+1)*valZ ys:=Int.mul_le_mul_of_nonneg_right (by omega) a3
  have b2:4294967296^(i+1)*valZ ys<4294967296^(i+1)*4294967296^ys.length:=Int.mul_lt_mul_of_pos_left a2 p
  omega
 rw[<-Int.pow_add]at h1
 have h2:(4294967296:Int)^(i+1+ys.length)<=4294967296^(i+k):=zdt (by omega)
 rcases Int.lt_or_le c 1 with h3|h3
 · omega
 · have p:=zaM (i+k)
   have:4294967296^(i+k)*1<=4294967296^(i+k)*c:=Int.mul_le_mul_of_nonneg_left h3 (by omega)
   omega
theorem zg9 {c z x y:Int} (c0:0<=c) (c1:c<=4294967295) (z0:0<=z) (z1:z<=4294967295) (x0:0<=x) (x1:x<=4294967295) (y0:0<=y) (y1:y<=4294967295):
 0<=x*y/\ x*y<=18446744065119617025/\ 0<=(c+z+x*y)/4294967296/\ (c+z+x*y)/4294967296<=4294967295/\ c+z+x*y<=18446744073709551615:=by
 have p:0<=x*y:=Int.mul_nonneg x0 y0
 have q:x*y<=4294967295*4294967295:=Int.mul_le_mul x1 y1 y0 (by decide)
 generalize x*y=t at*
 omega
theorem zaz.size {W0 wr:World} {g cap n:Nat} {L:List Int} (h:zaz W0 wr (.slice (some ⟨g,0,none⟩) n cap) L):n=L.length:=by
 rcases h.1.2 with⟨e,_⟩|⟨g,cap,cur,e,hb,_⟩
 · cases e
 · injection e
theorem zbX {w w1:World} {m:Nat} (h:w1.ownsRow w.heap.size 22 1 (.slice (some ⟨w.heap.size,0,none⟩) m m) m (madeCells #[Value.int .u32 0] m).toList) (hg:w.grownBy w1 none):zaz w w1 (.slice (some ⟨w.heap.size,0,none⟩) m m) (List.replicate m 0):=by
 refine⟨?_,(Below.refl _ _).grown hg (Nat.le_refl _) (fun k h=>by cases h)⟩
 rw[toList_madeCells_one]at h
 rw[List.length_replicate,List.map_replicate]
 exact h
theorem zpH (a:Option Addr) (n ca i:Nat) (zs:List Int) (x:Int) (w:World) (hr:zat w a n zs) (hx:zs[i]?.getD 0=x):Calls Tryz.prog 121 #[.slice a n ca,.int .i64 (i:Int)] w fun e w'=>e= .returned (.int .u64 x)/\ w'=w:=hx▸zaH a n ca i zs w hr
theorem zsq (a b:Option Addr) (n m ca cb:Nat) (xs ys:List Int) (w:World) (hr:zat w a n xs) (hs:zat w b m ys) (hn:n<=40000) (hm:m<=40000):Calls Tryz.prog 72 #[.slice a n ca,.slice b m cb] w (zfn (valZ xs*valZ ys) w):=by
 obtain⟨i0,hi,hz0,hz1,hz2⟩:=info_parts Tryz.info32
 have HA:=zwd hr
 have HB:=zwd hs
 have LA:=zwd (zap hr)
 have LB:=zwd (zap hs)
 have HL:Hid (xs.length=n/\ ys.length=m):=zwd ⟨hr.1,hs.1⟩
 clear hr hs
 have w1:IntKind.i64.wrap ((n:Int)+(m:Int))=(n:Int)+(m:Int):=IntWalk.i64_in _ (by omega)
 have w2:IntKind.i64.wrap ((n:Int)+(m:Int)+1)=(n:Int)+(m:Int)+1:=IntWalk.i64_in _ (by omega)
 go_enter Tryz.func72,Tryz.ntmps72
 go_wp2_with (at_make;refine wpList_make_full _ rfl _ _ 23 rfl w.heap.size 22 i0 (.int .u32 0) 1 Tryz.underlying23 hi hz0 hz1 _ _ _ _ (n+m+1) rfl rfl ?b0 ?b00 ?b1 ?b2 ?b3 ?_)
 case b0=>first|rfl|omega
 case b00=>first|rfl|omega
 case b1=>rw[hz2];omega
 case b2=>unfold maxLen;omega
 case b3=>exact Nat.le_refl _
 intro w1 hown0 hgrow
 have HO:=zwd (zbX hown0 hgrow)
 clear hown0 hgrow hz2 hz1 hz0 hi
 go_wp2_with fail
 go_loopw [6] (fun iV wr=>∃(i:Nat) (L:List Int),iV= .int .i64 (i:Int)/\ i<=n/\ zaz w wr (.slice (some ⟨w.heap.size,0,none⟩) (n+m+1) (n+m+1)) L/\ zay L/\ L.length=n+m+1/\ valZ L=valZ (xs.take i)*valZ ys) (fun iV _=>(1000001-intOf iV).toNat)
 case atStart=>exact⟨0,_,rfl,by omega,HO.out,zby _,by simp,by simp[valZ,zbW]⟩
 case round=>
  obtain⟨i,L0,rfl,hi,ho,hL,hlen,hval⟩:=hrel
  have HO0:=zwd ho
  have HL0:=zwd hL
  have HN0:=zwd hlen
  have HV0:=zwd hval
  clear ho hL hlen hval HO
  by_cases hmore:i<n
  · have t1:decide ((i:Int)<(n:Int))=true:=decide_eq_true (by omega)
    obtain⟨x,hx⟩:∃x,xs[i]?.getD 0=x:=⟨_,rfl⟩
    have HX:=zwd hx
    have xr:=HA.out.num i
    rw[hx]at xr
    clear hx
    go_wp2_with fail
    go_loopw [7,8] (fun cV kV wr=>∃(k:Nat) (c:Int) (L:List Int),cV= .int .u64 c/\ kV= .int .i64 (k:Int)/\ k<=m+1/\ 0<=c/\ c<=4294967295/\ zaz w wr (.slice (some ⟨w.heap.size,0,none⟩) (n+m+1) (n+m+1)) L/\ zay L/\ L.length=n+m+1/\ valZ L+4294967296^(i+k)*c=valZ (xs.take i)*valZ ys+x*4294967296^i*valZ (ys.take k)) (fun _ kV _=>(1000001-intOf kV).toNat)
    case atStart=>exact⟨0,0,L0,rfl,rfl,by omega,by omega,by omega,HO0.out,HL0.out,HN0.out,by rw[HV0.out];simp[valZ]⟩
    case round=>
     obtain⟨k,c,L,rfl,rfl,hk,c0,c1,ho,hL,hlen,hval⟩:=hrel
     have HO:=zwd ho
     have HLL:=zwd hL
     have HN:=zwd hlen
     have HV:=zwd hval
     clear ho hL hlen hval HO0 HL0 HN0 HV0
     by_cases hgo:k<m \/0<c
     · have hkm:k<=m:=by
        rcases Nat.lt_or_ge m k with h|h
        · have r:=zpF (xs:=xs) (ys:=ys) (i:=i) (k:=k) (c:=c) (by rw[HL.out.2];omega) (by rw[HX.out];exact HV.out)
          have:=zpG HLL.out LA.out LB.out c0 (by rw[HL.out.2];exact h) r
          omega
        · exact h
       have hkM:k<=1000000:=by omega
       have hS:=zmV (i:=i) (k:=k) (c:=c) (x:=x) (ys:=ys) (by rw[HN.out];omega) HV.out
       obtain⟨j,hj⟩:∃j,i+k=j:=⟨_,rfl⟩
       have w3:IntKind.i64.wrap ((i:Int)+(k:Int))=(j:Int):=by rw[show(i:Int)+(k:Int)=(j:Int)by omega];exact IntWalk.i64_in _ (by omega)
       rw[hj]at hS
       have jN:j<n+m+1:=by omega
       have jI:(j:Int)<((n+m+1:Nat):Int):=by omega
       have jI':(j:Int)<(n:Int)+(m:Int)+1:=by omega
       obtain⟨hc1,hf1⟩:=HO.out.cell j (by rw[HN.out];exact jN)
       have zr:0<=L[j]?.getD 0/\ L[j]?.getD 0<=4294967295:=by
        rw[List.getElem?_eq_getElem (by rw[HN.out];exact jN)]
        exact HLL.out _ (List.getElem_mem _)
       have RA:=zwd (HA.out.below HO.out.2)
       have RB:=zwd (HB.out.below HO.out.2)
       have yr:=HB.out.num k
       obtain⟨z,hz⟩:∃z,L[j]?.getD 0=z:=⟨_,rfl⟩
       obtain⟨y,hy⟩:∃y,ys[k]?.getD 0=y:=⟨_,rfl⟩
       rw[hz]at zr hc1 hS
       rw[hy]at yr hS
       have HY:=zwd hy
       have HS:=zwd hS
       have MR:=zg9 c0 c1 zr.1 zr.2 xr.1 xr.2 yr.1 yr.2
       have k0:IntKind.u64.wrap z=z:=IntWalk.u64_in _ (by omega)
       have k1:IntKind.u64.wrap (c+z)=c+z:=IntWalk.u64_in _ (by omega)
       have k2:IntKind.u64.wrap (x*y)=x*y:=IntWalk.u64_in _ (by omega)
       have k3:IntKind.u64.wrap (c+z+x*y)=c+z+x*y:=IntWalk.u64_in _ (by omega)
       have k4:IntKind.u32.wrap (c+z+x*y)=(c+z+x*y)%4294967296:=rfl
       have k5:IntKind.u64.wrap ((c+z+x*y)/4294967296)=(c+z+x*y)/4294967296:=IntWalk.u64_in _ (by omega)
       have d0:=MR.2.2.1
       have d1:=MR.2.2.2.1
       have LN:Hid (zay (L.set j ((c+z+x*y)%4294967296))):=zwd (zbD HLL.out j (by omega) (by omega))
       have HZ:=zwd hz
       clear hS hz hy MR
       rcases Nat.lt_or_ge k m with h2|h2
       · have t2:decide ((k:Int)<(m:Int))=true:=decide_eq_true (by omega)
         go_wp2_with fail
         go_quiet ((go_at_call 121;exact Calls.quiet_of_same (zpH _ _ _ _ _ _ _ (by first|exact RA.out|exact RB.out) (by first|exact HX.out|exact HY.out))))
         have O2:=zwd (HO.out.drewN nq)
         clear hc1 hf1
         generalize wr.drewN nq=w4 at*
         obtain⟨hc1,hf1⟩:=O2.out.cell j (by rw[HN.out];exact jN)
         rw[HZ.out]at hc1
         have O3:=zwd (O2.out.set (Nat.le_refl _) j ((c+z+x*y)%4294967296))
         go_wp2_with fail
         go_roundw
         case rel=>exact⟨k+1,_,_,rfl,by go_num,by omega,d0,d1,O3.out,LN.out,by rw[List.length_set];exact HN.out,HS.out⟩
         case measure=>simp only[intOf];exact zbm hkM
       · have t2:decide ((k:Int)<(m:Int))=false:=decide_eq_false (by omega)
         have t3:decide (0<c)=true:=decide_eq_true (by omega)
         go_wp2_with fail
         go_quiet ((go_at_call 121;exact Calls.quiet_of_same (zpH _ _ _ _ _ _ _ (by first|exact RA.out|exact RB.out) (by first|exact HX.out|exact HY.out))))
         have O2:=zwd (HO.out.drewN nq)
         clear hc1 hf1
         generalize wr.drewN nq=w4 at*
         obtain⟨hc1,hf1⟩:=O2.out.cell j (by rw[HN.out];exact jN)
         rw[HZ.out]at hc1
         have O3:=zwd (O2.out.set (Nat.le_refl _) j ((c+z+x*y)%4294967296))
         go_wp2_with fail
         go_roundw
         case rel=>exact⟨k+1,_,_,rfl,by go_num,by omega,d0,d1,O3.out,LN.out,by rw[List.length_set];exact HN.out,HS.out⟩
         case measure=>simp only[intOf];exact zbm hkM
     · obtain rfl:c=0:=by omega
       have R:=zwd (zpF (xs:=xs) (ys:=ys) (i:=i) (k:=k) (c:=0) (by rw[HL.out.2];omega) (by rw[HX.out];exact HV.out))
       have t2:decide ((k:Int)<(m:Int))=false:=decide_eq_false (by omega)
       have hiM:i<=1000000:=by omega
       go_wp2_with fail
       go_roundw
       case rel=>exact⟨i+1,L,by go_num,by omega,HO.out,HLL.out,HN.out,by rw[<-R.out,Int.mul_zero,Int.add_zero]⟩
       case measure=>simp only[intOf];exact zbm hiM
  · obtain rfl:i=n:=by omega
    have t1:decide ((i:Int)<(i:Int))=false:=decide_eq_false (by omega)
    have F:Hid (valZ L0=valZ xs*valZ ys):=zwd (by rw[HV0.out,List.take_of_length_le (by rw[HL.out.1];omega)])
    have RL:Hid (zat wr (some ⟨w.heap.size,0,none⟩) (i+m+1) L0):=zwd (zat.of_own (by have:=HO0.out.1;rw[HN0.out]at this;exact this) HL0.out)
    have CB:=zwd (zcV (some ⟨w.heap.size,0,none⟩) (i+m+1) (i+m+1) L0 wr RL.out (Nat.le_refl _) (by omega) (fun e=>by cases e))
    have B1:=zwd HO0.out.2
    rw[F.out]at CB
    clear HV0 F HO0
    go_wp2_with fail
    refine CB.out.mono ?_
    rintro e w5 hg
    obtain⟨a5,c5,rfl,h5⟩:=hg
    have H5:=zwd h5
    clear h5
    go_wp2_with fail
    go_ret
    exact⟨a5,c5,rfl,H5.out.1,H5.out.2.1,H5.out.2.2.1,B1.out.trans (H5.out.2.2.2.mono B1.out.size)⟩
def beV (l:List Int):Int:=l.foldl (fun v x=>v*256+x) 0
theorem zun:beV []=0:=rfl
theorem zjk (l:List Int) (x:Int):beV (l++[x])=beV l*256+x:=by unfold beV;rw[List.foldl_append];rfl
theorem zsr {l:List Int} {i:Nat} (h:i<l.length):beV (l.take (i+1))=beV (l.take i)*256+l[i]?.getD 0:=by
 rw[zg8 h,zjk]
theorem zbt {l:List Int} (h:∀x∈l,0<=x/\ x<=255):0<=beV l:=by
 have:∀(l:List Int) (v:Int),0<=v->(∀x∈l,0<=x/\ x<=255)->0<=l.foldl (fun v x=>v*256+x) v:=by
  intro l
  induction l with
  |nil=>intro v hv _;exact hv
  |cons x xs ih=>
    intro v hv hx
    have:=hx x (by simp)
    exact ih _ (by show 0<=v*256+x;omega) (fun y hy=>hx y (by simp[hy]))
 exact this l 0 (by omega) h
theorem zkn (q r:Nat):(256:Int)^(4*q+r)=4294967296^q*256^r:=by
 rw[Int.pow_add,Int.pow_mul]
 rfl
theorem zpI {L:List Int} (hL:zay L) {M:Int} {q r:Nat} (hr:r<4) (hq:q<L.length) (h:valZ L=M*256^(4*q+r+1)):L[q]?.getD 0%256^(r+1)=0:=by
 have e:=za0 L q
 rw[zaN L q]at e
 have t:=zcg hL q
 have p:=zaM q
 rw[h,Nat.add_assoc,zkn]at e
 have hT:valZ (L.take q)=0:=by
  have e3:valZ (L.take q)%4294967296^q=0:=by
   have:valZ (L.take q)=4294967296^q*(M*256^(r+1)-(L[q]?.getD 0+4294967296*valZ (L.drop (q+1)))):=by
    rw[Int.mul_sub,Int.mul_left_comm]
    omega
   rw[this,Int.mul_emod_right]
  rwa[Int.emod_eq_of_lt t.1 t.2]at e3
 rw[hT,Int.zero_add,Int.mul_left_comm]at e
 have e2:=Int.eq_of_mul_eq_mul_left (by omega) e
 generalize L[q]?.getD 0=l at*
 generalize valZ (L.drop (q+1))=R at*
 obtain rfl|rfl|rfl|rfl:r=0 \/r=1 \/r=2 \/r=3:=by omega
 all_goals simp only[Nat.zero_add,Nat.reduceAdd,Int.reducePow]at e2⊢
 all_goals omega
theorem zpJ {l b:Int} {r:Nat} (hr:r<4) (l0:0<=l) (l1:l<=4294967295) (b0:0<=b) (b1:b<=255) (h:l%256^(r+1)=0):0<=b*256^r/\ b*256^r<=4294967295/\ l+b*256^r<=4294967295:=by
 obtain rfl|rfl|rfl|rfl:r=0 \/r=1 \/r=2 \/r=3:=by omega
 all_goals simp only[Nat.zero_add,Nat.reduceAdd,Int.reducePow]at h⊢
 all_goals omega
theorem zpK {L:List Int} {M b:Int} {q r:Nat} (hq:q<L.length) (h:valZ L=M*256^(4*q+r+1)):valZ (L.set q (L[q]?.getD 0+b*256^r))=(M*256+b)*256^(4*q+r):=by
 rw[zcH L q _ hq,h,show L[q]?.getD 0+b*256^r-L[q]?.getD 0=b*256^r by omega,Int.pow_succ,zkn,Int.add_mul,Int.mul_left_comm b,Int.mul_right_comm M 256,Int.mul_assoc M _ 256]
def byN (n:Nat):List Int:=if h:n=0 then []else byN (n/256)++[((n%256:Nat):Int)]
termination_by n
decreasing_by omega
def byZ (n:Int):List Int:=byN n.toNat
theorem zss (n:Nat):∀x∈byN n,0<=x/\ x<=255:=by
 induction n using Nat.strongRecOn with
 |ind n ih=>
   rw[byN]
   split
   · simp
   · intro x hx
     rcases List.mem_append.1 hx with hx|hx
     · exact ih _ (by omega) x hx
     · simp at hx;omega
theorem zlR (n:Nat):byN n=[]↔n=0:=by
 constructor
 · intro h
   rw[byN]at h
   split at h
   · assumption
   · simp at h
 · rintro rfl
   rw[byN];rfl
theorem zeA (n:Int):∀x∈byZ n,0<=x/\ x<=255:=zss _
theorem zmW {v c:Int} (hv:0<=v) (c0:0<=c) (c1:c<=255):byZ (v*256+c)=if 0<(byZ v).length \/0<c then byZ v++[c]else byZ v:=by
 have e:(v*256+c).toNat=v.toNat*256+c.toNat:=by omega
 unfold byZ
 by_cases h:v.toNat*256+c.toNat=0
 · have v0:v.toNat=0:=by omega
   have c00:c=0:=by omega
   rw[e,h,v0,(zlR 0).2 rfl,c00]
   rfl
 · have hb:byN (v.toNat*256+c.toNat)=byN v.toNat++[c]:=by
    rw[byN,dif_neg h,show(v.toNat*256+c.toNat)/256=v.toNat by omega,show(((v.toNat*256+c.toNat)%256:Nat):Int)=c by omega]
   rw[e,hb,if_pos]
   by_cases h2:0<c
   · exact .inr h2
   · left
     apply List.length_pos_iff.2
     intro h3
     have:=(zlR _).1 h3
     omega
theorem zuo {D x:Int} {k:Nat} (hk:k<4):(D*256^(3-k)+x/256^(k+1))*256+x/256^k%256=D*256^(4-k)+x/256^k:=by
 obtain rfl|rfl|rfl|rfl:k=0 \/k=1 \/k=2 \/k=3:=by omega
 all_goals simp only[Nat.zero_add,Nat.reduceAdd,Nat.reduceSub,Int.reducePow]
 all_goals omega
def bitN (n:Nat):Int:=if h:n=0 then 0 else bitN (n/2)+1
termination_by n
decreasing_by omega
def bitZ (n:Int):Int:=bitN n.toNat
theorem zha:bitZ 0=0:=by unfold bitZ;rw[bitN];rfl
theorem zko {n:Int} (h:0<n):bitZ n=bitZ (n/2)+1:=by
 unfold bitZ
 rw[bitN,dif_neg (by omega),show n.toNat/2=(n/2).toNat by omega]
theorem zlS:∀(k:Nat) {x y:Int},0<=y->y<2^k->0<x->bitZ (y+2^k*x)=bitZ x+k
 |0,x,y,h0,h1,hx=>by
   simp at h1
   rw[show y=0 by omega]
   simp
 |k+1,x,y,h0,h1,hx=>by
   have p:(0:Int)<2^k:=Int.pow_pos (by decide)
   rw[Int.pow_succ]at h1⊢
   have q:0<2^k*x:=Int.mul_pos p hx
   have e:y+2^k*2*x=y+2*(2^k*x):=by rw[Int.mul_comm (2^k) 2,Int.mul_assoc]
   rw[e,zko (by omega),show(y+2*(2^k*x))/2=y/2+2^k*x by omega,zlS k (by omega) (by omega) hx]
   omega
theorem zog (j:Nat):(4294967296:Int)^j=2^(32*j):=by rw[Int.pow_mul];rfl
theorem zoh {l:List Int} (hl:zay l) {k:Nat} (hk:l.length=k+1) (h:l[k]?.getD 0≠0):bitZ (valZ l)=32*(k:Int)+bitZ (l[k]?.getD 0):=by
 have e:=za0 l k
 rw[zaN l k,show l.drop (k+1)=[]from List.drop_of_length_le (by omega)]at e
 have t:=zcg hl k
 have hx:0<l[k]?.getD 0:=by
  rw[List.getElem?_eq_getElem (by omega)]at h⊢
  have:=hl _ (List.getElem_mem (show k<l.length by omega))
  simp only[Option.getD_some]at h⊢
  omega
 rw[e,valZ,Int.mul_zero,Int.add_zero]
 rw[zog]at t⊢
 rw[zlS _ t.1 t.2 hx]
 omega
theorem zmX (zs:List Int):∀m:Nat,m<=zs.length->(∀i,m<=i->zs[i]?.getD 0=0)->∃k,k<=zs.length/\ (∀i,k<=i->zs[i]?.getD 0=0)/\ (k=0 \/zs[k-1]?.getD 0≠0)
 |0,h0,hz=>⟨0,h0,hz,.inl rfl⟩
 |m+1,h0,hz=>by
   by_cases h:zs[m]?.getD 0=0
   · exact zmX zs m (by omega) (fun i hi=>by
      rcases Nat.eq_or_lt_of_le hi with rfl|h2
      · exact h
      · exact hz i h2)
   · exact⟨m+1,h0,hz,.inr h⟩
theorem zcn {zs:List Int} (h:zay zs):(limZ (valZ zs)).length<=zs.length/\ zs.take (limZ (valZ zs)).length=limZ (valZ zs):=by
 obtain⟨k,hk,hz,hne⟩:=zmX zs zs.length (Nat.le_refl _) (fun i hi=>by rw[List.getElem?_eq_none hi];rfl)
 have e:=zlQ h hk hz hne
 have hl:=congrArg List.length e
 rw[List.length_take,Nat.min_eq_left hk]at hl
 rw[<-hl]
 exact⟨hk,e⟩
theorem zat.norm {w:World} {a:Option Addr} {n:Nat} {zs:List Int} (h:zat w a n zs):zat w a (limZ (valZ zs)).length (limZ (valZ zs)):=by
 have t:=zcn h.2.1
 have hl:=h.1
 have:=h.first _ (by rw[<-hl];exact t.1)
 rwa[t.2]at this
theorem zst {zs:List Int} (h:zay zs) {k:Nat} (hk:k<=zs.length) (hz:∀i,k<=i->zs[i]?.getD 0=0) (hne:k=0 \/zs[k-1]?.getD 0≠0):k=(limZ (valZ zs)).length:=by
 have hl:=congrArg List.length (zlQ h hk hz hne)
 rw[List.length_take,Nat.min_eq_left hk]at hl
 exact hl
theorem zbg (a:Option Addr) (n ca:Nat) (zs:List Int) (w:World) (hr:zat w a n zs) (hca:n<=ca) (hn:n<=1000000) (hnil:a=none->ca=0):
 Calls Tryz.prog 155 #[.slice a n ca] w fun e w'=>e= .returned (.slice a (limZ (valZ zs)).length (limZ (valZ zs)).length)/\ w'=w:=by
 have HR:=zwd hr
 have NI:=zwd hnil
 have hl:=hr.1
 clear hr hnil
 go_enter Tryz.func155,Tryz.ntmps155
 go_wp2_with fail
 go_loop [3] (fun i=>∃k:Nat,k<=n/\ i= .int .i64 (k:Int)/\ (∀j,k<=j->zs[j]?.getD 0=0)) (fun i=>(intOf i).toNat)
 case atStart=>exact⟨n,Nat.le_refl _,rfl,fun j hj=>by rw[List.getElem?_eq_none (by omega)];rfl⟩
 case round=>
  obtain⟨k,hk,rfl,hz⟩:=hrel
  have HZ:=zwd hz
  clear hz
  by_cases hmore:∃j,k=j+1/\ zs[j]?.getD 0=0
  · obtain⟨j,rfl,hx⟩:=hmore
    obtain⟨b,off,rfl,hb,hc⟩:=HR.out.2.2 (by omega)
    have c0:=hc j (by omega)
    rw[hx]at c0
    have t0:decide ((0:Int)<(j:Int)+1)=true:=decide_eq_true (by omega)
    have w1:IntKind.i64.wrap ((j:Int)+1-1)=(j:Int):=by rw[show(j:Int)+1-1=(j:Int)by omega];exact IntWalk.i64_in _ (by omega)
    have wj:IntKind.i64.wrap (j:Int)=(j:Int):=IntWalk.i64_in _ (by omega)
    have jI:(j:Int)<(n:Int):=by omega
    have jN:(0:Int)<=(j:Int):=by omega
    have NZ:Hid (∀i,j<=i->zs[i]?.getD 0=0):=zwd (fun i hi=>by
     rcases Nat.eq_or_lt_of_le hi with rfl|h
     · exact hx
     · exact HZ.out i h)
    clear hc HZ hx
    rw[show((j+1:Nat):Int)=(j:Int)+1 by omega]
    go_wp2_with fail
    go_round
    case rel=>exact⟨j,by omega,by first|rfl|go_num,NZ.out⟩
    case measure=>simp only[intOf];omega
  · have hend:k=0 \/zs[k-1]?.getD 0≠0:=by
     rcases Nat.eq_zero_or_pos k with h|h
     · exact .inl h
     · exact .inr (fun e=>hmore ⟨k-1,by omega,e⟩)
    have F:=zwd (zst (zap HR.out) (by omega) HZ.out hend)
    have kI:(k:Int)<=(ca:Int):=by omega
    have kN:(0:Int)<=(k:Int):=by omega
    clear HZ
    by_cases h0:k=0
    · subst h0
      have t0:decide ((0:Int)<((0:Nat):Int))=false:=by simp
      rw[show((0:Nat):Int)=0 by rfl]at kI kN⊢
      cases a with
      |none=>
        obtain rfl:=NI.out rfl
        go_wp2_with fail
        go_ret
        exact⟨by rw[<-F.out];rfl,rfl⟩
      |some ad=>
        go_wp2_with fail
        go_ret
        exact⟨by rw[<-F.out];rfl,rfl⟩
    · have hx:zs[k-1]?.getD 0≠0:=by
       rcases hend with h|h
       · exact absurd h h0
       · exact h
      obtain⟨j,rfl⟩:∃j,k=j+1:=⟨k-1,by omega⟩
      rw[show j+1-1=j by omega]at hx
      obtain⟨b,off,rfl,hb,hc⟩:=HR.out.2.2 (by omega)
      have c0:=hc j (by omega)
      generalize hg:zs[j]?.getD 0=x at*
      clear hg
      have t0:decide ((0:Int)<(j:Int)+1)=true:=decide_eq_true (by omega)
      have t1:(x==0)=false:=by simpa using hx
      have w1:IntKind.i64.wrap ((j:Int)+1-1)=(j:Int):=by rw[show(j:Int)+1-1=(j:Int)by omega];exact IntWalk.i64_in _ (by omega)
      have wj:IntKind.i64.wrap (j:Int)=(j:Int):=IntWalk.i64_in _ (by omega)
      have jI:(j:Int)<(n:Int):=by omega
      have jN:(0:Int)<=(j:Int):=by omega
      clear hc hend hmore
      rw[show((j+1:Nat):Int)=(j:Int)+1 by omega]at kI kN⊢
      go_wp2_with fail
      go_ret
      exact⟨by rw[<-F.out];rfl,rfl⟩
theorem zlT (x:Int) (w:World):Calls Tryz.prog 193 #[.int .i64 x] w fun e w'=>e= .returned (.bool false)/\ w'=w:=by
 have t0:(x !=x)=false:=by simp
 go_enter Tryz.func193,Tryz.ntmps193
 go_wp2_with fail
 go_ret
 exact⟨rfl,rfl⟩
theorem zlU (x:Int) (w:World):Calls Tryz.prog 194 #[.int .u32 x] w fun e w'=>e= .returned (.bool false)/\ w'=w:=by
 have t0:(x !=x)=false:=by simp
 go_enter Tryz.func194,Tryz.ntmps194
 go_wp2_with fail
 go_ret
 exact⟨rfl,rfl⟩
theorem zlV (x y:Int) (w:World):Calls Tryz.prog 156 #[.int .i64 x,.int .i64 y] w fun e w'=>e= .returned (.int .i64 (cmpI x y))/\ w'=w:=by
 go_enter Tryz.func156,Tryz.ntmps156
 rcases Int.lt_trichotomy x y with h1|h1|h1
 · have t1:decide (x<y)=true:=decide_eq_true h1
   have E:cmpI x y= -1:=if_pos h1
   rw[E]
   clear E
   go_wp2_with (go_at_call 193;go_must (refine(zlT _ _).mono ?_;rintro e w' ⟨rfl,rfl⟩))
   go_ret
   exact⟨rfl,rfl⟩
 · have t1:decide (x<y)=false:=decide_eq_false (by omega)
   have t2:decide (y<x)=false:=decide_eq_false (by omega)
   have E:cmpI x y=0:=by unfold cmpI;rw[if_neg (by omega),if_neg (by omega)]
   rw[E]
   clear E
   go_wp2_with (go_at_call 193;go_must (refine(zlT _ _).mono ?_;rintro e w' ⟨rfl,rfl⟩))
   go_ret
   exact⟨rfl,rfl⟩
 · have t1:decide (x<y)=false:=decide_eq_false (by omega)
   have t2:decide (y<x)=true:=decide_eq_true (by omega)
   have E:cmpI x y=1:=by unfold cmpI;rw[if_neg (by omega),if_pos h1]
   rw[E]
   clear E
   go_wp2_with (go_at_call 193;go_must (refine(zlT _ _).mono ?_;rintro e w' ⟨rfl,rfl⟩))
   go_ret
   exact⟨rfl,rfl⟩
theorem zlW (x y:Int) (w:World):Calls Tryz.prog 157 #[.int .u32 x,.int .u32 y] w fun e w'=>e= .returned (.int .i64 (cmpI x y))/\ w'=w:=by
 go_enter Tryz.func157,Tryz.ntmps157
 rcases Int.lt_trichotomy x y with h1|h1|h1
 · have t1:decide (x<y)=true:=decide_eq_true h1
   have E:cmpI x y= -1:=if_pos h1
   rw[E]
   clear E
   go_wp2_with (go_at_call 194;go_must (refine(zlU _ _).mono ?_;rintro e w' ⟨rfl,rfl⟩))
   go_ret
   exact⟨rfl,rfl⟩
 · have t1:decide (x<y)=false:=decide_eq_false (by omega)
   have t2:decide (y<x)=false:=decide_eq_false (by omega)
   have E:cmpI x y=0:=by unfold cmpI;rw[if_neg (by omega),if_neg (by omega)]
   rw[E]
   clear E
   go_wp2_with (go_at_call 194;go_must (refine(zlU _ _).mono ?_;rintro e w' ⟨rfl,rfl⟩))
   go_ret
   exact⟨rfl,rfl⟩
 · have t1:decide (x<y)=false:=decide_eq_false (by omega)
   have t2:decide (y<x)=true:=decide_eq_true (by omega)
   have E:cmpI x y=1:=by unfold cmpI;rw[if_neg (by omega),if_pos h1]
   rw[E]
   clear E
   go_wp2_with (go_at_call 194;go_must (refine(zlU _ _).mono ?_;rintro e w' ⟨rfl,rfl⟩))
   go_ret
   exact⟨rfl,rfl⟩
theorem zfo (n:Int) (h0:0<=n) (h1:n<2^32):IntKind.u32.wrap n=n:=by rw[IntKind.wrap_u32];omega
theorem nand (x y:Nat) (hx:x<4294967296) (hy:y<4294967296):bits .and .u32 (x:Int) (y:Int)=((x&&&y:Nat):Int):=(bits_nat .u32 32 (by decide) zfo x y (by omega) (by omega)).1
theorem nor (x y:Nat) (hx:x<4294967296) (hy:y<4294967296):bits .or .u32 (x:Int) (y:Int)=((x|||y:Nat):Int):=(bits_nat .u32 32 (by decide) zfo x y (by omega) (by omega)).2
theorem nxor (x y:Nat) (hx:x<4294967296) (hy:y<4294967296):bits .xor .u32 (x:Int) (y:Int)=((x^^^y:Nat):Int):=by
 have h1:x%2^IntKind.u32.bits=x:=Nat.mod_eq_of_lt hx
 have h2:y%2^IntKind.u32.bits=y:=Nat.mod_eq_of_lt hy
 simp only[bits,BitVec.ofInt_natCast,BitVec.toNat_xor,BitVec.toNat_ofNat,h1,h2]
 exact zfo _ (Int.natCast_nonneg _) (by exact_mod_cast Nat.xor_lt_two_pow (n:=32) hx hy)
theorem nnot (x:Nat) (hx:x<4294967296):bits .xor .u32 IntKind.u32.max (x:Int)=((4294967295-x:Nat):Int):=by
 have e:=nxor 4294967295 x (by omega) hx
 rw[show IntKind.u32.max=((4294967295:Nat):Int)by decide,e]
 congr 1
 have h:=congrArg BitVec.toNat (BitVec.xor_allOnes (x:=BitVec.ofNat 32 x))
 rw[BitVec.toNat_xor,BitVec.toNat_not,BitVec.toNat_allOnes,BitVec.toNat_ofNat,Nat.mod_eq_of_lt hx]at h
 rw[Nat.xor_comm]
 exact h
theorem zup (x y c:Nat) (hx:x<4294967296) (hy:y<4294967296) (hc:c<=1) (d:Nat) (hd:((d:Nat):Int)=((x:Int)-y-c)%4294967296):
 ((((4294967295-x)&&&y)|||((4294967295-(x^^^y))&&&d))>>>31:Nat)=if x<y+c then 1 else 0:=by
 have dl:d<4294967296:=by omega
 have xl:x^^^y<4294967296:=Nat.xor_lt_two_pow (n:=32) hx hy
 have e1:(x^^^y)/2147483648=(x/2147483648)^^^(y/2147483648):=by
  have:= @Nat.shiftRight_xor_distrib 31 x y
  simpa[Nat.shiftRight_eq_div_pow]using this
 rw[Nat.shiftRight_or_distrib,Nat.shiftRight_and_distrib,Nat.shiftRight_and_distrib]
 simp only[Nat.shiftRight_eq_div_pow]
 rw[show(2:Nat)^31=2147483648 by decide]
 have n1:(4294967295-x)/2147483648=1-x/2147483648:=by omega
 have n2:(4294967295-(x^^^y))/2147483648=1-(x/2147483648^^^y/2147483648):=by rw[<-e1];omega
 rw[n1,n2]
 have hX:x/2147483648=0 \/x/2147483648=1:=by omega
 have hY:y/2147483648=0 \/y/2147483648=1:=by omega
 have hD:d/2147483648=0 \/d/2147483648=1:=by omega
 clear n1 n2 e1 xl
 rcases hX with X|X<;>rcases hY with Y|Y<;>rcases hD with D|D<;>rw[X,Y,D]<;>simp<;>omega
def zvq (F:FuncId) (s:Int):Prop:=∀(x y c:Int) (w:World),0<=x->x<=4294967295->0<=y->y<=4294967295->0<=c->c<=1->
 Calls Tryz.prog F #[.int .u32 x,.int .u32 y,.int .u32 c] w fun e w'=>w'=w/\ ∃r q:Int,e= .returned (.tuple #[.int .u32 r,.int .u32 q])/\ 0<=r/\ r<=4294967295/\ 0<=q/\ q<=1/\ r+s*(4294967296*q)=x+s*(y+c)
theorem zhb:zvq 236 1:=by
 intro x y c w x0 x1 y0 y1 c0 c1
 have k1:IntKind.u64.wrap x=x:=IntWalk.u64_in _ (by omega)
 have k2:IntKind.u64.wrap y=y:=IntWalk.u64_in _ (by omega)
 have k3:IntKind.u64.wrap c=c:=IntWalk.u64_in _ (by omega)
 have k4:IntKind.u64.wrap (x+y)=x+y:=IntWalk.u64_in _ (by omega)
 have k5:IntKind.u64.wrap (x+y+c)=x+y+c:=IntWalk.u64_in _ (by omega)
 have k6:IntKind.u32.wrap (x+y+c)=(x+y+c)%4294967296:=rfl
 have k7:IntKind.u64.wrap ((x+y+c)/4294967296)=(x+y+c)/4294967296:=IntWalk.u64_in _ (by omega)
 have k8:IntKind.u32.wrap ((x+y+c)/4294967296)=(x+y+c)/4294967296:=IntWalk.u32_in _ (by omega)
 go_enter Tryz.func236,Tryz.ntmps236
 go_wp2_with fail
 go_ret2
 exact⟨rfl,_,_,rfl,by omega,by omega,by omega,by omega,by omega⟩
theorem zhc:zvq 235 (-1):=by
 intro x y c w x0 x1 y0 y1 c0 c1
 have k1:IntKind.u32.wrap (x-y)=(x-y)%4294967296:=rfl
 have k2:IntKind.u32.wrap ((x-y)%4294967296-c)=(x-y-c)%4294967296:=by
  show((x-y)%4294967296-c)%4294967296=_
  omega
 obtain⟨d,hd⟩:∃d:Nat,(d:Int)=(x-y-c)%4294967296:=⟨((x-y-c)%4294967296).toNat,by omega⟩
 rw[<-hd]at k2
 obtain⟨X,rfl⟩:∃X:Nat,x=(X:Int):=⟨x.toNat,by omega⟩
 obtain⟨Y,rfl⟩:∃Y:Nat,y=(Y:Int):=⟨y.toNat,by omega⟩
 obtain⟨C,rfl⟩:∃C:Nat,c=(C:Int):=⟨c.toNat,by omega⟩
 have dl:d<4294967296:=by omega
 have T:=zup X Y C (by omega) (by omega) (by omega) d hd
 have xl:X^^^Y<4294967296:=Nat.xor_lt_two_pow (n:=32) (by omega) (by omega)
 have b1:=nnot X (by omega)
 have b2:=nxor X Y (by omega) (by omega)
 have b3:=nnot (X^^^Y) (by omega)
 have b4:=nand (4294967295-X) Y (by omega) (by omega)
 have b5:=nand (4294967295-(X^^^Y)) d (by omega) (by omega)
 have l4:(4294967295-X)&&&Y<4294967296:=Nat.lt_of_le_of_lt Nat.and_le_right (by omega)
 have l5:(4294967295-(X^^^Y))&&&d<4294967296:=Nat.lt_of_le_of_lt Nat.and_le_right dl
 have b6:=nor _ _ l4 l5
 rw[Nat.shiftRight_eq_div_pow,show(2:Nat)^31=2147483648 by decide]at T
 have T2:((((4294967295-X)&&&Y|||(4294967295-(X^^^Y))&&&d:Nat):Int))/2147483648=if X<Y+C then 1 else 0:=by
  have:=congrArg (fun n:Nat=>(n:Int)) T
  rw[Int.natCast_ediv]at this
  rw[show((2147483648:Nat):Int)=2147483648 by rfl]at this
  rw[this]
  split<;>rfl
 generalize((4294967295-X)&&&Y|||(4294967295-(X^^^Y))&&&d:Nat)=u at*
 have k3:IntKind.u32.wrap ((u:Int)/2147483648)=(u:Int)/2147483648:=by
  rw[T2]
  split<;>rfl
 have HD:=zwd hd
 have HT:=zwd T2
 clear hd T T2 xl dl
 go_enter Tryz.func235,Tryz.ntmps235
 go_wp2_with fail
 go_ret2
 have hd:=HD.out
 have hT:=HT.out
 have hq:(u:Int)/2147483648=0/\ Y+C<=X \/(u:Int)/2147483648=1/\ X<Y+C:=by
  rw[hT]
  split
  · exact .inr ⟨rfl,by assumption⟩
  · exact .inl ⟨rfl,by omega⟩
 exact⟨rfl,_,_,rfl,by omega,by omega,by omega,by omega,by omega⟩
end Go.Proofs.YtpgahclpbdpbnaaGreatDoor
