import Derived.Test.YtpgahclpbdpbnaaGreatDoorGAB
import Derived.Test.YtpgahclpbdpbnaaGreatDoorGAA
import Derived.Laws.ResultCell
import Derived.Deep.LoopGhost
import Derived.Lib.Strings
import Derived.Test.YtpgahclpbdpbnaaGreatDoorRows
import Derived.WalkKit
import Derived.WalkSpells
import Derived.WalkLawsBesides
import Derived.Deep.QuietTactic
import Derived.BigQuiet
import Derived.Lib.Hide
import Derived.Laws.BitsLemmas
import Derived.Lib.SmallJoins
import Derived.ChangeArms
import Derived.ChangeSlices
import Derived.Deep.Fields
set_option maxHeartbeats 4000000
set_option maxRecDepth 100000
namespace Go.Proofs.YtpgahclpbdpbnaaGreatDoor
open Go.RowKit
set_option linter.unusedVariables false
def zaS:List Int->List Int
 | []=> []
 |z::r=>if z=0 then zaS r else z::r
theorem zkD {zs:List Int} {k:Nat} (h:k<zs.length):zaS (zs.drop k)=if zs[k]?.getD 0=0 then zaS (zs.drop (k+1))else zs.drop k:=by
 rw[List.drop_eq_getElem_cons h,zaS,List.getElem?_eq_getElem h]
 rfl
theorem zjn (zs:List Int):(zaS zs).length<=zs.length:=by
 induction zs with
 |nil=>exact Nat.le_refl _
 |cons z r ih=>
   rw[zaS]
   split
   · rw[List.length_cons];omega
   · exact Nat.le_refl _
theorem zgM {zs:List Int} {x:Int} (h:x∈zaS zs):x∈zs:=by
 induction zs with
 |nil=>exact h
 |cons z r ih=>
   rw[zaS]at h
   split at h
   · exact List.mem_cons_of_mem _ (ih h)
   · exact h
theorem zqa (a:Option Addr) (n ca:Nat) (zs:List Int) (w:World) (hr:Row w a n zs) (hnc:n<=ca) (hn:n<=100000) (hnil:a=none->ca=0):Calls Tryz.prog 80 #[.slice a n ca] w (zdK (zaS zs) w):=by
 have R0:=zwd hr
 have NI:=zwd hnil
 have HL:=zwd hr.1
 clear hr hnil
 go_enter Tryz.func80,Tryz.ntmps80
 go_wp2_with fail
 go_loopw [3] (fun i wr=>∃k:Nat,k<=n/\ i= .int .i64 (k:Int)/\ wr=w/\ zaS (zs.drop k)=zaS zs) (fun i _=>n-(intOf i).toNat)
 case atStart=>exact⟨0,by omega,rfl,rfl,by simp⟩
 case round=>
  obtain⟨k,hk,rfl,rfl,hb⟩:=hrel
  have HB:=zwd hb
  clear hb
  have tail:∀j:Nat,j=k->zaS zs=zs.drop k->True:=fun _ _ _=>trivial
  clear tail
  by_cases hlt:k<n
  · obtain⟨b,off,rfl,hbl,hc⟩:=R0.out.2.2 (by omega)
    have c0:=hc k hlt
    have z0:=R0.out.byte k
    have BD:=zwd (zkD (zs:=zs) (k:=k) (by rw[HL.out];exact hlt))
    clear hc
    by_cases hz:zs[k]?.getD 0=0
    · have N:Hid (zaS (zs.drop (k+1))=zaS zs):=by
       rw[<-HB.out,BD.out,if_pos hz]
       exact zwd rfl
      rw[hz]at c0
      clear BD HB hz z0
      go_wp2_with fail
      go_roundw
      case rel=>exact⟨k+1,by omega,by go_num,trivial,N.out⟩
      case measure=>simp[intOf];omega
    · have F:Hid (zaS zs=zs.drop k):=by
       rw[<-HB.out,BD.out,if_neg hz]
       exact zwd rfl
      have t0:(zs[k]?.getD 0==0)=false:=by simpa using hz
      generalize zs[k]?.getD 0=x at c0 z0 t0
      have hck:¬ca=k:=by omega
      have RW:=zwd (R0.out.rest k ca hk hnc)
      rw[if_neg hck,Option.map_some,Addr.add_lit]at RW
      have RX:=zwd (RW.out.below ((Below.refl wr.heap.size wr).alloc (Nat.le_refl _) (.cells #[] 5)))
      clear BD HB hz RW
      go_wp2_with (at_builtin;go_must (refine zag (W0:=wr) (L:=[]) (zs:=zs.drop k) rfl _ _ rfl rfl (zdJ wr) rfl RX.out (fun e=>by cases e) (by simp;omega) ?_;intro V1 w1 ho1;rw[List.nil_append]at ho1;have HO:=zwd ho1;clear ho1))
      go_ret
      exact⟨V1,rfl,by rw[F.out];exact HO.out⟩
  · obtain rfl:k=n:=by omega
    have F:Hid (zaS zs=[]):=by
     rw[<-HB.out,List.drop_of_length_le (by rw[HL.out];exact Nat.le_refl _)]
     exact zwd rfl
    have RX:=zwd (Row.nil (wr.alloc (.cells #[] 5)))
    by_cases hck:ca=k
    · clear HB
      subst hck
      go_wp2_with (at_builtin;go_must (refine zag (W0:=wr) (L:=[]) (zs:=[]) rfl _ _ rfl rfl (zdJ wr) rfl (RX.out _) (fun _=>by first|rfl|omega) (by simp) ?_;intro V1 w1 ho1;rw[List.nil_append]at ho1;have HO:=zwd ho1;clear ho1))
      go_ret
      exact⟨V1,rfl,by rw[F.out];exact HO.out⟩
    · clear HB
      have NA:Hid (Option.map (fun x=>x.add k) a=none->ca-k=0):=fun e=>by
       have:a=none:=by
        cases a with
        |none=>rfl
        |some x=>cases e
       rw[NI.out this]
       omega
      go_wp2_with (at_builtin;go_must (refine zag (W0:=wr) (L:=[]) (zs:=[]) rfl _ _ rfl rfl (zdJ wr) rfl (RX.out _) NA.out (by simp) ?_;intro V1 w1 ho1;rw[List.nil_append]at ho1;have HO:=zwd ho1;clear ho1))
      go_ret
      exact⟨V1,rfl,by rw[F.out];exact HO.out⟩
end Go.Proofs.YtpgahclpbdpbnaaGreatDoor
namespace Go.Proofs.YtpgahclpbdpbnaaGreatDoor
open Go.RowKit
theorem zl3 {k:IntKind} {a b:Int} (h:a=b):Ending.returned (.int k a)= .returned (.int k b):=by rw[h]
end Go.Proofs.YtpgahclpbdpbnaaGreatDoor
namespace Go.Proofs.YtpgahclpbdpbnaaGreatDoor
open Go.RowKit
mutual
def zaW:T->T->Bool
 | .node t b ks,y=>(t==y.tag)&&((b==y.body)&&((ks.length==y.kids.length)&&za6 ks y.kids))
def za6:List T->List T->Bool
 | [],_=>true
 |_::_,[]=>true
 |x::r,y::q=>zaW x y&&za6 r q
end
theorem zgN (x y:T):zaW x y=((x.tag==y.tag)&&((x.body==y.body)&&((x.kids.length==y.kids.length)&&za6 x.kids y.kids))):=by
 obtain⟨t,b,ks⟩:=x
 rw[zaW]
 rfl
theorem zb1 (x:T):zaW x x=true:=by
 refine T.each (p:=fun x=>zaW x x=true) ?_ x
 intro x ih
 have key:∀ks:List T,(∀k∈ks,zaW k k=true)->za6 ks ks=true:=by
  intro ks
  induction ks with
  |nil=>intro _;rw[za6]
  |cons k r ihr=>
    intro h
    rw[za6,h k (by simp),ihr (fun x hx=>h x (by simp[hx]))]
    rfl
 rw[zgN,key x.kids ih]
 simp
theorem zjo (x:T):∀y,zaW x y=true->x=y:=by
 refine T.each (p:=fun x=>∀y,zaW x y=true->x=y) ?_ x
 intro x ih y h
 have key:∀ks ys:List T,(∀k∈ks,∀y,zaW k y=true->k=y)->ks.length=ys.length->za6 ks ys=true->ks=ys:=by
  intro ks
  induction ks with
  |nil=>intro ys _ hl _;exact(List.eq_nil_of_length_eq_zero (by simpa using hl.symm)).symm
  |cons k r ihr=>
    intro ys hk hl h
    cases ys with
    |nil=>simp at hl
    |cons y q=>
      rw[za6,Bool.and_eq_true]at h
      rw[hk k (by simp) y h.1,ihr q (fun x hx=>hk x (by simp[hx])) (by simpa using hl) h.2]
 rw[zgN,Bool.and_eq_true,Bool.and_eq_true,Bool.and_eq_true]at h
 obtain⟨h1,h2,h3,h4⟩:=h
 have h5:=key x.kids y.kids ih (by simpa using h3) h4
 obtain⟨t,b,ks⟩:=x
 obtain⟨t',b',ks'⟩:=y
 simp only[T.tag,T.body,T.kids,beq_iff_eq]at h1 h2 h5
 rw[h1,h2,h5]
theorem zkE {xs ys:List T} {i:Nat} {x y:T} (hx:xs[i]?=some x) (hy:ys[i]?=some y):za6 (xs.drop i) (ys.drop i)=(zaW x y&&za6 (xs.drop (i+1)) (ys.drop (i+1))):=by
 obtain⟨h1,rfl⟩:=List.getElem?_eq_some_iff.1 hx
 obtain⟨h2,rfl⟩:=List.getElem?_eq_some_iff.1 hy
 rw[List.drop_eq_getElem_cons h1,List.drop_eq_getElem_cons h2,za6]
theorem zna {xs:List T} {i:Nat} (h:xs.length<=i) (ys:List T):za6 (xs.drop i) ys=true:=by
 rw[List.drop_of_length_le h,za6]
theorem zvz {x y:ByteArray} (h:¬x=y):(x.toList==y.toList)=false:=by
 rw[beq_eq_false_iff_ne]
 intro e
 rw[Lib.toList_data,Lib.toList_data]at e
 obtain⟨⟨x⟩⟩:=x
 obtain⟨⟨y⟩⟩:=y
 exact h (by rw[show x=y from e])
theorem zkF {xs ys:List Int} (hx:∀z∈xs,0<=z/\ z<=255) (hy:∀z∈ys,0<=z/\ z<=255):((strOfNums xs).toList==(strOfNums ys).toList)=(xs==ys):=by
 by_cases h:xs=ys
 · subst h
   simp
 · rw[zvz (fun e=>h (by rw[<-zcG xs hx,<-zcG ys hy,e]))]
   exact(beq_eq_false_iff_ne.2 h).symm
theorem Box.later {w wr:World} {g:Nat} {t:T} {A:Option Addr} {n c:Nat} {K:Option Addr} {m d:Nat} (h:Box w wr g t A n c K m d):∀W,Ext wr.drew W->W.cell? ⟨g,2,none⟩=some (.slice K m d):=
 fun _ hW=>(hW.cell (p:=⟨g,2,none⟩) h.blk.lt).trans (h.blk.cell 2)
theorem Box.wider {w wr:World} {o:Obj} {t:T} {A:Option Addr} {n c:Nat} {K:Option Addr} {m d:Nat} (h:Box (w.alloc o) wr (w.alloc o).heap.size t A n c K m d):Box w wr (w.heap.size+1) t A n c K m d:=by
 have e:(w.alloc o).heap.size=w.heap.size+1:=by simp
 exact⟨by omega,e▸h.blk,(((Below.refl _ _).alloc (Nat.le_refl _) o:Below w.heap.size w (w.alloc o))).trans (h.below.mono (by omega)),h.has⟩
theorem zdR (x:T):∀(y:T) (u v:Value) (w:World),x.In w u->y.In w v->
 Calls Tryz.prog 9 #[u,v] w fun e w'=>e= .returned (.bool (zaW x y))/\ Below w.heap.size w w':=by
 refine T.each (p:=fun x=>∀(y:T) (u v:Value) (w:World),x.In w u->y.In w v->Calls Tryz.prog 9 #[u,v] w fun e w'=>e= .returned (.bool (zaW x y))/\ Below w.heap.size w w') ?_ x
 clear x
 intro x ih y u v w hx hy
 obtain⟨A,n,c,K,m,d,rfl,wx,rx,hn,hc,hm,hm',hks⟩:=hx.open
 obtain⟨A2,n2,c2,K2,m2,d2,rfl,wy,ry,hn2,hc2,hk2,hm2,hks2⟩:=hy.open
 have IH:=zwd ih
 have BX:=zwd ((Box.start hx).go ((Below.refl _ _).alloc (Nat.le_refl _) (.cells #[.int .i64 y.tag,.slice A2 n2 c2,.slice K2 m2 d2] 30)))
 have BY:=zwd (Box.start (w:=w.alloc (.cells #[.int .i64 x.tag,.slice A n c,.slice K m d] 30)) (T.In.below ((Below.refl _ _).alloc (Nat.le_refl _) _) y hy))
 have B2:Hid (Below w.heap.size w ((w.alloc (.cells #[.int .i64 x.tag,.slice A n c,.slice K m d] 30)).alloc (.cells #[.int .i64 y.tag,.slice A2 n2 c2,.slice K2 m2 d2] 30))):=((Below.refl _ _).alloc (Nat.le_refl _) _).alloc (by simp) _
 have SE:=zwd (zgN x y)
 have HM:=zwd hm
 have HM2:=zwd hk2
 unfold maxLen at hm' hm2 hn hn2
 clear hks hks2 hc hc2 ih
 by_cases e1:x.tag=y.tag
 rotate_left
 · have t1:(x.tag !=y.tag)=true:=by simpa using e1
   have F:Hid (zaW x y=false):=by rw[SE.out];simp[e1,Hid]
   clear hm hk2 e1
   go_enter Tryz.func9,Tryz.ntmps9
   go_wp2_with fail
   go_ret
   exact⟨zaj F.out.symm,B2.out⟩
 have E1:=zwd e1
 have t1:(x.tag !=y.tag)=false:=by simpa using e1
 have kx:=zbx c ((rx.below (w':=w.alloc (.cells #[.int .i64 x.tag,.slice A n c,.slice K m d] 30)) ((Below.refl _ _).alloc (Nat.le_refl _) _)).below ((Below.refl _ _).alloc (Nat.le_refl _) (.cells #[.int .i64 y.tag,.slice A2 n2 c2,.slice K2 m2 d2] 30)))
 have ky:=zbx c2 ((ry.below (w':=w.alloc (.cells #[.int .i64 x.tag,.slice A n c,.slice K m d] 30)) ((Below.refl _ _).alloc (Nat.le_refl _) _)).below ((Below.refl _ _).alloc (Nat.le_refl _) (.cells #[.int .i64 y.tag,.slice A2 n2 c2,.slice K2 m2 d2] 30)))
 have ts:=zkF rx.2.1 ry.2.1
 by_cases e2:x.body=y.body
 rotate_left
 · have F:Hid (zaW x y=false):=by rw[SE.out];simp[e2,Hid]
   have t2:(x.body==y.body)=false:=by simpa using e2
   rw[t2]at ts
   clear hm hk2 e1 e2 t2
   go_enter Tryz.func9,Tryz.ntmps9
   go_wp2_with fail
   go_ret
   exact⟨zaj F.out.symm,B2.out⟩
 have E2:=zwd e2
 have t2:(x.body==y.body)=true:=by simpa using e2
 rw[t2]at ts
 clear t2 e1 e2
 by_cases e3:m=m2
 rotate_left
 · have F:Hid (zaW x y=false):=by rw[SE.out];simp[HM.out,HM2.out,e3,Hid]
   have t3:((m:Int) !=(m2:Int))=true:=by simp;omega
   clear hm hk2 e3
   go_enter Tryz.func9,Tryz.ntmps9
   go_wp2_with fail
   go_ret
   exact⟨zaj F.out.symm,B2.out⟩
 subst e3
 have SA:Hid (zaW x y=za6 x.kids y.kids):=by rw[SE.out];simp[HM.out,HM2.out,E1.out,E2.out,Hid]
 clear hm hk2 SE E1 E2
 go_enter Tryz.func9,Tryz.ntmps9
 go_wp2_with fail
 clear kx ky ts
 go_loopw [5] (fun i wr=>∃k:Nat,k<=m/\ i= .int .i64 (k:Int)/\ zaW x y=za6 (x.kids.drop k) (y.kids.drop k)/\ Box w wr w.heap.size x A n c K m d/\ Box w wr (w.heap.size+1) y A2 n2 c2 K2 m d2) (fun i _=>m-(intOf i).toNat)
 case atStart=>exact⟨0,by omega,rfl,SA.out,BX.out,Box.wider BY.out⟩
 case round=>
  obtain⟨k,hk,rfl,hs,hbx,hby⟩:=hrel
  have HS:=zwd hs
  have HX:=zwd hbx
  have HY:=zwd hby
  have gx:=hbx.cells.2.2
  have gy:=hby.cells.2.2
  clear hs hbx hby SA BX BY B2
  by_cases hlt:k<m
  · obtain⟨p,b,off,z,A',n',c',K',m',d',hp,rfl,p0,p1,p2,hpin⟩:=HX.out.kid k hlt
    obtain⟨q,b2,off2,z2,A2',n2',c2',K2',m2',d2',hq,rfl,q0,q1,q2,hqin⟩:=HY.out.kid k hlt
    have ST:=zwd (HS.out.trans (zkE hp hq))
    have lx:=HX.out.later
    have ly:=HY.out.later
    have l0:=zaf p0
    have l1:=zaf p1
    have l2:=zaf p2
    have r0:=zaf q0
    have r1:=zaf q1
    have r2:=zaf q2
    have CI:=zwd (fun W (hW:Ext wr.drew W)=>IH.out p (List.mem_of_getElem? hp) q _ _ W (T.In.below (Ext.of_drew hW) p hpin) (T.In.below (Ext.of_drew hW) q hqin))
    clear HS hp hq hpin hqin p0 p1 p2 q0 q1 q2 IH
    go_wp2_with fail
    clear gx gy
    refine zaa Ext Ext.refl (fun _ _ _=>Ext.trans) ((0,false)::(1,false)::(2,false)::(3,false)::(4,false)::(5,false)::(6,false)::(7,false)::(8,false)::(9,false)::(10,true)::(11,false)::[]) (by kernel_rfl) (by kernel_rfl) rfl (by kernel_rfl) (fun _ _ _ _ _ h=>h) ?_
    repeat(refine zab _ rfl (by rfl) (fun W hW=>by go_simp;first|done|rfl) ?_;simp only[Act.put,zwe,zwg,zwf])
    clear lx ly l0 l1 l2 r0 r1 r2
    refine zad rfl (by rfl) (fun K1 hK1=> ?_)
    go_simp
    refine(CI.out _ (Ext.refl _)).mono ?_
    rintro e v1 ⟨rfl,hb1⟩
    refine hK1 _ _ hb1 ?_
    clear hK1 K1
    have B1:=zwd (Ext.of_drew hb1)
    clear hb1 CI
    cases hsame:zaW p q
    · have F:Hid (zaW x y=false):=by rw[ST.out,hsame];rfl
      have BB:=zwd (Below.step HX.out.below B1.out)
      clear hsame ST HX HY
      repeat(refine zab _ rfl (by rfl) (fun W hW=>by go_simp;first|done|rfl) ?_;simp only[Act.put,zwe,zwg,zwf])
      refine zai ?_
      go_wp2_with fail
      go_ret
      exact⟨zaj F.out.symm,BB.out⟩
    · have N:Hid (zaW x y=za6 (x.kids.drop (k+1)) (y.kids.drop (k+1))):=by rw[ST.out,hsame];simp[Hid]
      clear hsame ST
      have HX2:=zwd (HX.out.go B1.out)
      have HY2:=zwd (HY.out.go B1.out)
      clear HX HY B1
      repeat(refine zab _ rfl (by rfl) (fun W hW=>by go_simp;first|done|rfl) ?_;simp only[Act.put,zwe,zwg,zwf])
      refine zai ?_
      go_wp2_with fail
      go_roundw
      case rel=>exact⟨k+1,by omega,by go_num,N.out,HX2.out,HY2.out⟩
      case measure=>simp[intOf];omega
  · have F:Hid (zaW x y=true):=by rw[HS.out,zna (by rw[HM.out];omega)];exact zwd rfl
    clear HS
    go_wp2_with fail
    go_ret
    exact⟨zaj F.out.symm,HX.out.below⟩
end Go.Proofs.YtpgahclpbdpbnaaGreatDoor
namespace Go.Proofs.YtpgahclpbdpbnaaGreatDoor
open Go.RowKit
def B56:Int:=72057594037927936
def numZ:Int->List Int->Int×Bool
 |n,[]=>(n,true)
 |n,x::xs=>if B56<=n then(0,false)else numZ (n*256+x) xs
theorem zqb {zs:List Int} {k:Nat} (s:Int) (h:k<zs.length):numZ s (zs.drop k)=if B56<=s then(0,false)else numZ (s*256+zs[k]?.getD 0) (zs.drop (k+1)):=by
 rw[List.drop_eq_getElem_cons h,numZ]
 simp[List.getElem?_eq_getElem h]
theorem znb {zs:List Int} {k:Nat} {s x:Int} (h:k<zs.length) (hx:x=zs[k]?.getD 0) (he:numZ s (zs.drop k)=numZ 0 zs):
 (B56<=s->numZ 0 zs=(0,false))/\ (s<B56->numZ (s*256+x) (zs.drop (k+1))=numZ 0 zs):=by
 rw[zqb s h,<-hx]at he
 refine⟨fun hs=> ?_,fun hs=> ?_⟩
 · rw[<-he,if_pos hs]
 · rw[if_neg (by omega)]at he
   exact he
theorem zqc {zs:List Int} {k:Nat} {s:Int} (h:zs.length<=k) (he:numZ s (zs.drop k)=numZ 0 zs):numZ 0 zs=(s,true):=by
 rw[<-he,List.drop_of_length_le h,numZ]
theorem zuA {s:Int} (h:(s/72057594037927936 !=0)=true) (h0:0<=s):B56<=s:=by
 simp at h
 unfold B56
 omega
theorem zqd {s:Int} (h:(s/72057594037927936 !=0)=false):s<B56:=by
 simp at h
 unfold B56
 omega
theorem or8 {s x:Int} (h0:0<=s) (h:s<B56) (x0:0<=x) (x1:x<=255):bits .or .u64 (IntKind.u64.wrap (s*256)) x=s*256+x:=by
 unfold B56 at h
 have hw:∀n:Int,0<=n->n<2^64->IntKind.u64.wrap n=n:=by
  intro n h0 h1
  rw[IntKind.wrap_u64]
  omega
 rw[hw _ (by omega) (by omega)]
 exact bits_join .u64 64 (by decide) hw 8 _ _ (by omega) (by omega) (by omega) x0 (by omega) (by omega)
theorem zjp {zs:List Int} {n:Int} {b:Bool} (h:numZ 0 zs=(n,b)):Ending.returned (.tuple #[.int .u64 n,.bool b])= .returned (.tuple #[.int .u64 (numZ 0 zs).1,.bool (numZ 0 zs).2]):=by rw[h]
theorem zuB (a:Option Addr) (n ca:Nat) (zs:List Int) (w:World) (hx:Row w a n zs) (hn:n<=1000000):
 Calls Tryz.prog 148 #[.slice a n ca] w fun e w'=>e= .returned (.tuple #[.int .u64 (numZ 0 zs).1,.bool (numZ 0 zs).2])/\ w'=w:=by
 have HX:=zwd hx
 clear hx
 go_enter Tryz.func148,Tryz.ntmps148
 go_wp2
 go_loop [4,8] (fun t i=>∃k:Nat,∃s:Int,k<=n/\ 0<=s/\ s<=18446744073709551615/\ i= .int .i64 k/\ t= .int .u64 s/\ numZ s (zs.drop k)=numZ 0 zs) (fun _ i=>n-(intOf i).toNat)
 case atStart=>exact⟨0,0,Nat.zero_le _,by omega,by omega,rfl,rfl,rfl⟩
 case round=>
  obtain⟨k,s,hk,hs0,hs1,rfl,rfl,he⟩:=hrel
  have HE:=zwd he
  clear he
  by_cases hlt:k<n
  · obtain⟨b1,o1,rfl,hb1,hc1⟩:=HX.out.2.2 (by omega)
    have c1:=hc1 k hlt
    clear hc1
    have bx:=HX.out.byte k
    have ST:=zwd (znb (by rw[HX.out.1];exact hlt) rfl HE.out)
    generalize zs[k]?.getD 0=x at c1 bx ST
    go_wp2
    · go_ret2
      exact⟨zjp (ST.out.1 (zuA (by assumption) hs0)),rfl⟩
    · have ht:s<B56:=zqd (by assumption)
      go_round
      case rel=>exact⟨k+1,_,by omega,by omega,by unfold B56 at ht;omega,by go_num,by rw[or8 hs0 ht bx.1 bx.2],ST.out.2 ht⟩
      case measure=>simp[intOf];omega
  · go_wp2
    go_ret2
    exact⟨zjp (zqc (by rw[HX.out.1];omega) HE.out),rfl⟩
theorem znc (a:Option Addr) (n ca:Nat) (zs:List Int) (w:World) (hx:Row w a n zs) (hn:n<=1000000):
 Calls Tryz.prog 100 #[.slice a n ca] w fun e w'=>e= .returned (.tuple #[.int .u64 (numZ 0 zs).1,.bool (numZ 0 zs).2])/\ w'=w:=by
 have HX:=zwd hx
 clear hx
 go_enter Tryz.func100,Tryz.ntmps100
 go_wp2
 go_loop [4,5] (fun t i=>∃k:Nat,∃s:Int,k<=n/\ 0<=s/\ s<=18446744073709551615/\ i= .int .i64 k/\ t= .int .u64 s/\ numZ s (zs.drop k)=numZ 0 zs) (fun _ i=>n-(intOf i).toNat)
 case atStart=>exact⟨0,0,Nat.zero_le _,by omega,by omega,rfl,rfl,rfl⟩
 case round=>
  obtain⟨k,s,hk,hs0,hs1,rfl,rfl,he⟩:=hrel
  have HE:=zwd he
  clear he
  by_cases hlt:k<n
  · obtain⟨b1,o1,rfl,hb1,hc1⟩:=HX.out.2.2 (by omega)
    have c1:=hc1 k hlt
    clear hc1
    have bx:=HX.out.byte k
    have ST:=zwd (znb (by rw[HX.out.1];exact hlt) rfl HE.out)
    generalize zs[k]?.getD 0=x at c1 bx ST
    go_wp2
    · go_ret2
      exact⟨zjp (ST.out.1 (by unfold B56;assumption)),rfl⟩
    · have ht:s<B56:=by unfold B56;assumption
      go_round
      case rel=>exact⟨k+1,_,by omega,by omega,by unfold B56 at ht;omega,by go_num,rfl,ST.out.2 ht⟩
      case measure=>simp[intOf];omega
  · go_wp2
    go_ret2
    exact⟨zjp (zqc (by rw[HX.out.1];omega) HE.out),rfl⟩
end Go.Proofs.YtpgahclpbdpbnaaGreatDoor
namespace Go.Proofs.YtpgahclpbdpbnaaGreatDoor
open Go.RowKit
set_option linter.unusedVariables false
theorem Blk.six {w:World} {g:Nat} {t:TypeId} {a b c:Value} (h:Blk w g t #[a,b,c]):w.cell? ⟨g,0,none⟩=some a/\ w.cell? ⟨g,1,none⟩=some b/\ w.cell? ⟨g,2,none⟩=some c/\ w.frozen? ⟨g,0,none⟩=false/\ w.frozen? ⟨g,1,none⟩=false/\ w.frozen? ⟨g,2,none⟩=false:=
 ⟨h.cell 0,h.cell 1,h.cell 2,h.free 0,h.free 1,h.free 2⟩
theorem Tryz.sizeNode3:(Tryz.prog.info? 30).map (·.size)=some 3:=by kernel_rfl
def zbz:T:= .node 0 [] []
def zb2 (t:T) (w:World) (e:Ending) (w':World):Prop:=
 ∃(A:Option Addr) (n c:Nat) (K:Option Addr) (m d:Nat),e= .returned (.agg #[.int .i64 t.tag,.slice A n c,.slice K m d])/\ t.InP (w.heap.size<= ·) w' (.agg #[.int .i64 t.tag,.slice A n c,.slice K m d])/\ Below w.heap.size w w'
theorem zeF {P:Nat->Prop} {w:World} {z:Int} {zs:List Int} {a:Option Addr} {c:Nat} (hz:(Lit.int .i64 z).wf=true) (hr:Row w a zs.length zs) (hn:zs.length<=1000000) (hnil:(a=none->c=0)/\ zs.length<=c) (hp:0<zs.length->∃b off,a=some ⟨b,off,none⟩/\ P b):(T.node z zs []).InP P w (.agg #[.int .i64 z,.slice a zs.length c,.slice none 0 0]):=by
 unfold T.InP
 exact⟨a,zs.length,c,none,0,0,rfl,hz,hr,by unfold maxLen;omega,hnil.1,rfl,⟨Nat.zero_le _,hnil.2,Nat.le_refl _⟩,hp,fun h=>absurd h (by omega)⟩
structure RB (w W:World):Prop where
 box:Blk W w.heap.size 30 #[.int .i64 0,.slice none 0 0,.slice none 0 0]
 below:Below w.heap.size w W
theorem RB.start (w:World):RB w (w.alloc (.cells #[.int .i64 0,.slice none 0 0,.slice none 0 0] 30)):=⟨Blk.new _ _ _,(Below.refl _ _).alloc (Nat.le_refl _) _⟩
theorem RB.go {w W W':World} (h:RB w W) (hb:Below W.heap.size W W'):RB w W':=⟨h.box.below hb h.box.lt,Below.step h.below hb⟩
def boxed (w W:World) (a b c:Value):World:=((W.setCell ⟨w.heap.size,0,none⟩ a).setCell ⟨w.heap.size,1,none⟩ b).setCell ⟨w.heap.size,2,none⟩ c
theorem RB.boxed {w W:World} (h:RB w W) (a b c:Value):Blk (boxed w W a b c) w.heap.size 30 #[a,b,c]/\ Below w.heap.size w (boxed w W a b c):=
 ⟨((h.box.set 0 a).set 1 b).set 2 c,((h.below.setCell (Nat.le_refl _) _).setCell (Nat.le_refl _) _).setCell (Nat.le_refl _) _⟩
theorem zkG {w W:World} {a:Option Addr} {n:Nat} {zs:List Int} (h:Row W a n zs) (hne:0<n->∃b off,a=some ⟨b,off,none⟩/\ b≠w.heap.size) (x y z:Value):Row (boxed w W x y z) a n zs:=by
 refine((h.set w.heap.size 0 x hne).set w.heap.size 1 y hne).set w.heap.size 2 z hne
theorem zbn {w W:World} {a:Option Addr} {n c:Nat} {L:List Int} (h:Out w W (.slice a n c) L) (hw:0<L.length):∃b off,a=some ⟨b,off,none⟩/\ w.heap.size<=b:=by
 obtain⟨g,cap,e,hg⟩:=h.form hw
 injection e with e1 e2 e3
 exact⟨g,0,e1,hg⟩
theorem znd {w W W0:World} {t:T} {v:Value} (h:t.InP (W0.heap.size<= ·) W v) (hW:w.heap.size<W0.heap.size) (a b c:Value):t.InP (w.heap.size<= ·) (boxed w W a b c) v:=
 T.InP.keep (fun x _ hp=>⟨by have hp':W0.heap.size<=x:=hp;show w.heap.size<=x;omega,by
  have hp':W0.heap.size<=x:=hp
  have hx:x≠w.heap.size:=by omega
  unfold boxed
  rw[heap_setCell_other _ ⟨w.heap.size,2,none⟩ x c hx,heap_setCell_other _ ⟨w.heap.size,1,none⟩ x b hx,heap_setCell_other _ ⟨w.heap.size,0,none⟩ x a hx]⟩) (by simp[boxed]) _ h
theorem zc2 {w W W0:World} {tmps:Array Value} {fn:Func} {p:Tmp} {z:Int} {zs:List Int} {a:Option Addr} {c:Nat} (hf:fn.results=#[.cell p 30]) (hp:tmps.getD p undef= .pointer (some ⟨w.heap.size,0,none⟩)) (hrb:RB w W) (ho:Out W0 W (.slice a zs.length c) zs) (hW:w.heap.size<W0.heap.size) (hz:(Lit.int .i64 z).wf=true) (hb:∀x∈zs,0<=x/\ x<=255) (hn:zs.length<=1000000):
 bodyPost Tryz.prog fn (zb2 (.node z zs []) w) .ret {tmps:=tmps,defers:=[]} (boxed w W (.int .i64 z) (.slice a zs.length c) (.slice none 0 0)):=by
 obtain⟨h1,h2⟩:=hrb.boxed (.int .i64 z) (.slice a zs.length c) (.slice none 0 0)
 refine bodyPost_ret (results_cell_row hf _ _ w.heap.size 30 #[.int .i64 z,.slice a zs.length c,.slice none 0 0] (0,0) _ hp h1 Tryz.underlying30 rfl Tryz.sizeNode3) rfl ⟨a,zs.length,c,none,0,0,rfl,zeF hz ?_ hn ⟨ho.nilc,zaJ ho.1⟩ (fun h0=>by
  obtain⟨b,off,e,hb⟩:=zbn ho h0
  exact⟨b,off,e,by omega⟩),h2⟩
 obtain⟨a',c',e,hr⟩:=ho.row hb
 injection e with e1 e2 e3
 subst e1
 exact zkG hr (fun h0=>by
  obtain⟨b,off,e,hb⟩:=zbn ho h0
  exact⟨b,off,e,by omega⟩) _ _ _
theorem zf2 {w W W0:World} {tmps:Array Value} {fn:Func} {p:Tmp} {t:T} {A:Option Addr} {n c:Nat} {K:Option Addr} {m d:Nat} (hf:fn.results=#[.cell p 30]) (hp:tmps.getD p undef= .pointer (some ⟨w.heap.size,0,none⟩)) (hrb:RB w W) (hin:t.InP (W0.heap.size<= ·) W (.agg #[.int .i64 t.tag,.slice A n c,.slice K m d])) (hW:w.heap.size<W0.heap.size):
 bodyPost Tryz.prog fn (zb2 t w) .ret {tmps:=tmps,defers:=[]} (boxed w W (.int .i64 t.tag) (.slice A n c) (.slice K m d)):=by
 obtain⟨h1,h2⟩:=hrb.boxed (.int .i64 t.tag) (.slice A n c) (.slice K m d)
 refine bodyPost_ret (results_cell_row hf _ _ w.heap.size 30 #[.int .i64 t.tag,.slice A n c,.slice K m d] (0,0) _ hp h1 Tryz.underlying30 rfl Tryz.sizeNode3) rfl ⟨A,n,c,K,m,d,rfl,znd hin hW _ _ _,h2⟩
def bigZ (zs:List Int):List Int:=if zaS zs=[] \/128<=(zaS zs)[(0:Nat)]?.getD 0 then 0::zaS zs else zaS zs
def bigT (zs:List Int):T:= .node 2 (bigZ zs) []
theorem zne {zs:List Int} (h:∀x∈zs,0<=x/\ x<=255):∀x∈bigZ zs,0<=x/\ x<=255:=by
 intro x hx
 unfold bigZ at hx
 split at hx
 · rcases List.mem_cons.1 hx with rfl|hx
   · omega
   · exact h x (zgM hx)
 · exact h x (zgM hx)
theorem zt5 (zs:List Int):(bigZ zs).length<=zs.length+1:=by
 have:=zjn zs
 unfold bigZ
 split
 · rw[List.length_cons];omega
 · omega
theorem zsS (a:Option Addr) (n ca:Nat) (zs:List Int) (w:World) (hr:Row w a n zs) (hnc:n<=ca) (hn:n<=100000) (hnil:a=none->ca=0):Calls Tryz.prog 49 #[.slice a n ca] w (zb2 (bigT zs) w):=by
 have hby:=hr.2.1
 have hbb:∀x∈zaS zs,0<=x/\ x<=255:=fun x hx=>hby x (zgM hx)
 have hle:=zjn zs
 have hl:=hr.1
 have S0:=zwd (RB.start w)
 have CI:=zwd (zqa a n ca zs _ (hr.below S0.out.below) hnc hn hnil)
 have GB:=zwd (zne hby)
 have GL:=zwd (zt5 zs)
 clear hr hnil hby
 go_enter Tryz.func49,Tryz.ntmps49
 go_wp2_with fail
 refine CI.out.mono ?_
 rintro e w2 ⟨V,rfl,ho⟩
 have S2:=zwd (S0.out.go ho.2)
 obtain⟨b2,c2,rfl,hr2⟩:=ho.row hbb
 have O2:=zwd ho
 have R2:=zwd hr2
 have N2:=zwd ho.nilc
 have hW:w.heap.size<(w.alloc (.cells #[.int .i64 0,.slice none 0 0,.slice none 0 0] 30)).heap.size:=by simp
 clear ho hr2 CI S0
 by_cases h0:zaS zs=[]
 · have F:Hid (bigZ zs=[0]++zaS zs):=if_pos (.inl h0)
   have L0:Hid ((zaS zs).length=0):=by rw[h0];exact zwd rfl
   have t0:(((zaS zs).length:Int)==0)=true:=by rw[L0.out];rfl
   have O3:=zwd (zbd w2 0)
   have R3:=zwd (R2.out.below ((Below.refl w2.heap.size w2).alloc (Nat.le_refl _) (.cells #[.int .u8 0] 5)))
   have S3:=zwd (S2.out.go ((Below.refl w2.heap.size w2).alloc (Nat.le_refl _) (.cells #[.int .u8 0] 5)))
   have W2:Hid (w.heap.size<w2.heap.size):=Nat.lt_of_lt_of_le hW O2.out.2.size
   clear h0 O2
   generalize zaS zs=bz at*
   go_wp2_with (at_builtin;go_must (refine zag (W0:=w2) (L:=[0]) (zs:=bz) rfl _ _ rfl rfl O3.out rfl R3.out N2.out (by simp;omega) ?_;intro V4 w4 ho4;have O4:=zwd ho4;have S4:=zwd (S2.out.go ho4.2);obtain⟨p0,p1,p2,f0,f1,f2⟩:=S4.out.box.six;rw[<-F.out]at ho4 O4;obtain⟨b4,c4,rfl,hr4⟩:=ho4.row GB.out;clear ho4))
   exact zc2 rfl rfl S4.out O4.out W2.out rfl GB.out (by have:=GL.out;omega)
 · have L0:Hid (0<(zaS zs).length):=List.length_pos_iff.2 h0
   have t0:(((zaS zs).length:Int)==0)=false:=by simp;exact h0
   obtain⟨b,off,rfl,hbl,hc⟩:=R2.out.2.2 L0.out
   have c0:=hc 0 L0.out
   rw[Nat.add_zero]at c0
   have z0:=R2.out.byte 0
   clear hc
   by_cases h8:128<=(zaS zs)[(0:Nat)]?.getD 0
   · have F:Hid (bigZ zs=[0]++zaS zs):=if_pos (.inr h8)
     have O3:=zwd (zbd w2 0)
     have R3:=zwd (R2.out.below ((Below.refl w2.heap.size w2).alloc (Nat.le_refl _) (.cells #[.int .u8 0] 5)))
     have W2:Hid (w.heap.size<w2.heap.size):=Nat.lt_of_lt_of_le hW O2.out.2.size
     clear h0 O2
     generalize(zaS zs)[(0:Nat)]?.getD 0=x0 at c0 z0 h8
     generalize zaS zs=bz at*
     go_wp2_with (at_builtin;go_must (refine zag (W0:=w2) (L:=[0]) (zs:=bz) rfl _ _ rfl rfl O3.out rfl R3.out N2.out (by simp;omega) ?_;intro V4 w4 ho4;have O4:=zwd ho4;have S4:=zwd (S2.out.go ho4.2);obtain⟨p0,p1,p2,f0,f1,f2⟩:=S4.out.box.six;rw[<-F.out]at ho4 O4;obtain⟨b4,c4,rfl,hr4⟩:=ho4.row GB.out;clear ho4))
     exact zc2 rfl rfl S4.out O4.out W2.out rfl GB.out (by have:=GL.out;omega)
   · have F:Hid (bigZ zs=zaS zs):=if_neg (by rintro(h|h);exact h0 h;exact h8 h)
     obtain⟨p0,p1,p2,f0,f1,f2⟩:=S2.out.box.six
     have HW:=zwd hW
     generalize(zaS zs)[(0:Nat)]?.getD 0=x0 at c0 z0 h8
     rw[<-F.out]at O2 R2 L0 t0⊢
     clear h0
     go_wp2_with fail
     exact zc2 rfl rfl S2.out O2.out HW.out rfl GB.out (by have:=GL.out;omega)
end Go.Proofs.YtpgahclpbdpbnaaGreatDoor
namespace Go.Proofs.YtpgahclpbdpbnaaGreatDoor
open Go.RowKit
set_option linter.unusedVariables false
def zd6 (n:Int):Nat:=if n/256^1=0 then 1 else if n/256^2=0 then 2 else if n/256^3=0 then 3 else if n/256^4=0 then 4 else if n/256^5=0 then 5 else if n/256^6=0 then 6 else if n/256^7=0 then 7 else 8
theorem zkH {n:Int} (h0:0<=n) (h1:n<=18446744073709551615):zdo n (zd6 n):=by
 have h8:=zg3 h0 h1 (Nat.le_refl 8)
 unfold zd6 zdo
 by_cases c1:n/256^1=0
 · rw[if_pos c1];exact⟨by omega,by omega,c1,.inl rfl⟩
 rw[if_neg c1]
 by_cases c2:n/256^2=0
 · rw[if_pos c2];exact⟨by omega,by omega,c2,.inr c1⟩
 rw[if_neg c2]
 by_cases c3:n/256^3=0
 · rw[if_pos c3];exact⟨by omega,by omega,c3,.inr c2⟩
 rw[if_neg c3]
 by_cases c4:n/256^4=0
 · rw[if_pos c4];exact⟨by omega,by omega,c4,.inr c3⟩
 rw[if_neg c4]
 by_cases c5:n/256^5=0
 · rw[if_pos c5];exact⟨by omega,by omega,c5,.inr c4⟩
 rw[if_neg c5]
 by_cases c6:n/256^6=0
 · rw[if_pos c6];exact⟨by omega,by omega,c6,.inr c5⟩
 rw[if_neg c6]
 by_cases c7:n/256^7=0
 · rw[if_pos c7];exact⟨by omega,by omega,c7,.inr c6⟩
 rw[if_neg c7]
 exact⟨by omega,by omega,h8,.inr c7⟩
def zft (n:Int):List Int:=beZ (zd6 n) n
theorem zez.is {w w':World} {n:Int} {e:Ending} (h0:0<=n) (h1:n<=18446744073709551615) (h:zez w n e w'):∃b off c,e= .returned (.slice (some ⟨b,off,none⟩) (zd6 n) c)/\ Row w' (some ⟨b,off,none⟩) (zd6 n) (zft n)/\ Below w.heap.size w w'/\ zd6 n<=c:=by
 obtain⟨m,a,c,hm,rfl,hr,hb,hc⟩:=h
 obtain rfl:=zdo.eq h0 hm (zkH h0 h1)
 obtain⟨b,off,rfl,_⟩:=hr.2.2 (by have:=hm.1;omega)
 exact⟨b,off,c,rfl,hr,hb,hc⟩
theorem zhp (n:Int):zd6 n<=8:=by
 unfold zd6
 repeat(first|omega|split)
def intT (n:Int):T:=bigT (zft n)
theorem zjq (n:Int) (w:World) (h0:0<=n) (h1:n<=18446744073709551615):Calls Tryz.prog 28 #[.int .u64 n] w (zb2 (intT n) w):=by
 have S0:=zwd (RB.start w)
 have hml:=zhp n
 go_enter Tryz.func28,Tryz.ntmps28
 go_wp2_with fail
 refine(zoa n _ h0 h1).mono ?_
 intro e w2 h2
 obtain⟨b,off,c,rfl,hr,hb,hc⟩:=h2.is h0 h1
 have S2:=zwd (S0.out.go hb)
 have CI:=zwd (zsS (some ⟨b,off,none⟩) (zd6 n) c (zft n) w2 hr hc (by omega) (fun e=>by cases e))
 clear h2 hr hb S0
 generalize zd6 n=m at CI hc hml
 go_wp2_with fail
 refine CI.out.mono ?_
 rintro e w3 ⟨A,n3,c3,K,m3,d3,rfl,hin,hb3⟩
 have S3:=zwd (S2.out.go hb3)
 have IN:=zwd hin
 have W2:Hid (w.heap.size<w2.heap.size):=S2.out.box.lt
 obtain⟨p0,p1,p2,f0,f1,f2⟩:=S3.out.box.six
 clear hin hb3 CI S2
 go_wp2_with fail
 exact zf2 rfl rfl S3.out IN.out W2.out
end Go.Proofs.YtpgahclpbdpbnaaGreatDoor
namespace Go.Proofs.YtpgahclpbdpbnaaGreatDoor
open Go.RowKit Go.Deep Go.ChangeShapes Go.WideShapes
section
variable {H : Type} {enc : TypeId × Value -> H}
end
end Go.Proofs.YtpgahclpbdpbnaaGreatDoor
namespace Go.Proofs.YtpgahclpbdpbnaaGreatDoor
open Go.RowKit Go.Deep Go.ChangeShapes Go.WideShapes
def ziG (v:Value):Prop:=∀z A n c y,v= .agg #[z,.slice A n c,y]->n<=c
theorem ziG.is {z:Value} {A:Option Addr} {n c:Nat} {y:Value} (h:ziG (.agg #[z,.slice A n c,y])):n<=c:=h _ _ _ _ _ rfl
section
variable {H : Type} {enc : TypeId × Value -> H}
end
end Go.Proofs.YtpgahclpbdpbnaaGreatDoor
namespace Go.Proofs.YtpgahclpbdpbnaaGreatDoor
open Go.RowKit
set_option linter.unusedVariables false
theorem Box.laters {w wr:World} {g:Nat} {t:T} {A:Option Addr} {n c:Nat} {K:Option Addr} {m d:Nat} (h:Box w wr g t A n c K m d):(∀W,Ext wr.drew W->W.cell? ⟨g,0,none⟩=some (.int .i64 t.tag))/\ (∀W,Ext wr.drew W->W.cell? ⟨g,1,none⟩=some (.slice A n c))/\ (∀W,Ext wr.drew W->W.cell? ⟨g,2,none⟩=some (.slice K m d)):=
 ⟨zaf h.cells.1,zaf h.cells.2.1,zaf h.cells.2.2⟩
end Go.Proofs.YtpgahclpbdpbnaaGreatDoor
namespace Go.Proofs.YtpgahclpbdpbnaaGreatDoor
open Go.RowKit
set_option linter.unusedVariables false
end Go.Proofs.YtpgahclpbdpbnaaGreatDoor
namespace Go.Proofs.YtpgahclpbdpbnaaGreatDoor
open Go.RowKit
set_option linter.unusedVariables false
def sevN (n:Nat) (acc:List Int):List Int:=if h:128<=n then sevN (n/128) (((n/128%128:Nat)+128:Int)::acc)else acc
termination_by n
decreasing_by omega
def zbl (n:Nat):List Int:=sevN n [((n%128:Nat):Int)]
def SevB (l n:Nat):Prop:=(l<=1 \/n<2^57)/\ (l<=2 \/n<2^50)/\ (l<=3 \/n<2^43)/\ (l<=4 \/n<2^36)/\ (l<=5 \/n<2^29)/\ (l<=6 \/n<2^22)/\ (l<=7 \/n<2^15)/\ (l<=8 \/n<2^8)/\ (l<=9 \/n<2^1)/\ l<=10/\ n<2^64
theorem SevB.step {l n:Nat} (h:SevB l n) (hn:128<=n):SevB (l+1) (n/128):=by
 unfold SevB at h⊢
 omega
theorem zfu {n:Nat} (h:128<=n) (acc:List Int):sevN n acc=sevN (n/128) (((n/128%128:Nat)+128:Int)::acc):=by rw[sevN,dif_pos h]
theorem zgO {n:Nat} (h:¬128<=n) (acc:List Int):sevN n acc=acc:=by rw[sevN,dif_neg h]
theorem zqe (n:Nat):∀acc:List Int,(∀x∈acc,0<=x/\ x<=255)->∀x∈sevN n acc,0<=x/\ x<=255:=by
 induction n using Nat.strongRecOn with
 |ind n ih=>
   intro acc ha
   by_cases h:128<=n
   · rw[zfu h]
     refine ih _ (by omega) _ ?_
     intro x hx
     rcases List.mem_cons.1 hx with rfl|hx
     · omega
     · exact ha x hx
   · rw[zgO h]
     exact ha
theorem zsT (n:Nat):∀acc:List Int,SevB acc.length n->(sevN n acc).length<=10:=by
 induction n using Nat.strongRecOn with
 |ind n ih=>
   intro acc ha
   by_cases h:128<=n
   · rw[zfu h]
     exact ih _ (by omega) _ (ha.step h)
   · rw[zgO h]
     exact ha.2.2.2.2.2.2.2.2.2.1
theorem zc3 (n:Nat):∀x∈zbl n,0<=x/\ x<=255:=zqe n _ (by intro x hx;simp at hx;omega)
theorem zdb {n:Nat} (h:n<2^64):(zbl n).length<=10:=zsT n _ (by unfold SevB;simp;omega)
theorem zqf (n0:Nat) (w:World) (hn0:n0<2^64):Calls Tryz.prog 139 #[.int .u64 n0] w (zdK (zbl n0) w):=by
 have O0:=zwd (zbd w ((n0%128:Nat):Int))
 have e0:IntKind.u8.wrap ((n0:Int)%128)=((n0%128:Nat):Int):=by rw[IntWalk.u8_in _ (by omega)];omega
 go_enter Tryz.func139,Tryz.ntmps139
 go_wp2_with fail
 go_loopw [0,3] (fun t V wr=>∃(n:Nat) (L:List Int),t= .int .u64 (n:Int)/\ SevB L.length n/\ Out w wr V L/\ (∀x∈L,0<=x/\ x<=255)/\ sevN n L=zbl n0) (fun t _ _=>(intOf t).toNat)
 case atStart=>exact⟨n0,[((n0%128:Nat):Int)],rfl,by unfold SevB;simp;omega,O0.out,by intro x hx;simp at hx;omega,rfl⟩
 case round=>
  obtain⟨n,L,rfl,hsb,ho,hby,hs⟩:=hrel
  have HS:=zwd hs
  have HO:=zwd ho
  obtain⟨a,c,rfl,hr⟩:=ho.row hby
  have RW:=zwd hr
  have HB:=zwd hby
  have SB:=zwd hsb
  have hl10:L.length<=10:=hsb.2.2.2.2.2.2.2.2.2.1
  have hn64:n<2^64:=hsb.2.2.2.2.2.2.2.2.2.2
  clear hs ho hr hby hsb O0
  by_cases h:128<=n
  · have N:Hid (sevN (n/128) (((n/128%128:Nat)+128:Int)::L)=zbl n0):=by rw[<-zfu h];exact HS
    have S2:=zwd (SB.out.step h)
    clear HS SB
    have e1:IntKind.u8.wrap ((n:Int)/128%128+128)=((n/128%128:Nat)+128:Int):=by rw[IntWalk.u8_in _ (by omega)];omega
    have hx:(0:Int)<=((n/128%128:Nat)+128:Int)/\ ((n/128%128:Nat)+128:Int)<=255:=by omega
    generalize((n/128%128:Nat)+128:Int)=x at*
    have O3:=zwd (zbd wr x)
    have R3:=zwd (RW.out.below ((Below.refl wr.heap.size wr).alloc (Nat.le_refl _) (.cells #[.int .u8 x] 5)))
    have NI:=zwd HO.out.nilc
    go_wp2_with (at_builtin;go_must (refine zag (W0:=wr) (L:=[x]) (zs:=L) rfl _ _ rfl rfl O3.out rfl R3.out NI.out (by simp;omega) ?_;intro V4 w4 ho4;have O4:=zwd (ho4.wider HO.out.2);clear ho4))
    go_roundw
    case rel=>exact⟨n/128,x::L,by first|rfl|simp,S2.out,O4.out,(by intro y hy;rcases List.mem_cons.1 hy with rfl|hy;exact hx;exact HB.out y hy),N.out⟩
    case measure=>simp[intOf];omega
  · have F:Hid (zbl n0=L):=by rw[<-HS.out,zgO h];exact zwd rfl
    clear HS SB
    go_wp2_with fail
    go_ret
    exact⟨_,rfl,by rw[F.out];exact HO.out⟩
theorem ziH (zs:List Int) (hb:∀x∈zs,0<=x/\ x<=255):∀n:Int,0<=n->n<=18446744073709551615->0<=(numZ n zs).1/\ (numZ n zs).1<=18446744073709551615:=by
 induction zs with
 |nil=>intro n h0 h1;exact⟨h0,h1⟩
 |cons x xs ih=>
   intro n h0 h1
   rw[numZ]
   split
   · exact⟨by simp,by simp⟩
   · rename_i hc
     have hx:=hb x (List.mem_cons_self ..)
     unfold B56 at hc
     exact ih (fun y hy=>hb y (List.mem_cons_of_mem _ hy)) _ (by omega) (by omega)
def zaC (t:T):Int×Int:=if(numZ 0 t.body).2=true/\ zaW t (intT (numZ 0 t.body).1)=true then((numZ 0 t.body).1,0)else(0,2)
def zb3 (x:Int×Int) (w:World) (e:Ending) (w':World):Prop:=e= .returned (.tuple #[.int .u64 x.1,.int .i64 x.2])/\ Below w.heap.size w w'
theorem zb3.of {x:Int×Int} {b:Int} {n:Int} {w w':World} (h:x=(b,n)) (hb:Below w.heap.size w w'):zb3 x w (.returned (.tuple #[.int .u64 b,.int .i64 n])) w':=by subst h;exact⟨rfl,hb⟩
theorem zkI (t:T) (v:Value) (w:World) (hin:t.In w v) (hwt:t.body.length<=1000000):Calls Tryz.prog 62 #[v] w (zb3 (zaC t) w):=by
 obtain⟨A,n,c,K,m,d,rfl,hw,hr,hn,hc,hm,hm',hks⟩:=hin.open
 have B2:=zwd (Box.start hin)
 have GZ:Hid (zaC t=if(numZ 0 t.body).2=true/\ zaW t (intT (numZ 0 t.body).1)=true then((numZ 0 t.body).1,0)else(0,2)):=rfl
 have NR:=ziH t.body hr.2.1 0 (by omega) (by omega)
 have hl:=hr.1
 have CN:=zwd (znc A n c t.body _ (hr.below B2.out.below) (by omega))
 obtain⟨g0,g1,g2⟩:=B2.out.cells
 clear hr hks hc hin hm hm' hw hn hl
 generalize(numZ 0 t.body).1=x at*
 generalize hz:(numZ 0 t.body).2=is at*
 clear hz
 go_enter Tryz.func62,Tryz.ntmps62
 generalize hw2:w.alloc (.cells #[.int .i64 t.tag,.slice A n c,.slice K m d] 30)=w2 at*
 go_wp2_with fail
 refine CN.out.mono ?_
 rintro e w3 ⟨rfl,rfl⟩
 clear hw2 CN
 go_wp2_with fail
 clear g0 g1 g2
 obtain⟨l0,l1,l2⟩:=B2.out.laters
 have CB:=zwd (fun W=>zjq x W NR.1 NR.2)
 have CS:=zwd (fun W (hW:Ext w3 W) u (y:T) (hy:y.In W u)=>zdR t y _ u W (T.In.below hW t B2.out.has) hy)
 refine zaa Ext Ext.refl (fun _ _ _=>Ext.trans) ((0,false)::(1,false)::(2,false)::(3,false)::(4,false)::(5,true)::(6,true)::(7,false)::(8,false)::[]) (by kernel_rfl) (by kernel_rfl) rfl (by kernel_rfl) (fun _ _ _ _ _ h=>h) ?_
 cases is
 · have F:Hid (zaC t=(0,2)):=by rw[GZ.out];simp[Hid]
   clear GZ CB CS
   repeat(first|(refine zab _ rfl (by rfl) (fun W hW=>by go_simp;first|done|rfl) ?_;simp only[Act.put,zwe,zwg,zwf])|(refine zaw rfl (by rfl) ?_;simp only[Act.put,zwe,zwg,zwf]))
   refine zai ?_
   go_wp2_with fail
   go_ret2
   exact zb3.of F.out (Ext.drew B2.out.below)
 have GX:Hid (zaC t=if zaW t (intT x)=true then(x,0)else(0,2)):=by rw[GZ.out];simp[Hid]
 clear GZ
 repeat(refine zab _ rfl (by rfl) (fun W hW=>by go_simp;first|done|rfl) ?_;simp only[Act.put,zwe,zwg,zwf])
 clear l0 l1 l2
 refine zad rfl (by rfl) (fun K1 hK1=> ?_)
 go_simp
 refine(CB.out _).mono ?_
 rintro e w4 ⟨A3,n3,c3,K3,m3,d3,rfl,hin3,hb3⟩
 have E3:Hid (Ext w3 w4):=Ext.of_drew hb3
 have H3:=zwd (T.InP.in _ hin3)
 refine hK1 _ _ hb3 ?_
 clear hK1 K1 CB hb3 hin3
 refine zad rfl (by rfl) (fun K1 hK1=> ?_)
 go_simp
 refine(CS.out _ E3.out _ _ H3.out).mono ?_
 rintro e w5 ⟨rfl,hb4⟩
 have E4:Hid (Ext w3 w5):=Ext.trans E3.out hb4
 refine hK1 _ _ hb4 ?_
 clear hK1 K1 CS hb4 H3 E3
 have B4:=zwd (Below.step B2.out.below E4.out)
 clear B2 E4
 cases hs:zaW t (intT x)
 · have F:Hid (zaC t=(0,2)):=by rw[GX.out,hs];rfl
   repeat(refine zab _ rfl (by rfl) (fun W hW=>by go_simp;first|done|rfl) ?_;simp only[Act.put,zwe,zwg,zwf])
   refine zai ?_
   go_wp2_with fail
   go_ret2
   exact zb3.of F.out B4.out
 · have F:Hid (zaC t=(x,0)):=by rw[GX.out,hs];rfl
   repeat(refine zab _ rfl (by rfl) (fun W hW=>by go_simp;first|done|rfl) ?_;simp only[Act.put,zwe,zwg,zwf])
   refine zai ?_
   go_wp2_with fail
   go_ret2
   exact zb3.of F.out B4.out
end Go.Proofs.YtpgahclpbdpbnaaGreatDoor
namespace Go.Proofs.YtpgahclpbdpbnaaGreatDoor
open Go.RowKit
set_option linter.unusedVariables false
def zaQ (x:T×Int) (w:World) (e:Ending) (w':World):Prop:=
 ∃(A:Option Addr) (n c:Nat) (K:Option Addr) (m d:Nat),e= .returned (.tuple #[.agg #[.int .i64 x.1.tag,.slice A n c,.slice K m d],.int .i64 x.2])/\ x.1.InP (w.heap.size<= ·) w' (.agg #[.int .i64 x.1.tag,.slice A n c,.slice K m d])/\ Below w.heap.size w w'
theorem zcq {P:Program} {fn:Func} {p u:Tmp} {ty:TypeId} (h:fn.results=#[.cell p ty,.tmp u]) (tmps:Array Value) (w:World) (g:Nat) (t:TypeId) (cs:Array Value) (fr:Nat×Nat) (d:TypeDesc)
 (hp:tmps.getD p undef= .pointer (some ⟨g,0,none⟩)) (hg:w.heap[g]?=some (.cells cs t fr))
 (hu:P.underlying ty=some d) (hd:(match d with| .struct _| .array _ _=>true|_=>false)=true) (hi:(P.info? ty).map (·.size)=some cs.size):
 (results fn tmps).run P w= .ok (.tuple #[.agg cs,tmps.getD u undef]) w:=by
 rw[results_cell_tmp h,hp]
 simp[asAddr,run_loadVar_row w g t ty cs fr d hg hu hd hi,Result.andThen]
theorem zbp {w W:World} {tmps:Array Value} {fn:Func} {p u:Tmp} {x:T×Int} {z er:Int} {zs:List Int} {a:Option Addr} {c:Nat} (hx:x=(.node z zs [],er)) (hf:fn.results=#[.cell p 30,.tmp u]) (hp:tmps.getD p undef= .pointer (some ⟨w.heap.size,0,none⟩)) (hu:tmps.getD u undef= .int .i64 er) (hblk:Blk W w.heap.size 30 #[.int .i64 z,.slice a zs.length c,.slice none 0 0]) (hbel:Below w.heap.size w W) (hr:Row W a zs.length zs) (hg:0<zs.length->∃b off,a=some ⟨b,off,none⟩/\ w.heap.size<=b) (hnil:(a=none->c=0)/\ zs.length<=c) (hz:(Lit.int .i64 z).wf=true) (hn:zs.length<=1000000):
 bodyPost Tryz.prog fn (zaQ x w) .ret {tmps:=tmps,defers:=[]} W:=by
 subst hx
 have h:=zcq (P:=Tryz.prog) hf tmps W w.heap.size 30 #[.int .i64 z,.slice a zs.length c,.slice none 0 0] (0,0) _ hp hblk Tryz.underlying30 rfl Tryz.sizeNode3
 rw[hu]at h
 exact bodyPost_ret h rfl ⟨a,zs.length,c,none,0,0,rfl,zeF hz hr hn hnil hg,hbel⟩
theorem zah {w W:World} {tmps:Array Value} {fn:Func} {p u:Tmp} {x:T×Int} {z er:Int} {zs:List Int} {a:Option Addr} {c:Nat} (hx:x=(.node z zs [],er)) (hf:fn.results=#[.cell p 30,.tmp u]) (hp:tmps.getD p undef= .pointer (some ⟨w.heap.size,0,none⟩)) (hu:tmps.getD u undef= .int .i64 er) (hrb:RB w W) (hr:Row W a zs.length zs) (hg:0<zs.length->∃b off,a=some ⟨b,off,none⟩/\ w.heap.size<b) (hnil:(a=none->c=0)/\ zs.length<=c) (hz:(Lit.int .i64 z).wf=true) (hn:zs.length<=1000000):
 bodyPost Tryz.prog fn (zaQ x w) .ret {tmps:=tmps,defers:=[]} (boxed w W (.int .i64 z) (.slice a zs.length c) (.slice none 0 0)):=by
 obtain⟨h1,h2⟩:=hrb.boxed (.int .i64 z) (.slice a zs.length c) (.slice none 0 0)
 refine zbp hx hf hp hu h1 h2 (zkG hr (fun h0=> ?_) _ _ _) (fun h0=> ?_) hnil hz hn
 · obtain⟨b,off,e,hb⟩:=hg h0
   exact⟨b,off,e,by omega⟩
 · obtain⟨b,off,e,hb⟩:=hg h0
   exact⟨b,off,e,by omega⟩
def zqg (t:T) (w:World) (e:Ending) (w':World):Prop:=
 ∃(A:Option Addr) (n c:Nat) (K:Option Addr) (m d:Nat),e= .returned (.agg #[.int .i64 t.tag,.slice A n c,.slice K m d])/\ t.In w' (.agg #[.int .i64 t.tag,.slice A n c,.slice K m d])/\ Below w.heap.size w w'
def zfv (x:T×Int) (w:World) (e:Ending) (w':World):Prop:=
 ∃(A:Option Addr) (n c:Nat) (K:Option Addr) (m d:Nat),e= .returned (.tuple #[.agg #[.int .i64 x.1.tag,.slice A n c,.slice K m d],.int .i64 x.2])/\ x.1.In w' (.agg #[.int .i64 x.1.tag,.slice A n c,.slice K m d])/\ Below w.heap.size w w'
theorem zaQ.has {x:T×Int} {w w':World} {e:Ending} (h:zaQ x w e w'):zfv x w e w':=by
 obtain⟨A,n,c,K,m,d,e,hin,hb⟩:=h
 exact⟨A,n,c,K,m,d,e,T.InP.in _ hin,hb⟩
end Go.Proofs.YtpgahclpbdpbnaaGreatDoor
