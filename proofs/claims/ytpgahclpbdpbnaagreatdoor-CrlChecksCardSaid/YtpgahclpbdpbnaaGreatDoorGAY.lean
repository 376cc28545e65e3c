import Derived.Test.YtpgahclpbdpbnaaGreatDoorGAX
import Derived.Test.YtpgahclpbdpbnaaGreatDoorGAN
import Derived.Deep.OwnRows
import Derived.Test.YtpgahclpbdpbnaaGreatDoorGAM
import Derived.Test.YtpgahclpbdpbnaaGreatDoorGAJ
import Derived.Test.YtpgahclpbdpbnaaGreatDoorGAL
set_option maxHeartbeats 4000000
set_option maxRecDepth 100000
namespace Go.Proofs.YtpgahclpbdpbnaaGreatDoor
open Go.RowKit
set_option linter.unusedVariables false
def zaZ (zs:List Int) (w:World) (e:Ending) (w':World):Prop:=
 ∃a c,e= .returned (.slice a zs.length c)/\ Row w' a zs.length zs/\ zs.length<=c/\ (a=none->c=0)/\ Below w.heap.size w w'
theorem zo5 (w:World) (n:Nat) (hn:n<=1000000):Out w (w.alloc (.cells (madeCells #[.int .u8 0] n) 5)) (.slice (some ⟨w.heap.size,0,none⟩) n n) (List.replicate n 0):=by
 refine⟨⟨by simp,.inr ⟨w.heap.size,n,_,by simp,Nat.le_refl _,heap_alloc_new w _,by simp,by unfold maxLen;omega,by rw[size_madeCells];simp,?_⟩⟩,(Below.refl _ _).alloc (Nat.le_refl _) _⟩
 rw[toList_madeCells_one]
 simp
theorem zo6 {zs:List Int} {w w':World} {V:Value} (h:Out w w' V zs) (hz:∀x∈zs,0<=x/\ x<=255):zaZ zs w (.returned V) w':=by
 obtain⟨a,c,rfl,hr⟩:=h.row hz
 exact⟨a,c,rfl,hr,zaJ h.1,h.nilc,h.2⟩
theorem zvg {w:World} {g:Nat} {zs:List Int} {cs:Array Value} (h:Blk w g 5 cs) (hc:cs.toList=zs.map (Value.int .u8)) (hz:∀x∈zs,0<=x/\ x<=255):Row w (some ⟨g,0,none⟩) zs.length zs:=by
 refine⟨rfl,hz,fun _=>⟨g,0,rfl,h.lt,fun i hi=> ?_⟩⟩
 rw[Nat.zero_add,h.cell i,<-Array.getElem?_toList,hc,List.getElem?_map,List.getElem?_eq_getElem hi]
 rfl
theorem zlz (k n:Nat) (zs:List Int) (hl:zs.length=n) (hn:n<=k):(splice (madeCells #[Value.int .u8 0] k).toList (k-n) (zs.map (Value.int .u8))).toArray.toList=(List.replicate (k-n) 0++zs).map (Value.int .u8):=by
 subst hl
 rw[toList_madeCells_one]
 simp only[splice,List.map_append,List.map_replicate,List.length_map,List.take_replicate,List.drop_replicate]
 rw[show k-(k-zs.length+zs.length)=0 by omega,show min (k-zs.length) k=k-zs.length by omega]
 simp only[List.replicate_zero,List.append_nil]
theorem zrS {w w2 w3:World} {k:Nat} {L:List Int} {cs:Array Value} (hb:Below w.heap.size w w2) (hg:w2.grownBy w3 (some w.heap.size)) (hk:Blk w3 w.heap.size 5 cs) (hc:cs.toList=L.map (Value.int .u8)) (hz:∀x∈L,0<=x/\ x<=255) (hl:L.length=k):
 zaZ L w (.returned (.slice (some ⟨w.heap.size,0,none⟩) k k)) w3:=by
 subst hl
 exact⟨_,_,rfl,zvg hk hc hz,Nat.le_refl _,(fun e=>by cases e),hb.grown hg hb.size (fun j e=>by injection e with e;omega)⟩
theorem zmA (a:Option Addr) (n ca k:Nat) (zs:List Int) (w:World) (hr:Row w a n zs) (hn:n<=k) (hk0:0<k) (hk:k<=100000):
 Calls Tryz.prog 106 #[.slice a n ca,.int .i64 (k:Int)] w (zaZ (List.replicate (k-n) 0++zs) w):=by
 have hm1:=run_make_row' (P:=Tryz.prog) 26 5 (.int .u8 0) 1 Tryz.underlying26 Tryz.infoByte rfl .i64 .i64 k (by omega) (by omega)
 have BW:=zwd (zaI w (.cells (madeCells #[.int .u8 0] k) 5))
 have BK:=zwd (Blk.new w 5 (madeCells #[.int .u8 0] k))
 have R1:=zwd (hr.below BW.out)
 have SZ:=zwd (zlz k n zs hr.1 hn)
 have hz:=hr.1
 have hsz:(madeCells #[.int .u8 0] k).size=k:=by simp[size_madeCells]
 have BY:Hid (∀x∈List.replicate (k-n) (0:Int)++zs,0<=x/\ x<=255):=zwd (by
  intro x hx
  rcases List.mem_append.1 hx with hx|hx
  · have:=List.eq_of_mem_replicate hx
    omega
  · exact hr.2.1 x hx)
 have LN:Hid ((List.replicate (k-n) (0:Int)++zs).length=k):=zwd (by rw[List.length_append,List.length_replicate];omega)
 have HS:=zwd hsz
 have wk:IntKind.i64.wrap ((k:Int)-n)=(k:Int)-n:=IntWalk.i64_in _ (by omega)
 clear hr hsz
 go_enter Tryz.func106,Tryz.ntmps106
 generalize hw2:w.alloc (.cells (madeCells #[.int .u8 0] k) 5)=w2 at*
 by_cases h0:n=0
 · subst h0
   go_wp2_with (refine zei rfl _ _ rfl w.heap.size 0 0 0 a 0 ca rfl rfl _ 5 BK.out [] (by simp) (fun h=>absurd h (by simp)) (by simp) ?_;intro w3 hb3 hg3;have B3:=zwd hb3;have G3:=zwd hg3;clear hb3 hg3)
   obtain rfl:zs=[]:=List.eq_nil_of_length_eq_zero hz
   go_ret
   exact zrS BW.out G3.out B3.out (by simp[splice,toList_madeCells_one]) BY.out LN.out
 · obtain⟨b,off,rfl,hb,hc⟩:=R1.out.2.2 (by omega)
   have SR:Hid (∀j v,(zs.map (Value.int .u8))[j]?=some v->w2.cell? (Addr.add ⟨b,off,none⟩ j)=some v):=zwd (R1.out.cells)
   clear hc
   go_wp2_with (refine zei rfl _ _ rfl w.heap.size (k-n) (k-(k-n)) (k-(k-n)) (some ⟨b,off,none⟩) n ca rfl rfl _ 5 BK.out zs (by rw[hz];exact(Nat.min_eq_left (by omega)).symm) (fun _=>⟨_,rfl,SR.out⟩) (by have:=HS.out;omega) ?_;intro w3 hb3 hg3;have B3:=zwd hb3;have G3:=zwd hg3;clear hb3 hg3)
   go_ret
   exact zrS BW.out G3.out B3.out SZ.out BY.out LN.out
theorem zfh (a:Option Addr) (n ca k:Nat) (x:Int) (w:World) (hx:Num w x a n ca) (hn:n<=40000) (hk:k<=100000) (hl:(byZ x).length<=k):
 Calls Tryz.prog 117 #[.slice a n ca,.int .i64 (k:Int)] w (zaZ (widZ k x) w):=by
 obtain⟨xs,hr,rfl,hc,hi⟩:=hx
 have ct:=zpU a n ca xs w hr (by omega)
 unfold ziC at ct
 have CT:=zwd ct
 clear ct
 have BY:=zwd (zeA (valZ xs))
 have WB:=zwd (znu k (valZ xs))
 have WZ:Hid (widZ k (valZ xs)=List.replicate (k-(byZ (valZ xs)).length) 0++byZ (valZ xs)):=zwd rfl
 clear hr hc hi
 generalize byZ (valZ xs)=bz at*
 go_enter Tryz.func117,Tryz.ntmps117
 go_wp2_with fail
 refine CT.out.mono ?_
 rintro e w2 ⟨V,rfl,ho⟩
 obtain⟨a2,c2,rfl,hr2⟩:=ho.row BY.out
 obtain⟨q,hq⟩:∃q:Nat,q=k-bz.length:=⟨_,rfl⟩
 rw[<-hq]at WZ
 have hm1:=run_make_row' (P:=Tryz.prog) 26 5 (.int .u8 0) 1 Tryz.underlying26 Tryz.infoByte rfl .i64 .i64 q (by omega) (by omega)
 have wk:IntKind.i64.wrap ((k:Int)-bz.length)=(q:Int):=by rw[IntWalk.i64_in _ (by omega)];omega
 have hmx:max (q:Int) 0=(q:Int):=by omega
 have B2:=zwd ho.2
 have N2:=zwd ho.nilc
 have O3:=zwd ((zo5 w2 q (by omega)).wider ho.2)
 have R3:=zwd (hr2.below (zaI w2 (.cells (madeCells #[.int .u8 0] q) 5)))
 have HB3:Hid ((List.replicate q (0:Int)).length+bz.length<=1000000):=zwd (by simp;omega)
 clear hq ho hr2 CT
 go_wp2_with (at_builtin;go_must (refine zag (W0:=w) (L:=List.replicate q 0) (zs:=bz) rfl _ _ rfl rfl O3.out rfl R3.out N2.out HB3.out ?_;intro V4 w4 ho4;have O4:=zwd ho4;clear ho4))
 go_ret
 rw[<-WZ.out]at O4
 exact zo6 O4.out WB.out
theorem zuf {xs ys:List Int} (hx:∀x∈xs,0<=x/\ x<=255) (hy:∀x∈ys,0<=x/\ x<=255):((strOfNums xs).toList==(strOfNums ys).toList)=decide (xs=ys):=by
 rw[Bool.eq_iff_iff,decide_eq_true_iff,beq_iff_eq]
 constructor
 · intro h
   rw[<-zcG xs hx,<-zcG ys hy,zgX h]
 · intro h
   rw[h]
theorem zj5 (a b:Option Addr) (n m ca cb:Nat) (xs ys:List Int) (w:World) (hx:Row w a n xs) (hy:Row w b m ys):
 Calls Tryz.prog 58 #[.slice a n ca,.slice b m cb] w fun e w'=>e= .returned (.bool (decide (xs=ys)))/\ w'=w:=by
 have k1:=zbx ca hx
 have k2:=zbx cb hy
 have EQ:=zwd (zuf hx.2.1 hy.2.1)
 clear hx hy
 go_enter Tryz.func58,Tryz.ntmps58
 go_wp2_with fail
 go_ret
 exact⟨zaj EQ.out,rfl⟩
theorem zrT {l:List Int} (hl:zay l) (j:Nat):∃u,valZ l/4294967296^j=l[j]?.getD 0+4294967296*u:=by
 have e:=za0 l j
 have t:=zcg hl j
 have p:=zaM j
 rw[zaN l j]at e
 refine⟨valZ (l.drop (j+1)),?_⟩
 have:=ze4 p (a:=valZ l) (q:=l[j]?.getD 0+4294967296*valZ (l.drop (j+1))) (r:=valZ (l.take j)) (by rw[e,Int.mul_comm (4294967296^j),Int.add_comm]) t.1 t.2
 exact this.1
theorem zvR {x y z:Int} (h:0<=y):x/y/z=x/(y*z):=by rw[Int.ediv_ediv,if_neg (fun k=>by omega),Int.sub_zero]
theorem zbB (n:Nat):(0:Int)<2^n:=Int.pow_pos (by decide)
theorem up32 {b:Nat} (hb:b<32):(4294967296:Int)=2^b*(2*2^(31-b)):=by
 rw[<-Int.mul_assoc,<-Int.pow_succ,<-Int.pow_add,show b+1+(31-b)=32 by omega]
 rfl
theorem zug {l:List Int} (hl:zay l) (j b:Nat) (hb:b<32):l[j]?.getD 0/2^b%2=valZ l/2^(32*j+b)%2:=by
 obtain⟨u,hu⟩:=zrT hl j
 have p:=zbB b
 rw[Int.pow_add,<-zog,<-zvR (Int.le_of_lt (zaM j)),hu,up32 hb,Int.mul_assoc,Int.add_mul_ediv_left _ _ (by omega),Int.mul_assoc]
 omega
theorem zvS {x c:Int} (x0:0<=x) (x1:x<4294967296) (hx:x%2=0) (hc:c=0 \/c=1):bits .or .u32 x c=x+c:=by
 obtain⟨X,rfl⟩:∃X:Nat,x=(X:Int):=⟨x.toNat,by omega⟩
 obtain⟨C,rfl⟩:∃C:Nat,c=(C:Int):=⟨c.toNat,by omega⟩
 rw[nor X C (by omega) (by omega)]
 obtain⟨Y,rfl⟩:∃Y,X=2^1*Y:=⟨X/2,by omega⟩
 rw[<-Nat.two_pow_add_eq_or_of_lt (show C<2^1 by omega)]
 push_cast
 rfl
theorem zvT {x:Int} {b:Nat} (x0:0<=x) (x1:x<4294967296) (hb:b<32) (hx:x%(2*2^b)=0):bits .or .u32 x (2^b)=x+2^b/\ x+2^b<=4294967295:=by
 have p:=zbB b
 have d:=Int.mul_ediv_add_emod x (2*2^b)
 rw[hx,Int.add_zero]at d
 have hu:=up32 hb
 have q0:0<=x/(2*2^b):=Int.ediv_nonneg x0 (by omega)
 have key:x+2^b<=4294967295:=by
  have h2:x/(2*2^b)<2^(31-b):=by
   refine Int.ediv_lt_of_lt_mul (by omega) ?_
   have:(2:Int)^(31-b)*(2*2^b)=4294967296:=by rw[hu,Int.mul_comm,Int.mul_comm 2 (2^b),Int.mul_assoc]
   omega
  have h3:=Int.mul_le_mul_of_nonneg_left (show x/(2*2^b)+1<=2^(31-b)by omega) (show 0<=(2:Int)*2^b by omega)
  rw[Int.mul_add,Int.mul_one,d]at h3
  have:(2:Int)*2^b*2^(31-b)=4294967296:=by rw[hu,Int.mul_comm 2 (2^b),Int.mul_assoc]
  omega
 refine⟨?_,key⟩
 generalize x/(2*2^b)=q at*
 obtain⟨Q,rfl⟩:∃Q:Nat,q=(Q:Int):=⟨q.toNat,by omega⟩
 have e:x=((2^(b+1)*Q:Nat):Int):=by rw[<-d];push_cast;rw[Int.pow_succ,Int.mul_comm 2]
 have e2:(2:Int)^b=((2^b:Nat):Int):=by push_cast;rfl
 rw[e,e2]at key⊢
 rw[nor _ _ (by omega) (by omega),<-Nat.two_pow_add_eq_or_of_lt (show 2^b<2^(b+1)by rw[Nat.pow_succ];have:=Nat.pow_pos (n:=b) (show 0<2 by decide);omega)]
 push_cast
 rfl
theorem ztP {L0 L:List Int} {i:Nat} {c o:Int} (hi:i<L.length) (hs:L[i]?.getD 0=L0[i]?.getD 0) (h:valZ L=valZ L0+valZ (L0.take i)+c-4294967296^i*o):
 valZ (L.set i (L0[i]?.getD 0*2%4294967296+o))=valZ L0+valZ (L0.take (i+1))+c-4294967296^(i+1)*(L0[i]?.getD 0*2/4294967296):=by
 rw[zcH _ _ _ hi,hs,h,zc9,Int.pow_succ,Int.mul_assoc]
 generalize(4294967296:Int)^i=B at*
 generalize L0[i]?.getD 0=x at*
 have:B*(x*2%4294967296+o-x)=B*x+B*o-B*(4294967296*(x*2/4294967296)):=by rw[<-Int.mul_add,<-Int.mul_sub];congr 1;omega
 omega
theorem ztQ {L0 L ns:List Int} {i:Nat} {o o':Int} (hi:i<L.length) (hs:L[i]?.getD 0=L0[i]?.getD 0) (h:valZ L=valZ L0-valZ (ns.take i)+4294967296^i*o):
 valZ (L.set i (L0[i]?.getD 0-(ns[i]?.getD 0+o)+4294967296*o'))=valZ L0-valZ (ns.take (i+1))+4294967296^(i+1)*o':=by
 rw[zcH _ _ _ hi,hs,h,zc9,Int.pow_succ,Int.mul_assoc]
 generalize(4294967296:Int)^i=B at*
 generalize L0[i]?.getD 0=x at*
 generalize ns[i]?.getD 0=y at*
 have:B*(x-(y+o)+4294967296*o'-x)=B*(4294967296*o')-B*y-B*o:=by rw[<-Int.mul_sub,<-Int.mul_sub];congr 1;omega
 omega
def zgx (A M:Int) (k:Nat) (r q:Int):Prop:=r=A/2^k%M/\ q=A/2^k/M*2^k
theorem zlA {A M:Int} {k:Nat} (h0:0<=A) (h:A<2^k) (hM:0<M):zgx A M k 0 0:=by
 have:A/2^k=0:=Int.ediv_eq_zero_of_lt h0 h
 unfold zgx
 rw[this]
 simp
theorem zj6 (A:Int) (k:Nat):A/2^k=2*(A/2^(k+1))+A/2^k%2:=by
 rw[Int.pow_succ,<-zvR (Int.le_of_lt (zbB k))]
 omega
theorem zo7 {A M:Int} {k:Nat} {r q:Int} (hM:0<M) (h:zgx A M (k+1) r q) (hlt:2*r+A/2^k%2<M):zgx A M k (2*r+A/2^k%2) q:=by
 obtain⟨hr,hq⟩:=h
 have e:=zj6 A k
 have b0:0<=A/2^k%2:=Int.emod_nonneg _ (by decide)
 have d:=Int.mul_ediv_add_emod (A/2^(k+1)) M
 have r0:0<=A/2^(k+1)%M:=Int.emod_nonneg _ (by omega)
 rw[<-hr]at d r0
 have f:=ze4 hM (a:=A/2^k) (q:=2*(A/2^(k+1)/M)) (r:=2*r+A/2^k%2) (by
  rw[Int.mul_assoc,Int.mul_comm _ M]
  omega) (by omega) hlt
 refine⟨f.2.symm,?_⟩
 rw[f.1,hq,Int.pow_succ,Int.mul_comm 2,Int.mul_assoc,Int.mul_comm 2]
theorem zmB {A M:Int} {k:Nat} {r q:Int} (hM:0<M) (h:zgx A M (k+1) r q) (hge:¬2*r+A/2^k%2<M):zgx A M k (2*r+A/2^k%2-M) (q+2^k):=by
 obtain⟨hr,hq⟩:=h
 have e:=zj6 A k
 have b0:0<=A/2^k%2:=Int.emod_nonneg _ (by decide)
 have b1:A/2^k%2<2:=Int.emod_lt_of_pos _ (by decide)
 have d:=Int.mul_ediv_add_emod (A/2^(k+1)) M
 have r0:0<=A/2^(k+1)%M:=Int.emod_nonneg _ (by omega)
 have r1:A/2^(k+1)%M<M:=Int.emod_lt_of_pos _ hM
 rw[<-hr]at d r0 r1
 have f:=ze4 hM (a:=A/2^k) (q:=2*(A/2^(k+1)/M)+1) (r:=2*r+A/2^k%2-M) (by
  rw[Int.add_mul,Int.mul_assoc,Int.mul_comm _ M]
  omega) (by omega) (by omega)
 refine⟨f.2.symm,?_⟩
 rw[f.1,hq,Int.pow_succ,Int.add_mul,Int.one_mul,Int.mul_comm 2,Int.mul_assoc,Int.mul_comm 2]
theorem ztR {l:List Int} (hl:zay l) {j b:Nat} (hb:b<32) {u:Int} (h:valZ l=u*2^(32*j+b+1)):l[j]?.getD 0%(2*2^b)=0:=by
 obtain⟨v,hv⟩:=zrT hl j
 have p:=zbB b
 have e:valZ l/4294967296^j=u*(2*2^b):=by
  rw[h,zog,Nat.add_assoc,Int.pow_add,Int.pow_succ,Int.mul_comm (2^b) 2,Int.mul_left_comm]
  exact Int.mul_ediv_cancel_left _ (by have:=zbB (32*j);omega)
 have e2:l[j]?.getD 0=2*2^b*(u-2^(31-b)*v):=by
  have e3:2*2^b*(2^(31-b)*v)=4294967296*v:=by rw[up32 hb,Int.mul_comm 2 (2^b),Int.mul_assoc,Int.mul_assoc,Int.mul_assoc]
  rw[Int.mul_sub,e3,Int.mul_comm _ u,<-e,hv]
  omega
 rw[e2]
 exact Int.mul_emod_right _ _
theorem zgy {A M p n:Int} {e:Nat} (hp:p=A^e%M):p*p%M=A^(2*e)%M:=by
 rw[hp,<-Int.mul_emod,Nat.two_mul,Int.pow_add]
theorem zia {A M p b:Int} {e:Nat} (hp:p=A^e%M) (hb:b=A%M):p*b%M=A^(e+1)%M:=by
 rw[hp,hb,<-Int.mul_emod,Int.pow_succ]
def upTo (E:Int) (k:Nat):Nat:=(E/2^k).toNat
theorem zlB {E:Int} (h:0<=E) (k:Nat):upTo E k=2*upTo E (k+1)+(E/2^k%2).toNat:=by
 unfold upTo
 have e:=zj6 E k
 have n:0<=E/2^(k+1):=Int.ediv_nonneg h (Int.le_of_lt (zbB _))
 omega
theorem zje {E:Int} (h:0<=E):upTo E (bitZ E).toNat=0:=by
 have:=zpP E.toNat
 unfold upTo
 rw[Int.ediv_eq_zero_of_lt h]
 · rfl
 · have e:((2^(bitN E.toNat).toNat:Nat):Int)=(2:Int)^(bitZ E).toNat:=by push_cast;rfl
   omega
theorem znW (E:Int):upTo E 0=E.toNat:=by unfold upTo;simp
theorem zlC {w:World} {x y m:Int} {a b d:Option Addr} {n k l ca cb cd:Nat} (hx:Num w x a n ca) (hy:Num w y b k cb) (hm:Num w m d l cd) (hn:n<=15000) (hk:k<=15000) (hl:l<=30000):
 Calls Tryz.prog 160 #[.slice a n ca,.slice b k cb,.slice d l cd] w (ResR (remZ (x*y) m) m l w):=by
 have MC:=zwd (zsH hx hy (by omega) (by omega))
 have HM:=zwd hm
 have P0:=Int.mul_nonneg hx.nonneg.1 hy.nonneg.1
 clear hx hy hm
 generalize x*y=p at*
 go_enter Tryz.func160,Tryz.ntmps160
 go_wp2_with fail
 refine MC.out.mono ?_
 rintro e w2 ⟨a2,n2,c2,rfl,hN,hk2,hb2⟩
 have DC:=zwd (zfb (hN.num P0) (HM.out.below hb2) (by omega) hl)
 have B2:=zwd hb2
 clear hN hb2 MC HM
 go_wp2_with fail
 refine DC.out.mono ?_
 rintro e w3 ⟨qa,n1,c1,ra,n3,c3,rfl,hq,hr,h1,h3,hb3⟩
 have R3:=zwd hr
 have B3:=zwd (Below.step B2.out hb3)
 clear DC hq hr hb3
 go_wp2_with fail
 go_ret2
 exact⟨ra,n3,c3,rfl,R3.out,h3,B3.out⟩
theorem zvh {x:Int} (x0:0<=x) (x1:x<=4294967295):bits .and .u32 x 1=x%2:=by
 obtain⟨X,rfl⟩:∃X:Nat,x=(X:Int):=⟨x.toNat,by omega⟩
 have:=nand X 1 (by omega) (by decide)
 rw[show((1:Nat):Int)=1 by rfl]at this
 rw[this,Nat.and_one_is_mod]
 omega
theorem ztS {w:World} {x y m:Int} {a b d:Option Addr} {n k l ca cb cd:Nat} (hx:Num w x a n ca) (hy:Num w y b k cb) (hm:Num w m d l cd) (hn:n<=15000) (hk:k<=15000) (hl:l<=15000):
 Calls Tryz.prog 105 #[.slice a n ca,.slice b k cb,.slice d l cd] w (ResR (remZ (x^y.toNat) m) m l w):=by
 have HX:=zwd hx
 have HY:=zwd hy
 have HM:=zwd hm
 have m0:=hm.nonneg.1
 have y0:=hy.nonneg.1
 have L1:=zwd (zm4 hy (by omega))
 clear hx hy hm
 have C1:Hid (∀W:World,Num (W.alloc (.cells #[.int .u32 1] 22)) 1 (some ⟨W.heap.size,0,none⟩) 1 1):=zwd (fun W=>by
  obtain⟨a1,c1,e1,r1⟩:=(zg0 W 1).row (by intro q hq;simp at hq;omega)
  injection e1 with e1 e2 e3
  subst e1 e3
  exact⟨_,r1,by simp[valZ],Nat.le_refl _,fun e=>by cases e⟩)
 have B1:=zwd ((Below.refl w.heap.size w).alloc (Nat.le_refl _) (.cells #[.int .u32 1] 22))
 have DC:=zwd (zfb (C1.out w) (HM.out.below B1.out) (by omega) (by omega))
 go_enter Tryz.func105,Tryz.ntmps105
 go_wp2_with fail
 refine DC.out.mono ?_
 rintro e w2 ⟨qa,n1,c1,ra,n2,c2,rfl,hq,hr,h1,h2,hb2⟩
 have B2:=zwd (Below.step B1.out hb2)
 have R2:=zwd hr
 clear DC hq hr hb2 B1 C1
 by_cases hz:m=0
 · subst hz
   rw[show decide ((0:Int)=0)=true from rfl]
   go_wp2_with fail
   go_ret2
   exact⟨none,0,0,rfl,zeL _,Nat.zero_le _,B2.out⟩
 · have mp:0<m:=by omega
   rw[show decide (m=0)=false from decide_eq_false hz]
   have DC:=zwd (zfb (HX.out.below B2.out) (HM.out.below B2.out) (by omega) (by omega))
   go_wp2_with fail
   refine DC.out.mono ?_
   rintro e w3 ⟨qa2,n3,c3,ra2,n4,c4,rfl,hq,hr,h3,h4,hb3⟩
   have B3:=zwd (Below.step B2.out hb3)
   have R3:=zwd (R2.out.below hb3)
   have Q3:=zwd hr
   clear DC hq hr hb3 R2
   have LC:=zwd (zm4 (HY.out.below B3.out) (by omega))
   go_wp2_with fail
   refine LC.out.mono ?_
   rintro e w4 ⟨rfl,hb4⟩
   have B4:=zwd (Below.step B3.out hb4)
   have R4:=zwd (R3.out.below hb4)
   have Q4:=zwd (Q3.out.below hb4)
   clear LC hb4 R3 Q3
   have bz0:=zda y
   obtain⟨E,hE⟩:∃E:Nat,bitZ y=(E:Int):=⟨(bitZ y).toNat,by omega⟩
   have hEk:E<=32*k:=by
    obtain⟨es,her,hev,_,_⟩:=HY.out
    have:=zfY her.2.1
    rw[hev,her.1]at this
    omega
   have US:Hid (upTo y E=0):=zwd (by have:=zje y0;rwa[hE,Int.toNat_natCast]at this)
   rw[hE]
   clear hE bz0
   have w1:IntKind.i64.wrap ((E:Int)-1)=(E:Int)-1:=IntWalk.i64_in _ (by omega)
   go_wp2_with fail
   go_loopw [9,14] (fun pV iV wr=>∃(i:Nat) (pa:Option Addr) (pn pc:Nat),pV= .slice pa pn pc/\ iV= .int .i64 ((i:Int)-1)/\ i<=E/\ Norm wr (remZ (x^upTo y i) m) pa pn pc/\ pn<=l/\ Below w.heap.size w wr/\ Norm wr (remZ x m) ra2 n4 c4) (fun _ iV _=>(intOf iV+1).toNat)
   case atStart=>exact⟨E,ra,n2,c2,rfl,rfl,Nat.le_refl _,by rw[US.out,Int.pow_zero];exact R4.out,h2,B4.out,Q4.out⟩
   case round=>
    obtain⟨i,pa,pn,pc,rfl,rfl,hi,hN,hpn,hbw,hbase⟩:=hrel
    have HN:=zwd hN
    have HBW:=zwd hbw
    have HBS:=zwd hbase
    clear hN hbw hbase R4 Q4 US
    rcases Nat.eq_zero_or_pos i with h0|h0
    · subst h0
      rw[show((0:Nat):Int)-1= -1 by rfl]
      have t0:decide ((0:Int)<= -1)=false:=by decide
      have E0:=zwd (znW y)
      go_wp2_with fail
      go_ret2
      exact⟨pa,pn,pc,by rw[decide_eq_false hz];rfl,by rw[<-E0.out];exact HN.out,hpn,HBW.out⟩
    · obtain⟨j,rfl⟩:∃j,i=j+1:=⟨i-1,by omega⟩
      rw[show((j+1:Nat):Int)-1=(j:Int)by omega]
      have t0:decide ((0:Int)<=(j:Int))=true:=decide_eq_true (by omega)
      have MC:=zwd (zlC (HN.out.num (zbA m0)) (HN.out.num (zbA m0)) (HM.out.below HBW.out) (by omega) (by omega) (by omega))
      have PW:Hid (remZ (remZ (x^upTo y (j+1)) m*remZ (x^upTo y (j+1)) m) m=remZ (x^(2*upTo y (j+1))) m):=zwd (by
       rw[za4 mp,za4 mp,za4 mp]
       exact zgy (n:=0) rfl)
      rw[PW.out]at MC
      have UN:=zlB y0 j
      have yn:=HY.out
      obtain⟨es,her,hev,hec,hen⟩:=yn
      obtain⟨q,hq⟩:∃q,j/32=q:=⟨_,rfl⟩
      have r32:=Nat.mod_lt j (show 0<32 by omega)
      obtain⟨r,hr⟩:∃r,j%32=r:=⟨_,rfl⟩
      rw[hr]at r32
      have jq:j=32*q+r:=by omega
      have BA:=zug her.2.1 q r r32
      rw[hev,<-jq]at BA
      rw[<-BA]at UN
      obtain⟨b1,o1,rfl,hb1,hc1⟩:=her.2.2 (by omega)
      have qk:q<k:=by omega
      have cE0:=hc1 q qk
      have xr:=her.num q
      generalize es[q]?.getD 0=z at*
      have HUN:=zwd UN
      clear UN BA her hev hec hen
      go_wp2_with fail
      refine MC.out.mono ?_
      rintro e w5 ⟨a5,n5,c5,rfl,hN5,hn5,hb5⟩
      have HN5:=zwd hN5
      have B5:=zwd (Below.step HBW.out hb5)
      have S5:=zwd (HBS.out.below hb5)
      have cE:w5.cell? ⟨b1,o1+q,none⟩=some (.int .u32 z):=(B5.out.cell (p:=⟨b1,o1+q,none⟩) hb1).trans cE0
      have k3:(j:Int)/32=(q:Int):=by omega
      have k3':(j:Int).tdiv 32=(q:Int):=by rw[Int.tdiv_eq_ediv_of_nonneg (by omega)];exact k3
      have k4:(j:Int)%32=(r:Int):=by omega
      have k4':(j:Int).tmod 32=(r:Int):=by rw[Int.tmod_eq_emod_of_nonneg (by omega)];exact k4
      have k5:IntKind.i64.wrap (q:Int)=(q:Int):=IntWalk.i64_in _ (by omega)
      have k6:IntKind.i64.wrap (r:Int)=(r:Int):=IntWalk.i64_in _ (by omega)
      have k7:IntKind.i64.wrap ((j:Int)-1)=(j:Int)-1:=IntWalk.i64_in _ (by omega)
      have qI:(q:Int)<(k:Int):=by omega
      have HJ:=zwd jq
      clear hN5 hb5 MC cE0 PW HN HBS HBW jq hq hr hc1
      have zr0:0<=z/2^r:=Int.ediv_nonneg xr.1 (Int.le_of_lt (zbB r))
      have zr1:z/2^r<=4294967295:=by have:=Int.ediv_le_self (2^r) xr.1;omega
      have kB:=zvh zr0 zr1
      rcases(show z/2^r%2=1 \/z/2^r%2=0 by omega)with hb|hb
      · rw[hb]at kB HUN
        have t1:(bits .and .u32 (z/2^r) 1==1)=true:=by rw[kB];rfl
        clear hb kB
        have MC:=zwd (zlC (HN5.out.num (zbA m0)) (S5.out.num (zbA m0)) (HM.out.below B5.out) (by omega) (by omega) (by omega))
        have PW:Hid (remZ (remZ (x^(2*upTo y (j+1))) m*remZ x m) m=remZ (x^upTo y j) m):=zwd (by
         rw[HUN.out,za4 mp,za4 mp,za4 mp,za4 mp]
         exact zia rfl rfl)
        rw[PW.out]at MC
        clear PW HUN
        go_wp2_with fail
        refine MC.out.mono ?_
        rintro e w6 ⟨a6,n6,c6,rfl,hN6,hn6,hb6⟩
        have HN6:=zwd hN6
        have B6:=zwd (Below.step B5.out hb6)
        have S6:=zwd (S5.out.below hb6)
        clear hN6 hb6 MC HN5 S5
        go_wp2_with fail
        go_roundw
        case rel=>exact⟨j,a6,n6,c6,rfl,rfl,by omega,HN6.out,hn6,B6.out,S6.out⟩
        case measure=>simp only[intOf];omega
      · rw[hb]at kB HUN
        have t1:(bits .and .u32 (z/2^r) 1==1)=false:=by rw[kB];rfl
        clear hb kB
        have PW:Hid (2*upTo y (j+1)=upTo y j):=zwd (by rw[HUN.out];rfl)
        rw[PW.out]at HN5
        clear PW HUN
        go_wp2_with fail
        go_roundw
        case rel=>exact⟨j,a5,n5,c5,rfl,rfl,by omega,HN5.out,hn5,B5.out,S5.out⟩
        case measure=>simp only[intOf];omega
theorem znX (a:Option Addr) (n ca k:Nat) (zs:List Int) (w:World) (hr:zat w a n zs) (hk:k<32*n) (hn:n<=100000):
 Calls Tryz.prog 167 #[.slice a n ca,.int .i64 (k:Int)] w fun e w'=>e= .returned (.int .u32 (valZ zs/2^k%2))/\ w'=w:=by
 obtain⟨q,hq⟩:∃q,k/32=q:=⟨_,rfl⟩
 have r32:=Nat.mod_lt k (show 0<32 by omega)
 obtain⟨r,hrr⟩:∃r,k%32=r:=⟨_,rfl⟩
 rw[hrr]at r32
 have jq:k=32*q+r:=by omega
 have BA:=zug hr.2.1 q r r32
 rw[<-jq]at BA
 obtain⟨b1,o1,rfl,hb1,hc1⟩:=hr.2.2 (by omega)
 have cE:=hc1 q (by omega)
 have xr:=hr.num q
 have k3:(k:Int)/32=(q:Int):=by omega
 have k3':(k:Int).tdiv 32=(q:Int):=by rw[Int.tdiv_eq_ediv_of_nonneg (by omega)];exact k3
 have k4:(k:Int)%32=(r:Int):=by omega
 have k4':(k:Int).tmod 32=(r:Int):=by rw[Int.tmod_eq_emod_of_nonneg (by omega)];exact k4
 have k5:IntKind.i64.wrap (q:Int)=(q:Int):=IntWalk.i64_in _ (by omega)
 have k6:IntKind.i64.wrap (r:Int)=(r:Int):=IntWalk.i64_in _ (by omega)
 have qI:(q:Int)<(n:Int):=by omega
 rw[<-BA]
 generalize zs[q]?.getD 0=z at*
 have zr0:0<=z/2^r:=Int.ediv_nonneg xr.1 (Int.le_of_lt (zbB r))
 have zr1:z/2^r<=4294967295:=by have:=Int.ediv_le_self (2^r) xr.1;omega
 have k7:IntKind.u32.wrap (z/2^r%2)=z/2^r%2:=IntWalk.u32_in _ (by omega)
 have k8:(z/2^r).tmod 2=z/2^r%2:=Int.tmod_eq_emod_of_nonneg zr0
 clear hr jq BA hq hrr hc1
 go_enter Tryz.func167,Tryz.ntmps167
 go_wp2_with fail
 go_ret
 exact⟨rfl,rfl⟩
theorem zrU (a b:Option Addr) (n ca cb:Nat) (xs ys:List Int) (w:World) (hr:zat w a n xs) (hs:zat w b n ys) (hn:n<=100000):
 Calls Tryz.prog 202 #[.slice a n ca,.slice b n cb] w fun e w'=>e= .returned (.bool (decide (valZ xs<valZ ys)))/\ ∃q,w'=w.drewN q:=by
 have HA:=zwd hr
 have HB:=zwd hs
 have LA:=zwd (zap hr)
 have LB:=zwd (zap hs)
 have TOP:Hid (valZ (xs.drop n)=valZ (ys.drop n)):=zwd (by rw[List.drop_of_length_le (by rw[hr.1];omega),List.drop_of_length_le (by rw[hs.1];omega)])
 have w1:IntKind.i64.wrap ((n:Int)-1)=(n:Int)-1:=IntWalk.i64_in _ (by omega)
 clear hr hs
 go_enter Tryz.func202,Tryz.ntmps202
 go_wp2_with fail
 go_loopw [5] (fun i wr=>∃k q:Nat,k<=n/\ i= .int .i64 ((k:Int)-1)/\ valZ (xs.drop k)=valZ (ys.drop k)/\ wr=w.drewN q) (fun i _=>(intOf i+1).toNat)
 case atStart=>exact⟨n,0,Nat.le_refl _,rfl,TOP.out,rfl⟩
 case round=>
  obtain⟨k,q,hk,rfl,hd,hw⟩:=hrel
  have HD:=zwd hd
  have HW:=zwd hw
  have RA:Hid (zat wr a n xs):=zwd (by rw[hw];exact HA.out.drewN q)
  have RB:Hid (zat wr b n ys):=zwd (by rw[hw];exact HB.out.drewN q)
  clear hd hw TOP
  rcases Nat.eq_zero_or_pos k with h0|h0
  · subst h0
    have E:Hid (decide (valZ xs<valZ ys)=false):=zwd (decide_eq_false (fun h=>by
     have:=HD.out
     rw[List.drop_zero,List.drop_zero]at this
     omega))
    rw[show((0:Nat):Int)-1= -1 by rfl]
    have t0:decide ((0:Int)<= -1)=false:=by decide
    go_wp2_with fail
    go_ret
    exact⟨by rw[E.out];rfl,q,HW.out⟩
  · obtain⟨j,rfl⟩:∃j,k=j+1:=⟨k-1,by omega⟩
    have CL:=zwd (zpC (k:=j) LA.out LB.out HD.out)
    have CG:=zwd (zpD (k:=j) LA.out LB.out HD.out)
    have CD:=zwd (zjj (k:=j) HD.out)
    rw[show((j+1:Nat):Int)-1=(j:Int)by omega]
    have t0:decide ((0:Int)<=(j:Int))=true:=decide_eq_true (by omega)
    have w3:IntKind.i64.wrap ((j:Int)-1)=(j:Int)-1:=IntWalk.i64_in _ (by omega)
    obtain⟨b1,o1,rfl,hb1,hc1⟩:=RA.out.2.2 (by omega)
    obtain⟨b2,o2,rfl,hb2,hc2⟩:=RB.out.2.2 (by omega)
    have c1:=hc1 j (by omega)
    have c2:=hc2 j (by omega)
    have jI:(j:Int)<(n:Int):=by omega
    generalize xs[j]?.getD 0=x at*
    generalize ys[j]?.getD 0=y at*
    clear hc1 hc2 HD w1
    by_cases hxy:x=y
    · have E:=zwd (CD.out hxy)
      have t1:(x !=y)=false:=by simpa using hxy
      clear CL CG CD
      go_wp2_with fail
      go_quiet (fail)
      have N2:Hid (wr.drewN nq=w.drewN (q+nq)):=by rw[HW.out];exact zwd (World.drewN_drewN _ _ _)
      generalize wr.drewN nq=w4 at*
      go_wp2_with fail
      go_roundw
      case rel=>exact⟨j,_,by omega,rfl,E.out,N2.out⟩
      case measure=>simp only[intOf];omega
    · have t1:(x !=y)=true:=by simpa using hxy
      have E:Hid (decide (x<y)=decide (valZ xs<valZ ys)):=zwd (by
       have ne:=zso (valZ xs) (valZ ys)
       rcases Int.lt_or_gt_of_ne hxy with h1|h1
       · have:=CL.out h1
         rw[decide_eq_true h1,decide_eq_true (ne.1 (by omega))]
       · have:=CG.out h1
         rw[decide_eq_false (by omega),decide_eq_false (fun h=>by have:=ne.2 h;omega)])
      clear CL CG CD
      go_wp2_with fail
      go_quiet (fail)
      have N2:Hid (wr.drewN nq=w.drewN (q+nq)):=by rw[HW.out];exact zwd (World.drewN_drewN _ _ _)
      obtain⟨q2,hq2⟩:∃q2,q+nq=q2:=⟨_,rfl⟩
      rw[hq2]at N2
      clear hq2
      have e1:(wr.drewN nq).cell? ⟨b1,o1+j,none⟩=some (.int .u32 x):=c1
      have e2:(wr.drewN nq).cell? ⟨b2,o2+j,none⟩=some (.int .u32 y):=c2
      generalize wr.drewN nq=w4 at*
      clear c1 c2
      go_wp2_with fail
      go_quiet (fail)
      have N3:Hid (w4.drewN nq=w.drewN (q2+nq)):=by rw[N2.out];exact zwd (World.drewN_drewN _ _ _)
      generalize w4.drewN nq=w5 at*
      go_wp2_with fail
      go_ret
      exact⟨by rw[<-E.out];rfl,_,N3.out⟩
theorem zvi {L0 L:List Int} {N:Nat} {c o:Int} (hl0:L0.length=N+1) (hl:L.length=N+1) (hL:zay L) (c1:c<=1) (o0:0<=o) (hv:valZ L0<4294967296^N) (h:valZ L=valZ L0+valZ (L0.take (N+1))+c-4294967296^(N+1)*o):valZ L=2*valZ L0+c:=by
 rw[List.take_of_length_le (by omega)]at h
 have n:=zaA hL
 rw[Int.pow_succ]at h
 have p:=zaM N
 generalize(4294967296:Int)^N=B at*
 rcases(show o=0 \/1<=o by omega)with rfl|ho
 · omega
 · have:=Int.mul_le_mul_of_nonneg_left ho (show(0:Int)<=B*4294967296 by omega)
   omega
theorem zvj {L1 L ns:List Int} {N:Nat} {o:Int} (hl1:ns.length=N+1) (hl:L.length=N+1) (hL:zay L) (o0:0<=o) (hle:valZ ns<=valZ L1) (h:valZ L=valZ L1-valZ (ns.take (N+1))+4294967296^(N+1)*o):valZ L=valZ L1-valZ ns:=by
 rw[List.take_of_length_le (by omega)]at h
 have n:=zdN hL
 rw[hl]at n
 generalize(4294967296:Int)^(N+1)=B at*
 have n0:=zaA hL
 rcases(show o=0 \/1<=o by omega)with rfl|ho
 · omega
 · have:=Int.mul_le_mul_of_nonneg_left ho (show(0:Int)<=B by omega)
   omega
theorem zo8 {A M r q:Int} (h:zgx A M 0 r q):r=A%M/\ q=A/M:=by
 obtain⟨h1,h2⟩:=h
 simp at h1 h2
 exact⟨h1,h2⟩
theorem zes {w:World} {x m:Int} {a b:Option Addr} {n k ca cb:Nat} (hx:Num w x a n ca) (hm:Num w m b k cb) (hn:n<=30000) (hk:k<=30000):
 Calls Tryz.prog 164 #[.slice a n ca,.slice b k cb] w (ResQ x m n k w):=by
 obtain⟨i0,hi,hz0,hz1,hz2⟩:=info_parts Tryz.info32
 have m0:=hm.nonneg.1
 have x0:=hx.nonneg.1
 have QL:=zwd (zqH hx.nonneg m0)
 have RL:=zwd (zqI (x:=x) hm.nonneg)
 have mlk:(limZ m).length<=k:=ze3 hm.nonneg.1 hm.nonneg.2
 have X1:Hid (x<2^(32*n)):=zwd (by have:=hx.nonneg.2;rwa[zog]at this)
 obtain⟨ys,hyr,hyv,hyc,hyn⟩:=hm
 have BC:=zwd (zkm b k cb ys w hyr hyc (by omega) hyn)
 rw[hyv]at BC
 obtain⟨xs,hxr,hxv,hxc,hxn⟩:=hx
 have HX:=zwd hxr
 have HXV:=zwd hxv
 have VM:=zwd (zca m0)
 have LM:=zwd (zbo m)
 have Z2:=zwd hz2
 clear hyr hyv hyc hyn hxr hxv hxc hxn hz2
 go_enter Tryz.func164,Tryz.ntmps164
 go_wp2_with fail
 refine BC.out.mono ?_
 rintro e w2 ⟨V,rfl,ho⟩
 have HO:=zwd ho
 clear BC
 by_cases h0:(limZ m).length=0
 · have hz:=zgJ m0 h0
   subst hz
   obtain⟨a2,c2,rfl,_⟩:=ho.row LM.out
   have hl0:((limZ 0).length:Int)=0:=by rw[h0];rfl
   clear ho
   go_wp2_with fail
   go_ret3
   exact⟨none,0,0,none,0,0,by simp,by rw[Int.ediv_zero];exact zeL _,zeL _,Nat.zero_le _,Nat.zero_le _,HO.out.2⟩
 · obtain⟨g2,cap2,rfl,hg2⟩:=ho.form (by omega)
   have mp:0<m:=by
    rcases(show m=0 \/0<m by omega)with h|h
    · subst h
      exact absurd (by rw[zd7];rfl) h0
    · exact h
   obtain⟨N,hN⟩:∃N,(limZ m).length=N:=⟨_,rfl⟩
   rw[hN]at HO h0 mlk⊢
   have HN:=zwd hN
   have t0:((N:Int)==0)=false:=by simp;omega
   have MN:Hid (m<4294967296^N):=zwd (by have:=zdN LM.out;rwa[VM.out,hN]at this)
   clear ho hN
   have O3:=zwd (HO.out.alloc (.cells #[.int .u32 0] 22))
   have Z3:Hid (zat (w2.alloc (.cells #[.int .u32 0] 22)) (some ⟨w2.heap.size,0,none⟩) 1 [0]):=zwd (zbs w2 [0] (by intro x hx;simp at hx;omega))
   have hN1:(limZ m).length+1<=1000000:=by rw[HN.out];omega
   have LN1:Hid ((limZ m++[0]).length=N+1):=zwd (by rw[List.length_append,HN.out];rfl)
   have VN1:Hid (valZ (limZ m++[0])=m):=zwd (by rw[zdM,VM.out];simp[valZ])
   have LL1:Hid (zay (limZ m++[0])):=zwd (ziB LM.out (by omega) (by omega))
   generalize hns:limZ m++[0]=ns at*
   have HNS:=zwd hns
   clear hns
   have wN:IntKind.i64.wrap (32*(n:Int))=32*(n:Int):=IntWalk.i64_in _ (by omega)
   have wN2:IntKind.i64.wrap (32*(n:Int)-1)=32*(n:Int)-1:=IntWalk.i64_in _ (by omega)
   go_wp2_with (first
    |(at_builtin;go_must (refine zcJ (W0:=w) (L:=limZ m) (zs:=[0]) rfl _ _ rfl rfl O3.out rfl Z3.out (fun e=>by cases e) hN1 ?_;intro V4 w4 ho4;rw[HNS.out]at ho4;obtain⟨g4,cap4,rfl,hg4⟩:=ho4.form (by rw[LN1.out];omega);rw[LN1.out]at ho4⊢;have O4:=zwd ho4;clear ho4))
    |(at_make;refine wpList_make_full _ rfl _ _ 23 rfl w4.heap.size 22 i0 (.int .u32 0) 1 Tryz.underlying23 hi hz0 hz1 _ _ _ _ (N+1) rfl rfl ?b0 ?b00 ?b1 ?b2 ?b3 ?_))
   case b0=>first|rfl|omega
   case b00=>first|rfl|omega
   case b1=>rw[Z2.out];omega
   case b2=>unfold maxLen;omega
   case b3=>exact Nat.le_refl _
   intro w5 hown0 hgrow
   have R5:=zwd (zbX hown0 hgrow)
   have B4:=zwd O4.out.2
   have NR:Hid (zat w4 (some ⟨g4,0,none⟩) (N+1) ns):=zwd (O4.out.normed LL1.out).1
   have X4:=zwd (HX.out.below B4.out)
   clear hown0 hgrow O4 O3 Z3 HO HX HNS hN1
   go_wp2_with (at_make;refine wpList_make_full _ rfl _ _ 23 rfl w5.heap.size 22 i0 (.int .u32 0) 1 Tryz.underlying23 hi hz0 hz1 _ _ _ _ n rfl rfl ?b0 ?b00 ?b1 ?b2 ?b3 ?_)
   case b0=>first|rfl|omega
   case b00=>first|rfl|omega
   case b1=>rw[Z2.out];omega
   case b2=>unfold maxLen;omega
   case b3=>exact Nat.le_refl _
   intro w6 hown0 hgrow
   have R6:=zwd (R5.out.below (zbX hown0 hgrow).2)
   have Q6:=zwd ((zbX hown0 hgrow).wider R5.out.2)
   have hlt45:=R5.out.lt
   have hle5:=R5.out.2.size
   clear hown0 hgrow R5 Z2 hz1 hz0 hi
   generalize w5.heap.size=gq at*
   obtain⟨gr,hgr⟩:∃gr,w4.heap.size=gr:=⟨_,rfl⟩
   rw[hgr]at R6 hlt45 hle5⊢
   have HG4:=zwd hgr
   have hne:gq≠gr:=by omega
   clear hgr
   go_wp2_with fail
   go_loopw [10] (fun iV wr=>∃(kk:Nat) (L Q:List Int),iV= .int .i64 ((kk:Int)-1)/\ kk<=32*n/\ zaz w4 wr (.slice (some ⟨gr,0,none⟩) (N+1) (N+1)) L/\ zay L/\ L.length=N+1/\ valZ L<m/\ zaz w4 wr (.slice (some ⟨gq,0,none⟩) n n) Q/\ zay Q/\ Q.length=n/\ zgx x m kk (valZ L) (valZ Q)) (fun iV _=>(intOf iV+1).toNat)
   case atStart=>exact⟨32*n,_,_,rfl,Nat.le_refl _,R6.out,zby _,by simp,by rw[zbW];exact mp,Q6.out,zby _,by simp,by rw[zbW,zbW];exact zlA x0 X1.out mp⟩
   case round=>
    obtain⟨kk,L,Q,rfl,hkk,hor,hLL,hln,hlt,hoq,hLQ,hlq,hbd⟩:=hrel
    have HOR:=zwd hor
    have HLL:=zwd hLL
    have HLN:=zwd hln
    have HLT:=zwd hlt
    have HOQ:=zwd hoq
    have HLQ:=zwd hLQ
    have HQN:=zwd hlq
    have HBD:=zwd hbd
    have X7:=zwd (X4.out.below hor.2)
    clear hor hLL hln hlt hoq hLQ hlq hbd R6 Q6
    rcases Nat.eq_zero_or_pos kk with hk0|hk0
    · subst hk0
      rw[show((0:Nat):Int)-1= -1 by rfl]
      have t0:decide ((0:Int)<= -1)=false:=by decide
      have E:=zo8 HBD.out
      have RQ:=HOQ.out.normed HLQ.out
      have RR:=HOR.out.normed HLL.out
      have NQ:Num wr (x/m) (some ⟨gq,0,none⟩) n n:=⟨Q,RQ.1,E.2,RQ.2.1,RQ.2.2⟩
      have NR:Num wr (remZ x m) (some ⟨gr,0,none⟩) (N+1) (N+1):=⟨L,RR.1,by rw[za4 mp];exact E.1,RR.2.1,RR.2.2⟩
      have C1:=zwd (ziD NQ (by omega))
      have H1:=zwd NR
      have HB3:=zwd (B4.out.trans (HOQ.out.2.mono B4.out.size))
      clear RQ RR NQ NR E HOR HOQ
      go_wp2_with fail
      refine C1.out.mono ?_
      rintro e w8 ⟨q1,l1,c1,rfl,hN1,hl1,hb4⟩
      have C2:=zwd (ziD (H1.out.below hb4) (by omega))
      have HN1:=zwd hN1
      have HB4:=zwd hb4
      clear hN1 hb4 C1 H1
      go_wp2_with fail
      refine C2.out.mono ?_
      rintro e w9 ⟨q2,l2,c2,rfl,hN2,hl2,hb5⟩
      have HN2:=zwd hN2
      have HB5:=zwd hb5
      clear hN2 hb5 C2
      go_wp2_with fail
      go_ret3
      exact⟨q1,l1,c1,q2,l2,c2,by rw[show decide (m=0)=false from decide_eq_false (by omega)];rfl,HN1.out.below HB5.out,HN2.out,by rw[HN1.out.1];exact QL.out,by rw[HN2.out.1];exact RL.out,Below.step (Below.step HB3.out HB4.out) HB5.out⟩
    · obtain⟨j,rfl⟩:∃j,kk=j+1:=⟨kk-1,by omega⟩
      rw[show((j+1:Nat):Int)-1=(j:Int)by omega]
      have t0:decide ((0:Int)<=(j:Int))=true:=decide_eq_true (by omega)
      have BT:=zwd (znX a n ca j xs wr X7.out (by omega) (by omega))
      rw[HXV.out]at BT
      have LOW:=zwd (zo7 mp HBD.out)
      have HIGH:=zwd (zmB mp HBD.out)
      have c01:x/2^j%2=0 \/x/2^j%2=1:=by omega
      generalize x/2^j%2=c at*
      go_wp2_with fail
      refine BT.out.mono ?_
      rintro e w7 ⟨rfl,hw7⟩
      subst hw7
      clear BT
      go_wp2_with fail
      go_loopw [11,12] (fun cV iV w7=>∃(i:Nat) (o:Int) (L1:List Int),cV= .int .u32 o/\ iV= .int .i64 (i:Int)/\ i<=N+1/\ 0<=o/\ o<=1/\ zaz w4 w7 (.slice (some ⟨gr,0,none⟩) (N+1) (N+1)) L1/\ zay L1/\ L1.length=N+1/\ (∀l,i<=l->L1[l]?.getD 0=L[l]?.getD 0)/\ valZ L1=valZ L+valZ (L.take i)+c-4294967296^i*o/\ zaz w4 w7 (.slice (some ⟨gq,0,none⟩) n n) Q) (fun _ iV _=>(1000001-intOf iV).toNat)
      case atStart=>exact⟨0,c,L,rfl,rfl,by omega,by omega,by omega,HOR.out,HLL.out,HLN.out,fun _ _=>rfl,by simp[valZ],HOQ.out⟩
      case round=>
       obtain⟨i,o,L1,rfl,rfl,hi,o0,o1,ho1,hL1,hn1,hs1,hv1,hq1⟩:=hrel
       have O1:=zwd ho1
       have LL:=zwd hL1
       have N1:=zwd hn1
       have S1:=zwd hs1
       have V1:=zwd hv1
       have Q1:=zwd hq1
       clear ho1 hL1 hn1 hs1 hv1 hq1 HOR HOQ X7
       by_cases hmore:i<N+1
       · have t1:decide ((i:Int)<(N:Int)+1)=true:=decide_eq_true (by omega)
         have iI:(i:Int)<(N:Int)+1:=by omega
         have iM:i<=1000000:=by omega
         obtain⟨cx,fx⟩:=O1.out.cell i (by rw[N1.out];omega)
         have zr:=LL.out.at i
         have ST:=ztP (L0:=L) (by rw[N1.out];omega) (S1.out i (Nat.le_refl _)) V1.out
         have HSET:=zwd (fun v=>O1.out.set (by rw[HG4.out];exact Nat.le_refl _) i v)
         rw[<-S1.out i (Nat.le_refl _)]at ST
         generalize L1[i]?.getD 0=z at*
         have k1:IntKind.u32.wrap (z*2)=z*2%4294967296:=rfl
         have k3:bits .or .u32 (z*2%4294967296) o=z*2%4294967296+o:=zvS (by omega) (by omega) (by omega) (by omega)
         have k4:IntKind.u32.wrap (z/2147483648)=z/2147483648:=IntWalk.u32_in _ (by omega)
         have e31:z*2/4294967296=z/2147483648:=by omega
         rw[e31]at ST
         have HST:=zwd ST
         have LN:=zwd (zbD LL.out i (v:=z*2%4294967296+o) (by omega) (by omega))
         have SO:=zwd (zhd (i:=i) (r:=z*2%4294967296+o) S1.out)
         have z0:0<=z/2147483648:=by omega
         have z1:z/2147483648<=1:=by omega
         have O2:=zwd (HSET.out (z*2%4294967296+o))
         have Q2:=zwd (Q1.out.only (Only.set (.refl gr wr) i (.int .u32 (z*2%4294967296+o))) hne (O1.out.2.setCell (p:=⟨gr,i,none⟩) (by rw[HG4.out];exact Nat.le_refl _) _))
         clear ST V1 S1 e31 HSET
         go_wp2_with fail
         go_roundw
         case rel=>exact⟨i+1,_,_,rfl,by go_num,by omega,z0,z1,O2.out,LN.out,by rw[List.length_set];exact N1.out,SO.out,HST.out,Q2.out⟩
         case measure=>simp only[intOf];exact zbm iM
       · obtain rfl:i=N+1:=by omega
         have t1:decide ((N:Int)+1<(N:Int)+1)=false:=decide_eq_false (by omega)
         have VV:=zwd (zvi HLN.out N1.out LL.out (by omega) o0 (by have:=HLT.out;have:=MN.out;omega) V1.out)
         have RL1:=zwd (zrU (some ⟨gr,0,none⟩) (some ⟨g4,0,none⟩) (N+1) (N+1) cap4 L1 ns wr (O1.out.normed LL.out).1 (NR.out.below O1.out.2) (by omega))
         rw[VN1.out,VV.out]at RL1
         clear V1 S1
         go_wp2_with fail
         refine RL1.out.mono ?_
         rintro e w8 ⟨rfl,dq,rfl⟩
         have O8:=zwd (O1.out.drewN dq)
         have Q8:=zwd (Q1.out.drewN dq)
         clear RL1 O1 Q1
         generalize wr.drewN dq=w8 at*
         by_cases hcm:2*valZ L+c<m
         · have t2:decide (2*valZ L+c<m)=true:=decide_eq_true hcm
           have BD:=zwd (LOW.out hcm)
           rw[<-VV.out]at BD
           have S8:Hid (valZ L1<m):=zwd (by rw[VV.out];exact hcm)
           clear LOW HIGH
           go_wp2_with fail
           go_roundw
           case rel=>exact⟨j,L1,Q,rfl,by omega,O8.out,LL.out,N1.out,S8.out,Q8.out,HLQ.out,HQN.out,BD.out⟩
           case measure=>simp only[intOf];omega
         · have t2:decide (2*valZ L+c<m)=false:=decide_eq_false hcm
           have BD:=zwd (HIGH.out (by omega))
           rw[<-VV.out]at BD
           have GE:Hid (m<=valZ L1):=zwd (by rw[VV.out];omega)
           have UP:Hid (valZ L1<2*m):=zwd (by rw[VV.out];have:=HLT.out;omega)
           clear LOW HIGH
           go_wp2_with fail
           go_loopw [14,15] (fun oV iV w9=>∃(i:Nat) (o:Int) (L2:List Int),oV= .int .u64 o/\ iV= .int .i64 (i:Int)/\ i<=N+1/\ 0<=o/\ o<=1/\ zaz w4 w9 (.slice (some ⟨gr,0,none⟩) (N+1) (N+1)) L2/\ zay L2/\ L2.length=N+1/\ (∀l,i<=l->L2[l]?.getD 0=L1[l]?.getD 0)/\ valZ L2=valZ L1-valZ (ns.take i)+4294967296^i*o/\ zaz w4 w9 (.slice (some ⟨gq,0,none⟩) n n) Q) (fun _ iV _=>(1000001-intOf iV).toNat)
           case atStart=>exact⟨0,0,L1,rfl,rfl,by omega,by omega,by omega,O8.out,LL.out,N1.out,fun _ _=>rfl,by simp[valZ],Q8.out⟩
           case round=>
            obtain⟨i,o,L2,rfl,rfl,hi,o0,o1,ho1,hL1,hn1,hs1,hv1,hq1⟩:=hrel
            have O9:=zwd ho1
            have LL2:=zwd hL1
            have N2:=zwd hn1
            have S2:=zwd hs1
            have V2:=zwd hv1
            have Q9:=zwd hq1
            clear ho1 hL1 hn1 hs1 hv1 hq1 O8 Q8
            by_cases hmore:i<N+1
            · have t1:decide ((i:Int)<(N:Int)+1)=true:=decide_eq_true (by omega)
              have iI:(i:Int)<(N:Int)+1:=by omega
              have iM:i<=1000000:=by omega
              obtain⟨cx,fx⟩:=O9.out.cell i (by rw[N2.out];omega)
              obtain⟨b4,o4,e4,hb4,hc4⟩:=NR.out.2.2 (by omega)
              injection e4 with e4
              injection e4 with e4 e5
              subst e4 e5
              have cy:=(O9.out.2.cell (p:=⟨g4,0+i,none⟩) hb4).trans (hc4 i hmore)
              rw[Nat.zero_add]at cy
              have zr:=LL2.out.at i
              have yr:=NR.out.num i
              have ST:=zwd (fun o'=>ztQ (L0:=L1) (L:=L2) (ns:=ns) (i:=i) (o:=o) (o':=o') (by rw[N2.out];omega) (S2.out i (Nat.le_refl _)) V2.out)
              have HSET:=zwd (fun v=>O9.out.set (by rw[HG4.out];exact Nat.le_refl _) i v)
              have HFAR:=zwd (fun v=>Q9.out.only (Only.set (.refl gr wr) i (.int .u32 v)) hne (O9.out.2.setCell (p:=⟨gr,i,none⟩) (by rw[HG4.out];exact Nat.le_refl _) (.int .u32 v)))
              have SOF:=zwd (fun r=>zhd (i:=i) (r:=r) S2.out)
              have LNF:=zwd (fun v h1 h2=>zbD LL2.out i (v:=v) h1 h2)
              rw[<-S2.out i (Nat.le_refl _)]at ST
              generalize L2[i]?.getD 0=z at*
              generalize ns[i]?.getD 0=y at*
              have k1:IntKind.u64.wrap y=y:=IntWalk.u64_in _ (by omega)
              have k2:IntKind.u64.wrap (y+o)=y+o:=IntWalk.u64_in _ (by omega)
              have k3:IntKind.u64.wrap z=z:=IntWalk.u64_in _ (by omega)
              clear hc4 V2 S2
              by_cases hzy:z<y+o
              · have t3:decide (z<y+o)=true:=decide_eq_true hzy
                have k5:IntKind.u64.wrap (z-(y+o))=z-(y+o)+18446744073709551616:=by
                 show(z-(y+o))%18446744073709551616=_
                 omega
                have k6:IntKind.u32.wrap (z-(y+o)+18446744073709551616)=z-(y+o)+4294967296:=by
                 show(z-(y+o)+18446744073709551616)%4294967296=_
                 omega
                have k6':(z-(y+o)+18446744073709551616)%4294967296=z-(y+o)+4294967296:=by omega
                have HST:=ST.out 1
                rw[Int.mul_one 4294967296]at HST
                have HS:=zwd HST
                have O10:=zwd (HSET.out (z-(y+o)+4294967296))
                have Q10:=zwd (HFAR.out (z-(y+o)+4294967296))
                have SO:=zwd (SOF.out (z-(y+o)+4294967296))
                have LN:=zwd (LNF.out (z-(y+o)+4294967296) (by omega) (by omega))
                clear ST HST HSET HFAR SOF LNF
                go_wp2_with fail
                go_roundw
                case rel=>exact⟨i+1,_,_,rfl,by go_num,by omega,by omega,by omega,O10.out,LN.out,by rw[List.length_set];exact N2.out,SO.out,HS.out,Q10.out⟩
                case measure=>simp only[intOf];exact zbm iM
              · have t3:decide (z<y+o)=false:=decide_eq_false hzy
                have k5:IntKind.u64.wrap (z-(y+o))=z-(y+o):=IntWalk.u64_in _ (by omega)
                have k6:IntKind.u32.wrap (z-(y+o))=z-(y+o):=IntWalk.u32_in _ (by omega)
                have k6':(z-(y+o))%4294967296=z-(y+o):=by omega
                have HST:=ST.out 0
                rw[Int.mul_zero 4294967296,Int.add_zero (z-(y+o))]at HST
                have HS:=zwd HST
                have O10:=zwd (HSET.out (z-(y+o)))
                have Q10:=zwd (HFAR.out (z-(y+o)))
                have SO:=zwd (SOF.out (z-(y+o)))
                have LN:=zwd (LNF.out (z-(y+o)) (by omega) (by omega))
                clear ST HST HSET HFAR SOF LNF
                go_wp2_with fail
                go_roundw
                case rel=>exact⟨i+1,_,_,rfl,by go_num,by omega,by omega,by omega,O10.out,LN.out,by rw[List.length_set];exact N2.out,SO.out,HS.out,Q10.out⟩
                case measure=>simp only[intOf];exact zbm iM
            · obtain rfl:i=N+1:=by omega
              have t1:decide ((N:Int)+1<(N:Int)+1)=false:=decide_eq_false (by omega)
              have V3:=zvj LN1.out N2.out LL2.out o0 (by rw[VN1.out];exact GE.out) V2.out
              rw[VN1.out]at V3
              rw[<-V3]at BD
              have S9:Hid (valZ L2<m):=zwd (by rw[V3];have:=UP.out;omega)
              obtain⟨qq,hqq⟩:∃qq,j/32=qq:=⟨_,rfl⟩
              have r32:=Nat.mod_lt j (show 0<32 by omega)
              obtain⟨bb,hbb⟩:∃bb,j%32=bb:=⟨_,rfl⟩
              rw[hbb]at r32
              have jq:j=32*qq+bb:=by omega
              have qn:qq<n:=by omega
              obtain⟨cx,fx⟩:=Q9.out.cell qq (by rw[HQN.out];exact qn)
              have zr:=HLQ.out.at qq
              have FREE:=ztR HLQ.out (j:=qq) r32 (u:=x/2^(j+1)/m) (by rw[HBD.out.2,jq])
              obtain⟨OB,OB1⟩:=zvT zr.1 (by omega) r32 FREE
              have VS:Hid (valZ (Q.set qq (Q[qq]?.getD 0+2^bb))=valZ Q+2^j):=zwd (by
               rw[zcH _ _ _ (by rw[HQN.out];exact qn),jq,Int.pow_add,zog]
               congr 2
               omega)
              have p2:=zbB bb
              have QS:=zwd (fun v=>(Q9.out.set (Nat.le_trans (by rw[HG4.out];exact Nat.le_refl _) hle5) qq v).drew)
              have RS:=zwd (fun v=>(O9.out.only (Only.set (.refl gq wr) qq (.int .u32 v)) (Ne.symm hne) (Q9.out.2.setCell (p:=⟨gq,qq,none⟩) (Nat.le_trans (by rw[HG4.out];exact Nat.le_refl _) hle5) (.int .u32 v))).drew)
              have LNF:=zwd (zbD HLQ.out qq (v:=Q[qq]?.getD 0+2^bb) (by omega) OB1)
              rw[<-VS.out]at BD
              generalize Q[qq]?.getD 0=z at*
              have cx2:wr.drew.cell? ⟨gq,qq,none⟩=some (.int .u32 z):=cx
              have fx2:wr.drew.frozen? ⟨gq,qq,none⟩=false:=fx
              have k3:(j:Int)/32=(qq:Int):=by omega
              have k3':(j:Int).tdiv 32=(qq:Int):=by rw[Int.tdiv_eq_ediv_of_nonneg (by omega)];exact k3
              have k4:(j:Int)%32=(bb:Int):=by omega
              have k4':(j:Int).tmod 32=(bb:Int):=by rw[Int.tmod_eq_emod_of_nonneg (by omega)];exact k4
              have k5:IntKind.i64.wrap (qq:Int)=(qq:Int):=IntWalk.i64_in _ (by omega)
              have k6:IntKind.i64.wrap (bb:Int)=(bb:Int):=IntWalk.i64_in _ (by omega)
              have k7:IntKind.i64.wrap ((j:Int)-1)=(j:Int)-1:=IntWalk.i64_in _ (by omega)
              have k8:IntKind.u32.wrap (2^bb)=2^bb:=IntWalk.u32_in _ (by omega)
              have qI:(qq:Int)<(n:Int):=by omega
              have HJ:=zwd jq
              clear V2 S2 V3 jq hqq hbb cx fx FREE VS
              go_wp2_with fail
              refine zaa (Below w4.heap.size) (Below.refl _) (fun _ _ _=>Below.trans) [(0,false),(1,false),(2,false),(3,false),(4,false),(5,false),(6,false),(8,false),(9,false),(10,false),(7,true),(11,false),(12,false),(13,true)] (by kernel_rfl) (by kernel_rfl) rfl (by kernel_rfl) (fun _ _ _ _ _ h=>h) ?_
              repeat(refine zab _ rfl (by rfl) (fun W hW=>by go_simp;first|done|rfl) ?_;simp only[Act.put,zwe,zwg,zwf])
              refine zad rfl (by rfl) (fun K1 hK1=> ?_)
              unfold Oper.wp
              go_simp
              refine hK1 _ _ (Below.refl _ _) ?_
              clear hK1 K1
              try simp only[Act.put,zwe,zwg,zwf]
              repeat(refine zab _ rfl (by rfl) (fun W hW=>by go_simp;first|done|rfl) ?_;try simp only[Act.put,zwe,zwg,zwf])
              refine zad rfl (by rfl) (fun K1 hK1=> ?_)
              unfold Oper.wp
              go_simp
              have hgq4:w4.heap.size<=gq:=Nat.le_trans (by rw[HG4.out];exact Nat.le_refl _) hle5
              refine hK1 _ _ ((Below.refl _ _).setCell (p:=⟨gq,qq,none⟩) hgq4 _) ?_
              clear hK1 K1 cx2 fx2
              refine zai ?_
              have Q11:=zwd (QS.out (z+2^bb))
              have R11:=zwd (RS.out (z+2^bb))
              have BDD:=zwd BD
              clear QS RS BD O9 Q9
              generalize(wr.setCell ⟨gq,qq,none⟩ (.int .u32 (z+2^bb))).drew=w11 at*
              go_wp2_with fail
              go_roundw
              case rel=>exact⟨j,L2,_,rfl,by omega,R11.out,LL2.out,N2.out,S9.out,Q11.out,LNF.out,by rw[List.length_set];exact HQN.out,BDD.out.out⟩
              case measure=>simp only[intOf];omega
theorem zjf {w:World} {x y m:Int} {a b d:Option Addr} {n k l ca cb cd:Nat} (hx:Num w x a n ca) (hy:Num w y b k cb) (hm:Num w m d l cd) (hn:n<=15000) (hk:k<=15000) (hl:l<=30000):
 Calls Tryz.prog 166 #[.slice a n ca,.slice b k cb,.slice d l cd] w (ResR (remZ (x*y) m) m l w):=by
 have MC:=zwd (zkq hx hy (by omega) (by omega))
 have HM:=zwd hm
 have P0:=Int.mul_nonneg hx.nonneg.1 hy.nonneg.1
 clear hx hy hm
 generalize x*y=p at*
 go_enter Tryz.func166,Tryz.ntmps166
 go_wp2_with fail
 refine MC.out.mono ?_
 rintro e w2 ⟨a2,n2,c2,rfl,hN,hk2,hb2⟩
 have DC:=zwd (zes (hN.num P0) (HM.out.below hb2) (by omega) hl)
 have B2:=zwd hb2
 clear hN hb2 MC HM
 go_wp2_with fail
 refine DC.out.mono ?_
 rintro e w3 ⟨qa,n1,c1,ra,n3,c3,rfl,hq,hr,h1,h3,hb3⟩
 have R3:=zwd hr
 have B3:=zwd (Below.step B2.out hb3)
 clear DC hq hr hb3
 go_wp2_with fail
 go_ret2
 exact⟨ra,n3,c3,rfl,R3.out,h3,B3.out⟩
theorem zib {w:World} {x y m:Int} {a b d:Option Addr} {n k l ca cb cd:Nat} (hx:Num w x a n ca) (hy:Num w y b k cb) (hm:Num w m d l cd) (hn:n<=15000) (hk:k<=15000) (hl:l<=15000):
 Calls Tryz.prog 116 #[.slice a n ca,.slice b k cb,.slice d l cd] w (ResR (remZ (x^y.toNat) m) m l w):=by
 have HX:=zwd hx
 have HY:=zwd hy
 have HM:=zwd hm
 have m0:=hm.nonneg.1
 have y0:=hy.nonneg.1
 have L1:=zwd (zkr hy (by omega))
 clear hx hy hm
 have C1:Hid (∀W:World,Num (W.alloc (.cells #[.int .u32 1] 22)) 1 (some ⟨W.heap.size,0,none⟩) 1 1):=zwd (fun W=>by
  obtain⟨a1,c1,e1,r1⟩:=(zg0 W 1).row (by intro q hq;simp at hq;omega)
  injection e1 with e1 e2 e3
  subst e1 e3
  exact⟨_,r1,by simp[valZ],Nat.le_refl _,fun e=>by cases e⟩)
 have B1:=zwd ((Below.refl w.heap.size w).alloc (Nat.le_refl _) (.cells #[.int .u32 1] 22))
 have DC:=zwd (zes (C1.out w) (HM.out.below B1.out) (by omega) (by omega))
 go_enter Tryz.func116,Tryz.ntmps116
 go_wp2_with fail
 refine DC.out.mono ?_
 rintro e w2 ⟨qa,n1,c1,ra,n2,c2,rfl,hq,hr,h1,h2,hb2⟩
 have B2:=zwd (Below.step B1.out hb2)
 have R2:=zwd hr
 clear DC hq hr hb2 B1 C1
 by_cases hz:m=0
 · subst hz
   rw[show decide ((0:Int)=0)=true from rfl]
   go_wp2_with fail
   go_ret2
   exact⟨none,0,0,rfl,zeL _,Nat.zero_le _,B2.out⟩
 · have mp:0<m:=by omega
   rw[show decide (m=0)=false from decide_eq_false hz]
   have DC:=zwd (zes (HX.out.below B2.out) (HM.out.below B2.out) (by omega) (by omega))
   go_wp2_with fail
   refine DC.out.mono ?_
   rintro e w3 ⟨qa2,n3,c3,ra2,n4,c4,rfl,hq,hr,h3,h4,hb3⟩
   have B3:=zwd (Below.step B2.out hb3)
   have R3:=zwd (R2.out.below hb3)
   have Q3:=zwd hr
   clear DC hq hr hb3 R2
   have LC:=zwd (zkr (HY.out.below B3.out) (by omega))
   go_wp2_with fail
   refine LC.out.mono ?_
   rintro e w4 ⟨rfl,hb4⟩
   have B4:=zwd (Below.step B3.out hb4)
   have R4:=zwd (R3.out.below hb4)
   have Q4:=zwd (Q3.out.below hb4)
   clear LC hb4 R3 Q3
   have bz0:=zda y
   obtain⟨E,hE⟩:∃E:Nat,bitZ y=(E:Int):=⟨(bitZ y).toNat,by omega⟩
   have hEk:E<=32*k:=by
    obtain⟨es,her,hev,_,_⟩:=HY.out
    have:=zfY her.2.1
    rw[hev,her.1]at this
    omega
   have US:Hid (upTo y E=0):=zwd (by have:=zje y0;rwa[hE,Int.toNat_natCast]at this)
   rw[hE]
   clear hE bz0
   have w1:IntKind.i64.wrap ((E:Int)-1)=(E:Int)-1:=IntWalk.i64_in _ (by omega)
   go_wp2_with fail
   go_loopw [9,14] (fun pV iV wr=>∃(i:Nat) (pa:Option Addr) (pn pc:Nat),pV= .slice pa pn pc/\ iV= .int .i64 ((i:Int)-1)/\ i<=E/\ Norm wr (remZ (x^upTo y i) m) pa pn pc/\ pn<=l/\ Below w.heap.size w wr/\ Norm wr (remZ x m) ra2 n4 c4) (fun _ iV _=>(intOf iV+1).toNat)
   case atStart=>exact⟨E,ra,n2,c2,rfl,rfl,Nat.le_refl _,by rw[US.out,Int.pow_zero];exact R4.out,h2,B4.out,Q4.out⟩
   case round=>
    obtain⟨i,pa,pn,pc,rfl,rfl,hi,hN,hpn,hbw,hbase⟩:=hrel
    have HN:=zwd hN
    have HBW:=zwd hbw
    have HBS:=zwd hbase
    clear hN hbw hbase R4 Q4 US
    rcases Nat.eq_zero_or_pos i with h0|h0
    · subst h0
      rw[show((0:Nat):Int)-1= -1 by rfl]
      have t0:decide ((0:Int)<= -1)=false:=by decide
      have E0:=zwd (znW y)
      go_wp2_with fail
      go_ret2
      exact⟨pa,pn,pc,by rw[decide_eq_false hz];rfl,by rw[<-E0.out];exact HN.out,hpn,HBW.out⟩
    · obtain⟨j,rfl⟩:∃j,i=j+1:=⟨i-1,by omega⟩
      rw[show((j+1:Nat):Int)-1=(j:Int)by omega]
      have t0:decide ((0:Int)<=(j:Int))=true:=decide_eq_true (by omega)
      have MC:=zwd (zjf (HN.out.num (zbA m0)) (HN.out.num (zbA m0)) (HM.out.below HBW.out) (by omega) (by omega) (by omega))
      have PW:Hid (remZ (remZ (x^upTo y (j+1)) m*remZ (x^upTo y (j+1)) m) m=remZ (x^(2*upTo y (j+1))) m):=zwd (by
       rw[za4 mp,za4 mp,za4 mp]
       exact zgy (n:=0) rfl)
      rw[PW.out]at MC
      have UN:=zlB y0 j
      have yn:=HY.out
      obtain⟨es,her,hev,hec,hen⟩:=yn
      have HER:=zwd her
      have HEV:=zwd hev
      have HUN:=zwd UN
      clear her hev hec hen UN
      go_wp2_with fail
      refine MC.out.mono ?_
      rintro e w5 ⟨a5,n5,c5,rfl,hN5,hn5,hb5⟩
      have HN5:=zwd hN5
      have B5:=zwd (Below.step HBW.out hb5)
      have S5:=zwd (HBS.out.below hb5)
      have BT:=zwd (znX b k cb j es w5 (HER.out.below B5.out) (by omega) (by omega))
      rw[HEV.out]at BT
      have k7:IntKind.i64.wrap ((j:Int)-1)=(j:Int)-1:=IntWalk.i64_in _ (by omega)
      have cb:y/2^j%2=1 \/y/2^j%2=0:=by omega
      generalize y/2^j%2=bt at*
      clear hN5 hb5 MC PW HN HBS HBW HER HEV
      go_wp2_with fail
      refine BT.out.mono ?_
      rintro e w7 ⟨rfl,hw7⟩
      subst hw7
      clear BT
      rcases cb with hb|hb
      · subst hb
        have t1:((1:Int)==1)=true:=rfl
        have MC:=zwd (zjf (HN5.out.num (zbA m0)) (S5.out.num (zbA m0)) (HM.out.below B5.out) (by omega) (by omega) (by omega))
        have PW:Hid (remZ (remZ (x^(2*upTo y (j+1))) m*remZ x m) m=remZ (x^upTo y j) m):=zwd (by
         rw[HUN.out,za4 mp,za4 mp,za4 mp,za4 mp]
         exact zia rfl rfl)
        rw[PW.out]at MC
        clear PW HUN
        go_wp2_with fail
        refine MC.out.mono ?_
        rintro e w6 ⟨a6,n6,c6,rfl,hN6,hn6,hb6⟩
        have HN6:=zwd hN6
        have B6:=zwd (Below.step B5.out hb6)
        have S6:=zwd (S5.out.below hb6)
        clear hN6 hb6 MC HN5 S5
        go_wp2_with fail
        go_roundw
        case rel=>exact⟨j,a6,n6,c6,rfl,rfl,by omega,HN6.out,hn6,B6.out,S6.out⟩
        case measure=>simp only[intOf];omega
      · subst hb
        have t1:((0:Int)==1)=false:=rfl
        have PW:Hid (2*upTo y (j+1)=upTo y j):=zwd (by rw[HUN.out];rfl)
        rw[PW.out]at HN5
        clear PW HUN
        go_wp2_with fail
        go_roundw
        case rel=>exact⟨j,a5,n5,c5,rfl,rfl,by omega,HN5.out,hn5,B5.out,S5.out⟩
        case measure=>simp only[intOf];omega
end Go.Proofs.YtpgahclpbdpbnaaGreatDoor
