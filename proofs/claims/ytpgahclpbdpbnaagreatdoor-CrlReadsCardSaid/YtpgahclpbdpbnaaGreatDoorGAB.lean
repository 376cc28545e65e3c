import Derived.Test.YtpgahclpbdpbnaaGreatDoorGAA
import Derived.Great.BuildSlice
import Derived.Deep.LoopGhost
import Derived.Great.Walk
import Derived.Laws.ResultCell
import Derived.Deep.MidRow
import Derived.Laws.CopyOwn
import Derived.Test.YtpgahclpbdpbnaaGreatDoorRows
import Derived.ProofKit
import Derived.OpenShut
import Derived.ShutString
import Derived.LaidMore
import Derived.Lay
import Derived.Stop.Joined
import Derived.WalkKit
import Derived.WalkSpells
import Derived.WalkLawsBesides
import Derived.Deep.QuietTactic
import Derived.BigQuiet
import Derived.Lib.Hide
import Derived.Maps.AppendAt
set_option maxHeartbeats 2000000
set_option maxRecDepth 100000
namespace Go.Proofs.YtpgahclpbdpbnaaGreatDoor
open Go.RowKit
def zpt (w:World) (m:Nat) (zs:List Int) (e:Ending) (w':World):Prop:=
 ∃a c,e= .returned (.tuple #[.slice a m c,.bool true])/\ Row w' a m zs/\ Below w.heap.size w w'/\ m<=c
def zkg (w:World) (e:Ending) (w':World):Prop:=
 ∃a c,e= .returned (.tuple #[.slice a 0 c,.bool false])/\ Row w' a 0 []/\ Below w.heap.size w w'
theorem zmR {w w':World} {n:Int} {m:Nat} {e:Ending} (hm:m<=64) (hz:n/256^m=0) (h:zbI w (zbK n m).1 (zbK n m).2 e w'):zpt w m (beZ m n) e w':=by
 rw[zfi n m hm,if_pos hz]at h
 obtain⟨a,c,he,hr,hb,hc⟩:=h
 rw[zbH]at he hr hc
 exact⟨a,c,he,hr,hb,hc⟩
theorem zsg {w w':World} {n:Int} {m:Nat} {e:Ending} (hm:m<=64) (hz:¬n/256^m=0) (h:zbI w (zbK n m).1 (zbK n m).2 e w'):zkg w e w':=by
 rw[zfi n m hm,if_neg hz]at h
 obtain⟨a,c,he,hr,hb,_⟩:=h
 exact⟨a,c,he,hr,hb⟩
theorem zmS (n many:Int) (m:Nat) (w:World) (hmany:many=m) (h0:0<=n) (h1:n<=18446744073709551615) (hm:m<=64) (hz:n/256^m=0):
 Calls Tryz.prog 77 #[.int .u64 n,.int .i64 many] w (zpt w m (beZ m n)):=by
 subst hmany
 exact(zpo n m w h0 h1).mono fun _ _ h=>zmR hm hz h
theorem zg2 (n many:Int) (m:Nat) (w:World) (hmany:many=m) (h0:0<=n) (h1:n<=18446744073709551615) (hm:m<=64) (hz:n/256^m=0):
 Calls Tryz.prog 81 #[.int .u64 n,.int .i64 many] w (zpt w m (beZ m n)):=by
 subst hmany
 exact(ziv n m w h0 h1).mono fun _ _ h=>zmR hm hz h
theorem zpu (n many:Int) (m:Nat) (w:World) (hmany:many=m) (h0:0<=n) (h1:n<=18446744073709551615) (hm:m<=64) (hz:¬n/256^m=0):
 Calls Tryz.prog 81 #[.int .u64 n,.int .i64 many] w (zkg w):=by
 subst hmany
 exact(ziv n m w h0 h1).mono fun _ _ h=>zsg hm hz h
def zdo (n:Int) (m:Nat):Prop:=1<=m/\ m<=8/\ n/256^m=0/\ (m=1 \/¬n/256^(m-1)=0)
theorem zjh {n:Int} {i j:Nat} (h0:0<=n) (hij:i<=j) (h:n/256^i=0):n/256^j=0:=by
 have hi:(0:Int)<256^i:=Int.pow_pos (by decide)
 have hlt:n<256^i:=by
  rcases Int.lt_or_le n (256^i)with hl|hl
  · exact hl
  · have:=(Int.le_ediv_iff_mul_le hi (a:=1) (b:=n)).2 (by omega)
    omega
 have hle:(256:Int)^i<=256^j:=by
  have:=Nat.pow_le_pow_right (n:=256) (by decide) hij
  rw[show(256:Int)=((256:Nat):Int)from rfl,<-Int.natCast_pow,<-Int.natCast_pow]
  exact Int.ofNat_le.2 this
 exact Int.ediv_eq_zero_of_lt h0 (by omega)
theorem zg3 {n:Int} {j:Nat} (h0:0<=n) (h1:n<=18446744073709551615) (hj:8<=j):n/256^j=0:=
 zjh h0 hj (Int.ediv_eq_zero_of_lt h0 (by omega))
theorem zdo.eq {n:Int} {m k:Nat} (h0:0<=n) (h:zdo n m) (h':zdo n k):m=k:=by
 obtain⟨a1,_,a3,a4⟩:=h
 obtain⟨b1,_,b3,b4⟩:=h'
 rcases Nat.lt_trichotomy m k with hl|hl|hl
 · rcases b4 with b4|b4
   · omega
   · exact absurd (zjh h0 (show m<=k-1 by omega) a3) b4
 · exact hl
 · rcases a4 with a4|a4
   · omega
   · exact absurd (zjh h0 (show k<=m-1 by omega) b3) a4
def zez (w:World) (n:Int) (e:Ending) (w':World):Prop:=
 ∃m a c,zdo n m/\ e= .returned (.slice a m c)/\ Row w' a m (beZ m n)/\ Below w.heap.size w w'/\ m<=c
theorem zpv (n:Int) (w:World) (h0:0<=n) (h1:n<=18446744073709551615):
 Calls Tryz.prog 47 #[.int .u64 n] w (zez w n):=by
 go_enter Tryz.func47,Tryz.ntmps47
 go_wp2
 go_loop [3,4] (fun i t=>∃k:Nat,∃s:Int,k<=7/\ 0<=s/\ s<=18446744073709551615/\ i= .int .i64 ((k:Int)+1)/\ t= .int .u64 s/\ s=n/256^(k+1)/\ (k=0 \/¬n/256^k=0)) (fun _ t=>(intOf t).toNat)
 case atStart=>exact⟨0,n/256,by omega,by omega,by omega,rfl,rfl,by simp,Or.inl rfl⟩
 case round=>
  obtain⟨k,s,hk,hs0,hs1,rfl,rfl,hs,hl⟩:=hrel
  have HS:=zwd hs
  have HL:=zwd hl
  clear hs hl
  by_cases hz:s=0
  · subst hz
    have HLe:Hid (zdo n (k+1)):=⟨by omega,by omega,HS.out.symm,by rcases HL.out with h|h;exact Or.inl (by omega);exact Or.inr h⟩
    go_wp2_with (go_at_call 77;refine(zmS n _ (k+1) _ (by omega) h0 h1 (by omega) HS.out.symm).mono ?_;rintro e w' ⟨a,c,rfl,hrow,hbel,hcap⟩)
    go_ret
    exact⟨k+1,a,c,HLe.out,rfl,hrow,hbel,hcap⟩
  · have hz':(s !=0)=true:=by simpa using hz
    have hk7:k+1<=7:=by
     rcases Nat.lt_or_ge (k+1) 8 with h|h
     · omega
     · exact absurd (HS.out.trans (zg3 h0 h1 h)) hz
    go_wp2
    go_round
    case rel=>exact⟨k+1,s/256,hk7,by omega,by omega,by go_num,rfl,by rw[HS.out];exact zmI n (k+1),Or.inr (by rw[<-HS.out];exact hz)⟩
    case measure=>simp[intOf];omega
theorem zoa (n:Int) (w:World) (h0:0<=n) (h1:n<=18446744073709551615):
 Calls Tryz.prog 50 #[.int .u64 n] w (zez w n):=by
 go_enter Tryz.func50,Tryz.ntmps50
 go_wp2
 go_loopw [3] (fun i wr=>∃k:Nat,k<=7/\ i= .int .i64 ((k:Int)+1)/\ Below w.heap.size w wr/\ (k=0 \/¬n/256^k=0)) (fun i _=>8-(intOf i).toNat)
 case atStart=>exact⟨0,by omega,rfl,Below.refl _ _,Or.inl rfl⟩
 case round=>
  obtain⟨k,hk,rfl,hb,hl⟩:=hrel
  have HL:=zwd hl
  clear hl
  by_cases h7:k=7
  · subst h7
    have hz:=zg3 h0 h1 (Nat.le_refl 8)
    have HLe:Hid (zdo n 8):=⟨by omega,by omega,hz,by rcases HL.out with h|h;omega;exact Or.inr h⟩
    have HZ:=zwd hz
    clear hz
    go_wp2_with (go_at_call 81;refine(zg2 n _ 8 _ (by omega) h0 h1 (by omega) HZ.out).mono ?_;rintro e w' ⟨a,c,rfl,hrow,hbel,hcap⟩)
    go_ret
    exact⟨8,a,c,HLe.out,rfl,hrow,hb.trans (hbel.mono hb.size),hcap⟩
  · by_cases hz:n/256^(k+1)=0
    · have HLe:Hid (zdo n (k+1)):=⟨by omega,by omega,hz,by rcases HL.out with h|h;exact Or.inl (by omega);exact Or.inr h⟩
      have HZ:=zwd hz
      clear hz
      go_wp2_with (go_at_call 81;refine(zg2 n _ (k+1) _ (by omega) h0 h1 (by omega) HZ.out).mono ?_;rintro e w' ⟨a,c,rfl,hrow,hbel,hcap⟩)
      go_ret
      exact⟨k+1,a,c,HLe.out,rfl,hrow,hb.trans (hbel.mono hb.size),hcap⟩
    · have HZ:=zwd hz
      clear hz
      go_wp2_with (go_at_call 81;refine(zpu n _ (k+1) _ (by omega) h0 h1 (by omega) HZ.out).mono ?_;rintro e w' ⟨a,c,rfl,hrow,hbel⟩)
      go_roundw
      case rel=>exact⟨k+1,by omega,by go_num,hb.trans (hbel.mono hb.size),Or.inr HZ.out⟩
      case measure=>simp[intOf];omega
end Go.Proofs.YtpgahclpbdpbnaaGreatDoor
namespace Go.Proofs.YtpgahclpbdpbnaaGreatDoor
open Go.RowKit
set_option linter.unusedVariables false
theorem zob (w:World):zat (w.alloc (.cells (zcm.map (Value.int .u32)).toArray 22)) (some ⟨w.heap.size,0,none⟩) 64 zcm:=zbs w zcm zkd
theorem zlM (w:World):Calls Tryz.prog 169 #[] w fun e w'=>e= .returned (.slice (some ⟨w.heap.size,0,none⟩) 64 64)/\ w'=w.alloc (.cells (zcm.map (Value.int .u32)).toArray 22):=by
 go_enter Tryz.func169,Tryz.ntmps169
 go_wp2_with (refine wpList_buildFlatAt rfl 23 22 64 _ rfl .u32 zcm w.heap.size rfl (some 1) rfl Tryz.underlying23 (by kernel_rfl) (by kernel_rfl) rfl (by decide) (by decide) (by kernel_rfl) ?_)
 go_ret
 exact⟨rfl,rfl⟩
theorem zpw {zs:List Int} (h:∀x∈zs,0<=x/\ x<=255):∀x∈zdI zs,0<=x/\ x<=255:=by
 intro x hx
 unfold zdI at hx
 rcases List.mem_append.1 hx with hx|hx
 · rcases List.mem_append.1 hx with hx|hx
   · rcases List.mem_append.1 hx with hx|hx
     · exact h x hx
     · simp only[List.mem_cons,List.not_mem_nil,or_false]at hx
       omega
   · have:=List.eq_of_mem_replicate hx
     omega
 · exact zex _ _ x hx
theorem zsh {n j:Nat} (h:j<padN n):¬(n+1+j)%64=56:=by unfold padN at h;omega
theorem zui {n j:Nat} (h:j=padN n):(n+1+j)%64=56:=by unfold padN at h;omega
theorem zmT (n:Nat):padN n<=63:=by unfold padN;omega
theorem zlN (a:Option Addr) (n ca:Nat) (zs:List Int) (w:World) (hr:Row w a n zs) (hn:n<=100000) (hnil:a=none->ca=0):Calls Tryz.prog 118 #[.slice a n ca] w (zdK (zdI zs) w):=by
 obtain rfl:=hr.1
 have RX:=zwd (hr.below ((Below.refl w.heap.size w).alloc (Nat.le_refl _) (.cells #[] 5)))
 have NI:=zwd hnil
 have HBN:Hid (([]:List Int).length+zs.length<=1000000):=zwd (by simp;omega)
 have HB1:Hid (zs.length+1<=1000000):=zwd (by omega)
 clear hr hnil
 go_enter Tryz.func118,Tryz.ntmps118
 go_wp2_with (at_builtin;first
  |(refine zag (W0:=w) (L:=[]) (zs:=zs) rfl _ _ rfl rfl (zdJ w) rfl RX.out NI.out HBN.out ?_;intro V1 w1 ho1;rw[List.nil_append]at ho1;have O1:=zwd (ho1.alloc (.cells #[.int .u8 128] 5));have R1:=zwd (zaY w1 [128] (0,0) (by intro y hy;simp at hy;omega));clear ho1)
  |(refine zag (W0:=w) (L:=zs) (zs:=[128]) rfl _ _ rfl rfl O1.out rfl R1.out (fun e=>by cases e) HB1.out ?_;intro V2 w2 ho2;have O2:=zwd ho2;clear ho2))
 have hpl:=zmT zs.length
 clear RX HBN HB1
 go_loopw [3] (fun V wr=>∃j:Nat,j<=padN zs.length/\ Out w wr V (zs++[128]++List.replicate j 0)) (fun V _=>zs.length+100-lenS V)
 case atStart=>exact⟨0,by omega,by simpa using O2.out⟩
 case round=>
  obtain⟨j,hj,ho⟩:=hrel
  have HO:=zwd ho
  have hll:(zs++[128]++List.replicate j 0).length=zs.length+1+j:=by simp;omega
  obtain⟨a',c',rfl⟩:=ho.shape
  clear ho
  by_cases hlt:j<padN zs.length
  · have NE:Hid (zs++[128]++List.replicate (j+1) 0=(zs++[128]++List.replicate j 0)++[0]):=by
     rw[List.replicate_succ',List.append_assoc,List.append_assoc,List.append_assoc]
     exact zwd rfl
    have ps:=zsh hlt
    generalize zs++[128]++List.replicate j 0=L at*
    have t0:((L.length:Int)%64 !=56)=true:=by simp;omega
    have HBN:Hid (L.length+1<=1000000):=zwd (by omega)
    have hl1:L.length<=zs.length+1+j:=by omega
    clear hll ps
    have O3:=zwd (HO.out.alloc (.cells #[.int .u8 0] 5))
    have R3:=zwd (zaY wr [0] (0,0) (by intro y hy;simp at hy;omega))
    go_wp2_with (at_builtin;go_must (refine zag (W0:=w) (L:=L) (zs:=[0]) rfl _ _ rfl rfl O3.out rfl R3.out (fun e=>by cases e) HBN.out ?_;intro V4 w4 ho4;obtain⟨a4,c4,e4⟩:=ho4.shape;rw[List.length_append,List.length_singleton]at e4;subst e4;have O4:=zwd ho4;clear ho4))
    go_roundw
    case rel=>exact⟨j+1,by omega,by rw[NE.out];exact O4.out⟩
    case measure=>simp only[lenS];omega
  · obtain rfl:j=padN zs.length:=by omega
    have pe:=zui (n:=zs.length) rfl
    have F:Hid (zdI zs=(zs++[128]++List.replicate (padN zs.length) 0)++beZ 8 (8*(zs.length:Int))):=rfl
    generalize zs++[128]++List.replicate (padN zs.length) 0=L at*
    have t0:((L.length:Int)%64 !=56)=false:=by simp;omega
    have HBN:Hid (L.length+8<=1000000):=zwd (by omega)
    have w1:IntKind.u64.wrap (zs.length:Int)=(zs.length:Int):=IntWalk.u64_in _ (by omega)
    have w8:IntKind.u64.wrap ((zs.length:Int)*8)=8*(zs.length:Int):=by rw[Int.mul_comm];exact IntWalk.u64_in _ (by omega)
    have hz:(8*(zs.length:Int))/256^8=0:=by
     rw[show(256:Int)^8=18446744073709551616 by rfl];omega
    have CB:=zwd (fun W=>zg2 (8*(zs.length:Int)) 8 8 W rfl (by omega) (by omega) (by omega) hz)
    have BB:=zwd (zex 8 (8*(zs.length:Int)))
    clear hz hll pe
    generalize beZ 8 (8*(zs.length:Int))=B8 at*
    go_wp2_with fail
    refine(CB.out _).mono ?_
    rintro e w5 ⟨a5,c5,rfl,hr5,hb5,hc5⟩
    have O5:=zwd (HO.out.below hb5)
    have R5:=zwd hr5
    have N5:Hid (a5=none->c5=0):=by
     obtain⟨b,off,e,_⟩:=hr5.2.2 (by omega)
     exact zwd (fun h=>by rw[e]at h;cases h)
    clear hr5 hb5 HO CB
    go_wp2_with (at_builtin;go_must (refine zag (W0:=w) (L:=L) (zs:=B8) rfl _ _ rfl rfl O5.out rfl R5.out N5.out HBN.out ?_;intro V4 w4 ho4;have O4:=zwd ho4;clear ho4))
    go_ret
    rw[F.out]
    exact⟨V4,rfl,O4.out⟩
end Go.Proofs.YtpgahclpbdpbnaaGreatDoor
namespace Go.Proofs.YtpgahclpbdpbnaaGreatDoor
open Go.RowKit
set_option linter.unusedVariables false
theorem zji (x:Int):IntKind.u32.wrap x=m32 x:=by
 rw[IntKind.wrap_u32]
 rfl
theorem ziw {b:List Int} (h:∀x∈b,0<=x/\ x<=255) (i:Nat):W32 (zeY b i):=by
 have g:∀k:Nat,0<=b[k]?.getD 0/\ b[k]?.getD 0<=255:=by
  intro k
  rcases Nat.lt_or_ge k b.length with hk|hk
  · rw[List.getElem?_eq_getElem hk]
    exact h _ (List.getElem_mem hk)
  · rw[List.getElem?_eq_none hk]
    simp
 have g0:=g i
 have g1:=g (i+1)
 have g2:=g (i+2)
 have g3:=g (i+3)
 unfold W32 zeY
 omega
theorem zdL {b:List Int} (h:∀x∈b,0<=x/\ x<=255) (k:Nat):∀x∈zaR b k,0<=x/\ x<=4294967295:=by
 induction k with
 |zero=>intro x hx;cases hx
 |succ k ih=>
   intro x hx
   rw[zaR,List.mem_append]at hx
   rcases hx with hx|hx
   · exact ih x hx
   · rw[List.mem_singleton]at hx
     subst hx
     split
     · exact ziw h _
     · exact zbN _
theorem zsi (a:Option Addr) (n ca:Nat) (zs:List Int) (w:World) (hr:Row w a n zs) (hn:4<=n):Calls Tryz.prog 223 #[.slice a n ca] w fun e w'=>e= .returned (.int .u32 (zeY zs 0))/\ ∃q,w'=w.drewN q:=by
 obtain⟨b,off,rfl,hb,hc⟩:=hr.2.2 (by omega)
 have c0:=hc 0 (by omega)
 have c1:=hc 1 (by omega)
 have c2:=hc 2 (by omega)
 have c3:=hc 3 (by omega)
 have z0:=hr.byte 0
 have z1:=hr.byte 1
 have z2:=hr.byte 2
 have z3:=hr.byte 3
 have W:zeY zs 0=((zs[0]?.getD 0*256+zs[1]?.getD 0)*256+zs[2]?.getD 0)*256+zs[3]?.getD 0:=rfl
 rw[W]
 clear hr hc W
 generalize zs[0]?.getD 0=y0 at*
 generalize zs[1]?.getD 0=y1 at*
 generalize zs[2]?.getD 0=y2 at*
 generalize zs[3]?.getD 0=y3 at*
 have s0:y0*16777216%4294967296=y0*16777216:=by omega
 have s1:y1*65536%4294967296=y1*65536:=by omega
 have s2:y2*256%4294967296=y2*256:=by omega
 have j1:bits .or .u32 (y0*16777216) (y1*65536)=y0*16777216+y1*65536:=bits_join .u32 32 (by decide) (fun n h0 h1=>IntWalk.u32_in _ (by omega)) 24 _ _ (by omega) (by omega) (by omega) (by omega) (by omega) (by omega)
 have j2:bits .or .u32 (y0*16777216+y1*65536) (y2*256)=y0*16777216+y1*65536+y2*256:=bits_join .u32 32 (by decide) (fun n h0 h1=>IntWalk.u32_in _ (by omega)) 16 _ _ (by omega) (by omega) (by omega) (by omega) (by omega) (by omega)
 have j3:bits .or .u32 (y0*16777216+y1*65536+y2*256) y3=y0*16777216+y1*65536+y2*256+y3:=bits_join .u32 32 (by decide) (fun n h0 h1=>IntWalk.u32_in _ (by omega)) 8 _ _ (by omega) (by omega) (by omega) (by omega) (by omega) (by omega)
 have k0:0<n:=by omega
 have k1:1<n:=by omega
 have k2:2<n:=by omega
 have k3:3<n:=by omega
 rw[Nat.add_zero]at c0
 go_enter Tryz.func223,Tryz.ntmps223
 go_wp2_with fail
 go_quiet (fail)
 go_wp2
 go_ret
 exact⟨zbw (by omega),_,rfl⟩
def zbL (l:List Int):Array Value:=((l++List.replicate (64-l.length) 0).map (Value.int .u32)).toArray
def Z64:Array Value:=(List.replicate 64 (Value.int .u32 0)).toArray
theorem zeZ (l:List Int) (h:l.length<=64):(zbL l).size=64:=by
 unfold zbL
 simp
 omega
theorem zix (l:List Int) (x:Int) (h:l.length<64):(zbL l).setIfInBounds l.length (.int .u32 x)=zbL (l++[x]):=by
 unfold zbL
 apply Array.ext'
 rw[Array.toList_setIfInBounds,List.length_append,List.length_singleton]
 show((l++List.replicate (64-l.length) 0).map (Value.int .u32)).set l.length (.int .u32 x)=(l++[x]++List.replicate (64-(l.length+1)) 0).map (Value.int .u32)
 rw[<-List.map_set,List.set_append_right _ _ (Nat.le_refl _),Nat.sub_self,show 64-l.length=(64-(l.length+1))+1 by omega,List.replicate_succ,zwg,List.append_assoc]
 rfl
theorem za5 (l:List Int) (i:Nat) (h:i<64):(zbL l)[i]?=some (.int .u32 (l[i]?.getD 0)):=by
 unfold zbL
 rw[List.getElem?_toArray,List.getElem?_map,List.getElem?_append]
 split
 · rename_i hi
   rw[List.getElem?_eq_getElem hi]
   rfl
 · rename_i hi
   rw[List.getElem?_replicate,if_pos (by omega),List.getElem?_eq_none (by omega)]
   rfl
theorem ziy (l:List Int):(zbL l).all (·.oneCell')=true:=by
 unfold zbL
 refine all_oneCell_toArray ?_
 intro v hv
 obtain⟨x,_,rfl⟩:=List.mem_map.1 hv
 rfl
theorem Tryz.size53 (l:List Int) (h:l.length<=64):(Tryz.prog.info? 180).map (·.size)=some (zbL l).size:=by
 rw[zeZ l h]
 kernel_rfl
end Go.Proofs.YtpgahclpbdpbnaaGreatDoor
namespace Go.Proofs.YtpgahclpbdpbnaaGreatDoor
open Go.RowKit
set_option linter.unusedVariables false
def zfV (w wr:World) (l:List Int):Prop:=Blk wr w.heap.size 180 Z64/\ Blk wr (w.heap.size+1) 180 (zbL l)/\ Below w.heap.size w wr
theorem zfV.start (w:World):zfV w ((w.alloc (.cells Z64 180)).alloc (.cells Z64 180)) []:=by
 refine⟨(Blk.new w _ _).alloc _,?_,((Below.refl _ _).alloc (Nat.le_refl _) _).alloc (by simp) _⟩
 have:=Blk.new (w.alloc (.cells Z64 180)) 180 Z64
 rw[show(w.alloc (.cells Z64 180)).heap.size=w.heap.size+1 by simp]at this
 exact this
theorem zfV.drewN {w wr:World} {l:List Int} (h:zfV w wr l) (q:Nat):zfV w (wr.drewN q) l:=⟨h.1,h.2.1,{h.2.2 with}⟩
theorem zfV.next {w wr:World} {l:List Int} (h:zfV w wr l) (x:Int) (k:Nat) (hk:k=l.length) (hl:k<64):zfV w (wr.setCell ⟨w.heap.size+1,k,none⟩ (.int .u32 x)) (l++[x]):=by
 subst hk
 refine⟨h.1.far (by omega) _ _,?_,h.2.2.setCell (by show w.heap.size<=w.heap.size+1;omega) _⟩
 rw[<-zix l x hl]
 exact h.2.1.set _ _
theorem ziz (b:List Int) (k:Nat) (h:16<=k):zaR b (k+1)=zaR b k++[zn9 (zaR b k) k]:=by
 rw[zaR,if_neg (by omega)]
theorem zg4 (b:List Int) (k:Nat) (h:k<16):zaR b (k+1)=zaR b k++[zeY b (4*k)]:=by
 rw[zaR,if_pos h]
theorem zpx (b:List Int) (i:Nat):zeY (b.drop i) 0=zeY b i:=by
 unfold zeY
 simp only[List.getElem?_drop,Nat.zero_add,Nat.add_zero]
def zsj (l:List Int) (w:World) (e:Ending) (w':World):Prop:=e= .returned (.agg (zbL l))/\ Below w.heap.size w w'
theorem zkh (a:Option Addr) (ca:Nat) (zs:List Int) (w:World) (hr:Row w a 64 zs) (hca:64<=ca):Calls Tryz.prog 200 #[.slice a 64 ca] w (zsj (zaR zs 64) w):=by
 have E0:=zwd (zfV.start w)
 have RW:=zwd hr
 have HB:=zwd hr.2.1
 obtain⟨b,off,rfl,hb,hc⟩:=hr.2.2 (by omega)
 clear hr hc
 go_enter Tryz.func200,Tryz.ntmps200
 go_wp2_with (first
  |(refine Great.wpList_allocTo rfl (some 2) rfl (.pointer (some ⟨w.heap.size,0,none⟩)) (.cells Z64 180) rfl ?_)
  |(refine Great.wpList_allocTo rfl (some 3) rfl (.pointer (some ⟨(w.alloc (.cells Z64 180)).heap.size,0,none⟩)) (.cells Z64 180) rfl ?_))
 generalize(w.alloc (.cells Z64 180)).alloc (.cells Z64 180)=w0 at*
 go_loopw [10] (fun i wr=>∃k:Nat,k<=16/\ i= .int .i64 (k:Int)/\ zfV w wr (zaR zs k)) (fun i _=>(17-intOf i).toNat)
 case atStart=>exact⟨0,by omega,rfl,E0.out⟩
 case round=>
  obtain⟨k,hk,rfl,he⟩:=hrel
  have E:=zwd he
  clear he E0
  by_cases hk2:k<16
  · have t0:decide ((k:Int)<16)=true:=by simp;omega
    have RD:=zwd ((RW.out.below E.out.2.2).rest (4*k) ca (by omega) hca)
    have h4:IntKind.i64.wrap (4*(k:Int))=4*(k:Int):=IntWalk.i64_in _ (by omega)
    have hne:¬ca=4*k:=by omega
    have L:=zcf zs k
    rw[if_neg hne]at RD
    have CW:=zwd (zsi _ _ (ca-4*k) _ _ RD.out (by omega))
    rw[zpx]at CW
    rw[Option.map_some,Addr.add_lit]at CW
    have CC:=(E.out.2.1.cell k).trans (za5 _ k (by omega))
    have FF:=E.out.2.1.free k
    have EN:Hid (∀q,zfV w ((wr.drewN q).setCell ⟨w.heap.size+1,k,none⟩ (.int .u32 (zeY zs (4*k)))) (zaR zs (k+1))):=by
     rw[zg4 _ _ hk2]
     exact zwd (fun q=>(E.out.drewN q).next _ k L.symm (by omega))
    clear E RD L
    have kl:k<64:=by omega
    have kI:(k:Int)<64:=by omega
    have k1:IntKind.i64.wrap ((k:Int)+1)=((k+1:Nat):Int):=by rw[Int.natCast_add];exact IntWalk.i64_in _ (by omega)
    go_wp2_with fail
    refine CW.out.mono ?_
    rintro e w2 ⟨rfl,q,hw⟩
    subst hw
    go_wp2_with fail
    go_roundw
    case rel=>exact⟨k+1,by omega,by first|rfl|go_num,EN.out q⟩
    case measure=>simp only[intOf];omega
  · obtain rfl:k=16:=by omega
    clear hk2
    rw[show((16:Nat):Int)=16 by rfl]
    go_wp2_with fail
    go_loopw [5] (fun i w2=>∃k:Nat,16<=k/\ k<=64/\ i= .int .i64 (k:Int)/\ zfV w w2 (zaR zs k)) (fun i _=>(65-intOf i).toNat)
    case atStart=>exact⟨16,by omega,by omega,rfl,E.out⟩
    case round=>
     obtain⟨k,hk16,hk,rfl,he⟩:=hrel
     have E2:=zwd he
     clear he E RW
     by_cases hk2:k<64
     · have WN:=zwd (ziz zs k hk16)
       have L:=zcf zs k
       have WB:=zwd (zdL HB.out k)
       obtain⟨j,hj⟩:∃j,k=j+16:=⟨k-16,by omega⟩
       obtain⟨l1,hl1⟩:∃l1,zaR zs (k+1)=l1:=⟨_,rfl⟩
       rw[hl1]at WN
       have HL1:=zwd hl1
       clear hl1
       generalize zaR zs k=l at*
       subst hj
       have t0:decide ((j:Int)+16<64)=true:=by simp;omega
       have c0:=(E2.out.2.1.cell j).trans (za5 _ j (by omega))
       have c1:=(E2.out.2.1.cell (j+1)).trans (za5 _ (j+1) (by omega))
       have c9:=(E2.out.2.1.cell (j+9)).trans (za5 _ (j+9) (by omega))
       have c14:=(E2.out.2.1.cell (j+14)).trans (za5 _ (j+14) (by omega))
       have c16:=(E2.out.2.1.cell (j+16)).trans (za5 _ (j+16) (by omega))
       have f16:=E2.out.2.1.free (j+16)
       have EN:Hid (∀q,zfV w ((wr.drewN q).setCell ⟨w.heap.size+1,j+16,none⟩ (.int .u32 (zn9 l (j+16)))) l1):=by
        rw[WN.out]
        exact zwd (fun q=>(E2.out.drewN q).next _ (j+16) L.symm (by omega))
       have r:∀i:Nat,W32 (l[i]?.getD 0):=by
        intro i
        rcases Nat.lt_or_ge i l.length with h|h
        · rw[List.getElem?_eq_getElem h]
          exact WB.out _ (List.getElem_mem h)
        · rw[List.getElem?_eq_none h]
          unfold W32
          simp
       have N:zn9 l (j+16)=m32 (l[j]?.getD 0+lowS (l[j+1]?.getD 0)+l[j+9]?.getD 0+zuh (l[j+14]?.getD 0)):=rfl
       rw[N]at EN
       have r0:=r j
       have r1:=r (j+1)
       have r9:=r (j+9)
       have r14:=r (j+14)
       generalize l[j]?.getD 0=x0 at*
       generalize l[j+1]?.getD 0=x1 at*
       generalize l[j+9]?.getD 0=x9 at*
       generalize l[j+14]?.getD 0=x14 at*
       generalize l[j+16]?.getD 0=x16 at*
       clear r N WB L WN E2
       rw[show((j+16:Nat):Int)=(j:Int)+16 by omega]
       have e15:IntKind.i64.wrap ((j:Int)+16-15)=((j+1:Nat):Int):=by rw[show(j:Int)+16-15=(j:Int)+1 by omega,Int.natCast_add];exact IntWalk.i64_in _ (by omega)
       have e2:IntKind.i64.wrap ((j:Int)+16-2)=((j+14:Nat):Int):=by rw[show(j:Int)+16-2=(j:Int)+14 by omega,Int.natCast_add];exact IntWalk.i64_in _ (by omega)
       have e16:IntKind.i64.wrap ((j:Int)+16-16)=(j:Int):=by rw[show(j:Int)+16-16=(j:Int)by omega];exact IntWalk.i64_in _ (by omega)
       have e7:IntKind.i64.wrap ((j:Int)+16-7)=((j+9:Nat):Int):=by rw[show(j:Int)+16-7=(j:Int)+9 by omega,Int.natCast_add];exact IntWalk.i64_in _ (by omega)
       go_wp2_with fail
       go_quiet (fail)
       generalize hq:nq=q at*
       go_wp2_with fail
       refine(zfk x1 7 7 _ rfl (by unfold zds;omega) r1.1 r1.2).mono ?_
       rintro e w2 ⟨rfl,hw⟩
       subst hw
       go_wp2_with fail
       refine(zfk x1 18 18 _ rfl (by unfold zds;omega) r1.1 r1.2).mono ?_
       rintro e w2 ⟨rfl,hw⟩
       subst hw
       go_wp2_with fail
       refine(zfk x14 17 17 _ rfl (by unfold zds;omega) r14.1 r14.2).mono ?_
       rintro e w2 ⟨rfl,hw⟩
       subst hw
       go_wp2_with fail
       refine(zfk x14 19 19 _ rfl (by unfold zds;omega) r14.1 r14.2).mono ?_
       rintro e w2 ⟨rfl,hw⟩
       subst hw
       go_wp2_with fail
       go_region
       go_wp2_with fail
       go_roundw
       case rel=>exact⟨j+16+1,by omega,by omega,by first|rfl|go_num,by rw[HL1.out];exact EN.out _⟩
       case measure=>simp only[intOf];omega
     · obtain rfl:k=64:=by omega
       have L:=zcf zs 64
       generalize zaR zs 64=l at*
       clear hk16 hk2
       have KA:=E2.out.1
       have KB:=E2.out.2.1
       have KW:=E2.out.2.2
       have L64:l.length<=64:=by omega
       have HA:=zwd KA
       have HBB:=zwd KB
       have HW:=zwd KW
       clear KA KB KW E2 L
       rw[show((64:Nat):Int)=64 by rfl]
       go_wp2_with (first
        |(refine wpList_load_row rfl 180 (.tmp 3) rfl (w.heap.size+1) rfl 180 (zbL l) (0,0) (.array 64 22) HBB.out Tryz.underlying180 rfl (Tryz.size53 l L64) ?_)
        |(refine wpList_store_rowTo rfl 180 (.tmp 2) (.tmp 64) rfl rfl w.heap.size (zbL l) rfl rfl 180 Z64 HA.out (Tryz.size53 l L64) (by rw[zeZ l L64];rfl) (ziy l) ?_))
       exact bodyPost_ret (results_cell_row rfl _ _ w.heap.size 180 (zbL l) (0,0) (.array 64 22) rfl (setRow_heap _ _ _ _ 180 _ HA.out) Tryz.underlying180 rfl (Tryz.size53 l L64)) rfl ⟨rfl,below_setRow HW.out (Nat.le_refl _) _⟩
end Go.Proofs.YtpgahclpbdpbnaaGreatDoor
namespace Go.Proofs.YtpgahclpbdpbnaaGreatDoor
open Go.RowKit
set_option linter.unusedVariables false
def rotI (x n:Int):Int:=rotZ x n.toNat
theorem zki (x n:Int) (w:World) (hn:zds n.toNat) (hn0:0<=n) (h0:0<=x) (h1:x<=4294967295):Calls Tryz.prog 201 #[.int .u32 x,.int .i64 n] w fun e w'=>e= .returned (.int .u32 (rotI x n))/\ w'=w:=
 zfk x n n.toNat w (Int.toNat_of_nonneg hn0).symm hn h0 h1
def V8.cells (v:V8):Array Value:=#[.int .u32 v.a,.int .u32 v.b,.int .u32 v.c,.int .u32 v.d,.int .u32 v.e,.int .u32 v.f,.int .u32 v.g,.int .u32 v.h]
def Tab (w:World):Prop:=1+1<=w.heap.size/\ (∃t fr,w.heap[0]?=some (.cells H0.cells t fr))/\ ∃t fr,w.heap[1]?=some (.cells (zbL zcm) t fr)
theorem Tab.below {w w':World} (h:Tab w) (hb:Below w.heap.size w w'):Tab w':=by
 obtain⟨h2,⟨t0,f0,h0⟩,t1,f1,h1⟩:=h
 exact⟨Nat.le_trans h2 hb.size,⟨t0,f0,(hb.block 0 (by omega)).trans h0⟩,t1,f1,(hb.block 1 (by omega)).trans h1⟩
theorem Tab.const {w:World} (h:Tab w) (t:Nat) (ht:t<64):w.cell? ⟨1,t,none⟩=some (.int .u32 (zcm[t]?.getD 0)):=by
 obtain⟨_,_,_,fr,h1⟩:=h
 have:w.cell? ⟨1,t,none⟩=(zbL zcm)[t]?:=by
  simp only[World.cell?,h1]
  rfl
 rw[this,za5 _ t ht]
theorem zuj (v s:V8):(addV v s).ok:=⟨zbN _,zbN _,zbN _,zbN _,zbN _,zbN _,zbN _,zbN _⟩
theorem zsk {v:V8} (h:v.ok) (c x:Int):(zsc v c x).ok:=by
 obtain⟨ha,hb,hc,hd,he,hf,hg,hh⟩:=h
 exact⟨zbN _,ha,hb,hc,zbN _,he,hf,hg⟩
theorem zg5 {v:V8} (h:v.ok) (l:List Int) (k:Nat):(zba v l k).ok:=by
 induction k with
 |zero=>exact h
 |succ k ih=>exact zsk ih _ _
theorem zsl (v:V8) (b:List Int):(zbC v b).ok:=zuj _ _
theorem zpy:H0.ok:=by
 unfold H0 V8.ok W32
 decide
def zkj (w wr:World) (B:Nat) (v:V8) (l:List Int):Prop:=
 Blk wr w.heap.size 173 v.cells/\ (∃z:V8,Blk wr (w.heap.size+1) 173 z.cells)/\ Blk wr B 180 (zbL l)/\ Below w.heap.size w wr/\ Tab wr
theorem zkj.drewN {w wr:World} {B:Nat} {v:V8} {l:List Int} (h:zkj w wr B v l) (q:Nat):zkj w (wr.drewN q) B v l:=
 ⟨h.1,h.2.1,h.2.2.1,{h.2.2.2.1 with},h.2.2.2.2⟩
def Z8:V8:=⟨0,0,0,0,0,0,0,0⟩
theorem zkj.start {w w2 w3:World} {v z:V8} {l:List Int} (h1:Blk w2 w.heap.size 173 v.cells) (h2:Blk w2 (w.heap.size+1) 173 z.cells) (hb:Below w.heap.size w w2) (h3:Below w2.heap.size w2 w3) (ht:Tab w):
 zkj w ((w3.alloc (.cells Z64 180)).setRow w3.heap.size (zbL l)) w3.heap.size v l:=by
 have k1:=h1.below h3 h1.lt
 have k2:=h2.below h3 h2.lt
 have l1:w.heap.size<w3.heap.size:=k1.lt
 have l2:w.heap.size+1<w3.heap.size:=k2.lt
 have hB:Below w.heap.size w ((w3.alloc (.cells Z64 180)).setRow w3.heap.size (zbL l)):=below_setRow ((Below.step hb h3).alloc (by omega) _) (by omega) _
 refine⟨(setRow_other _ _ _ _ (by omega)).trans (k1.alloc _),⟨z,(setRow_other _ _ _ _ (by omega)).trans (k2.alloc _)⟩,setRow_heap _ _ _ _ _ _ (Blk.new w3 180 Z64),hB,ht.below hB⟩
theorem zpz (v s:V8):addV v s=addV s v:=by
 unfold addV
 simp only[Int.add_comm]
theorem Tryz.size41 (v:V8):(Tryz.prog.info? 173).map (·.size)=some v.cells.size:=by
 show _=some 8
 kernel_rfl
theorem zfl (v:V8):v.cells.all (·.oneCell')=true:=by simp[V8.cells,Value.oneCell']
def zvo (v:V8) (w:World) (e:Ending) (w':World):Prop:=e= .returned (.agg v.cells)/\ Below w.heap.size w w'
theorem zkk (v:V8) (hv:v.ok) (a:Option Addr) (ca:Nat) (zs:List Int) (w:World) (hr:Row w a 64 zs) (hca:64<=ca) (ht:Tab w):Calls Tryz.prog 161 #[.agg v.cells,.slice a 64 ca] w (zvo (zbC v zs) w):=by
 have HB:=zwd hr.2.1
 have F:Hid (zbC v zs=addV (zba v (zaR zs 64) 64) v):=rfl
 have LL:=zcf zs 64
 have LR:=zwd (zdL hr.2.1 64)
 have VO:=zwd hv
 have CX:=zwd (fun W (hb:Below w.heap.size w W)=>zkh a ca zs W (hr.below hb) hca)
 have B2:Hid (Below w.heap.size w ((w.alloc (.cells v.cells 173)).alloc (.cells Z8.cells 173))):=zwd (((Below.refl _ _).alloc (Nat.le_refl _) _).alloc (by simp) _)
 have A2:Hid (Blk ((w.alloc (.cells v.cells 173)).alloc (.cells Z8.cells 173)) w.heap.size 173 v.cells):=zwd ((Blk.new w _ _).alloc _)
 have A3:Hid (Blk ((w.alloc (.cells v.cells 173)).alloc (.cells Z8.cells 173)) (w.heap.size+1) 173 Z8.cells):=by
  have:=Blk.new (w.alloc (.cells v.cells 173)) 173 Z8.cells
  rw[show(w.alloc (.cells v.cells 173)).heap.size=w.heap.size+1 by simp]at this
  exact zwd this
 have TA:=zwd ht
 clear hr hv ht
 generalize zaR zs 64=l at*
 simp only[V8.cells,Z8]at A2 A3 B2⊢
 go_enter Tryz.func161,Tryz.ntmps161
 go_wp2_with fail
 generalize(w.alloc (.cells #[.int .u32 v.a,.int .u32 v.b,.int .u32 v.c,.int .u32 v.d,.int .u32 v.e,.int .u32 v.f,.int .u32 v.g,.int .u32 v.h] 173)).alloc (.cells #[.int .u32 0,.int .u32 0,.int .u32 0,.int .u32 0,.int .u32 0,.int .u32 0,.int .u32 0,.int .u32 0] 173)=w2 at*
 refine(CX.out _ B2.out).mono ?_
 rintro e w3 ⟨rfl,hb3⟩
 have L64:l.length<=64:=by omega
 have K4:Hid (zkj w ((w3.alloc (.cells Z64 180)).setRow w3.heap.size (zbL l)) w3.heap.size v l):=zwd (zkj.start (z:=Z8) A2.out A3.out B2.out hb3 TA.out)
 have N3:=zwd (Blk.new w3 180 Z64)
 clear hb3 CX A2 A3 B2 TA
 go_wp2_with (first
  |(refine Great.wpList_allocTo rfl (some 5) rfl (.pointer (some ⟨w3.heap.size,0,none⟩)) (.cells Z64 180) rfl ?_)
  |(refine wpList_store_rowTo rfl 180 (.tmp 5) (.tmp 20) rfl rfl w3.heap.size (zbL l) rfl rfl 180 Z64 N3.out (Tryz.size53 l L64) (by rw[zeZ l L64];rfl) (ziy l) ?_))
 clear N3
 generalize(w3.alloc (.cells Z64 180)).setRow w3.heap.size (zbL l)=w4 at*
 generalize w3.heap.size=B at*
 have c0:=K4.out.1.cell 0
 have c1:=K4.out.1.cell 1
 have c2:=K4.out.1.cell 2
 have c3:=K4.out.1.cell 3
 have c4:=K4.out.1.cell 4
 have c5:=K4.out.1.cell 5
 have c6:=K4.out.1.cell 6
 have c7:=K4.out.1.cell 7
 simp only[V8.cells]at c0 c1 c2 c3 c4 c5 c6 c7
 go_quiet (fail)
 have K5:=zwd (K4.out.drewN nq)
 generalize w4.drewN nq=w5 at*
 clear c0 c1 c2 c3 c4 c5 c6 c7 K4
 go_wp2_with fail
 go_loopw [6,7,8,9,10,11,12,13,37] (fun sa sb sc sd se sf sg sh i wr=>∃k:Nat,k<=64/\ i= .int .i64 (k:Int)/\ sa= .int .u32 (zba v l k).a/\ sb= .int .u32 (zba v l k).b/\ sc= .int .u32 (zba v l k).c/\ sd= .int .u32 (zba v l k).d/\ se= .int .u32 (zba v l k).e/\ sf= .int .u32 (zba v l k).f/\ sg= .int .u32 (zba v l k).g/\ sh= .int .u32 (zba v l k).h/\ zkj w wr B v l) (fun _ _ _ _ _ _ _ _ i _=>(65-intOf i).toNat)
 case atStart=>exact⟨0,by omega,rfl,rfl,rfl,rfl,rfl,rfl,rfl,rfl,rfl,K5.out⟩
 case round=>
  obtain⟨k,hk,rfl,rfl,rfl,rfl,rfl,rfl,rfl,rfl,rfl,hb⟩:=hrel
  have K6:=zwd hb
  clear hb K5
  by_cases hk2:k<64
  · have t0:decide ((k:Int)<64)=true:=by simp;omega
    have kI:(k:Int)<64:=by omega
    have RO:=zwd (zg5 VO.out l k)
    have RN:Hid (zba v l (k+1)=zsc (zba v l k) (zcm[k]?.getD 0) (l[k]?.getD 0)):=zwd rfl
    obtain⟨s1,hs1⟩:∃s1,zba v l (k+1)=s1:=⟨_,rfl⟩
    rw[hs1]at RN
    have HS1:=zwd hs1
    clear hs1
    generalize zba v l k=s at*
    have g0:=(K6.out.2.2.1.cell k).trans (za5 l k hk2)
    have g1:=K6.out.2.2.2.2.const k hk2
    generalize zcm[k]?.getD 0=cc at*
    generalize l[k]?.getD 0=ww at*
    have RO':=RO.out
    obtain⟨ra,rb,rc,rd,re,rf,rg,rh⟩:=RO'
    unfold W32 at ra rb rc rd re rf rg rh
    clear RO
    obtain⟨a1,b1,c1,d1,e1,f1,g1',h1⟩:=s
    simp only at ra rb rc rd re rf rg rh⊢
    go_wp2_with fail
    go_quiet ((go_at_call 201;exact Calls.quiet_of_same (zki _ _ _ (by unfold zds;decide) (by decide) (by omega) (by omega))))
    go_wp2_with (go_at_call 201;refine(zki _ _ _ (by unfold zds;decide) (by decide) (by omega) (by omega)).mono ?_;rintro e w' ⟨rfl,rfl⟩)
    go_roundw
    case rel=>exact⟨k+1,by omega,by first|rfl|go_num,by rw[HS1.out,RN.out];rfl,by rw[HS1.out,RN.out];rfl,by rw[HS1.out,RN.out];rfl,by rw[HS1.out,RN.out];rfl,by rw[HS1.out,RN.out];rfl,by rw[HS1.out,RN.out];rfl,by rw[HS1.out,RN.out];rfl,by rw[HS1.out,RN.out];rfl,K6.out.drewN _⟩
    case measure=>simp only[intOf];omega
  · obtain rfl:k=64:=by omega
    have c0:=K6.out.1.cell 0
    have c1:=K6.out.1.cell 1
    have c2:=K6.out.1.cell 2
    have c3:=K6.out.1.cell 3
    have c4:=K6.out.1.cell 4
    have c5:=K6.out.1.cell 5
    have c6:=K6.out.1.cell 6
    have c7:=K6.out.1.cell 7
    simp only[V8.cells]at c0 c1 c2 c3 c4 c5 c6 c7
    generalize zba v l 64=s at*
    rw[show((64:Nat):Int)=64 by rfl]
    clear hk2
    obtain⟨z,kz⟩:=K6.out.2.1
    have KZ:=zwd kz
    have KW:=zwd K6.out.2.2.2.1
    clear kz K6
    have F2:Hid (zbC v zs=addV v s):=by rw[F.out,zpz];exact zwd rfl
    clear F
    go_wp2_with (refine wpList_store_rowTo rfl 173 (.tmp 4) (.tmp 134) rfl rfl (w.heap.size+1) (addV v s).cells rfl rfl 173 z.cells KZ.out (Tryz.size41 _) rfl (zfl _) ?_)
    exact bodyPost_ret (results_cell_row rfl _ _ (w.heap.size+1) 173 (addV v s).cells (0,0) (.array 8 22) rfl (setRow_heap _ _ _ _ 173 _ KZ.out) Tryz.underlying173 rfl (Tryz.size41 _)) rfl ⟨by rw[F2.out],below_setRow KW.out (by omega) _⟩
end Go.Proofs.YtpgahclpbdpbnaaGreatDoor
namespace Go.Proofs.YtpgahclpbdpbnaaGreatDoor
open Go.ChangeShapes Go.WideShapes Go.ChangeAt Go.RowKit
theorem own:ownKnob Tryz.prog.godebug=none:=by kernel_rfl
theorem ze0:laidOutB Tryz.prog=true:=by kernel_rfl
def zgB:List (String×DataW Unit):=[("lanyard/sha.startWords",Rows.laid_lanyard_sha_startWords),("lanyard/sha.roundWords",Rows.laid_lanyard_sha_roundWords),("unicode/utf8.acceptRanges",Rows.laid_unicode_utf8_acceptRanges),("unicode/utf8.first",Rows.laid_unicode_utf8_first)]
theorem Tryz.cells37:Tryz.prog.cellsOf 22=1:=by kernel_rfl
theorem zg6 {W:World} {cs:Array Value} {fuel n:Nat} {t:TypeId} {p:List MemPlace} (zs:List Int) (hn:zs.length=n) (hu:Tryz.prog.underlying t=some (.array n 22)) (hc:Tryz.prog.cellsOf t=n)
 (h:DataW.trod (fun _=>()) Tryz.prog W 0 (fun _=>true) false fuel t cs.toList=some (.agg (zs.map fun z=> .lit (.int .u32 z)),p)):cs=(zs.map (Value.int .u32)).toArray:=by
 obtain⟨xs,m,_,ex,hlen,hl,hel⟩:=DataW.trod_array hu h
 have e3:(xs.map (·.1))=zs.map fun z=>(DataW.lit (.int .u32 z):DataW Unit):=(DataW.agg.inj (Prod.mk.inj ex).1).symm
 apply Array.ext'
 apply List.ext_getElem?
 intro i
 rcases Nat.lt_or_ge i n with hi|hi
 · have hE:=hel i hi
   rw[Tryz.cells37,Nat.mul_one,List.getElem?_eq_getElem (by omega)]at hE
   obtain⟨z,e1,e2,_⟩:=DataW.trod_int Tryz.underlying22 hE
   have e4:(xs.map (·.1))[i]?=(zs.map fun z=>(DataW.lit (.int .u32 z):DataW Unit))[i]?:=by rw[e3]
   rw[List.getElem?_map,List.getElem?_map,List.getElem?_eq_getElem (by omega:i<xs.length),List.getElem?_eq_getElem (by omega:i<zs.length),e2]at e4
   have hz:z=zs[i]'(by omega):=by
    simpa using e4
   have h0:((cs.toList.drop i).take 1)[0]?=some (.int .u32 z):=by rw[e1];rfl
   rw[List.getElem?_take,if_pos (by omega),List.getElem?_drop,Nat.add_zero]at h0
   rw[h0,hz,List.getElem?_map,List.getElem?_eq_getElem (by omega:i<zs.length)]
   rfl
 · rw[List.getElem?_eq_none (by omega),List.getElem?_eq_none (by simp;omega)]
theorem zkl {W:World} {n:String} {g:Nat} {cs:Array Value} (hg:Tryz.prog.globalNamed n=some g) (h:W.var? Tryz.prog n=some cs):∃t fr,W.heap[g]?=some (.cells cs t fr):=by
 simp only[World.var?,hg,Option.bind_some]at h
 split at h
 · rename_i c t fr hc
   injection h with h
   subst h
   exact⟨t,fr,hc⟩
 · cases h
theorem zoc:(Rows.laid_lanyard_sha_startWords:DataW Unit)= .agg (H0.list.map fun z=> .lit (.int .u32 z)):=by kernel_rfl
theorem zod:(Rows.laid_lanyard_sha_roundWords:DataW Unit)= .agg (zcm.map fun z=> .lit (.int .u32 z)):=by kernel_rfl
theorem zvp {W:World} (h:laidMetH Tryz.prog zgB W):Tab W:=by
 rw[MakeChecks.laidMetH_plain _ _ _ (by kernel_rfl)]at h
 obtain⟨ps,⟨g,t,cs,fuel,p,q,hg,ht,hv,hd,⟨g1,t1,cs1,fuel1,p1,q1,hg1,ht1,hv1,hd1,_,_⟩,_⟩,_,_⟩:=h
 obtain rfl:=Option.some.inj ((show Tryz.prog.globalNamed "lanyard/sha.startWords" =some 0 by kernel_rfl).symm.trans hg)
 obtain rfl:=Option.some.inj ((show(Tryz.prog.globals[0]?).map (·.type)=some 173 by kernel_rfl).symm.trans ht)
 obtain rfl:=Option.some.inj ((show Tryz.prog.globalNamed "lanyard/sha.roundWords" =some 1 by kernel_rfl).symm.trans hg1)
 obtain rfl:=Option.some.inj ((show(Tryz.prog.globals[1]?).map (·.type)=some 180 by kernel_rfl).symm.trans ht1)
 rw[zoc]at hd
 rw[zod]at hd1
 have e0:=zg6 H0.list rfl Tryz.underlying173 (by kernel_rfl) hd
 have e1:=zg6 zcm rfl Tryz.underlying180 (by kernel_rfl) hd1
 obtain⟨t0,f0,b0⟩:=zkl (by kernel_rfl) hv
 obtain⟨t1,f1,b1⟩:=zkl (by kernel_rfl) hv1
 have hlt:1<W.heap.size:=(Array.getElem?_eq_some_iff.1 b1).1
 refine⟨hlt,⟨t0,f0,?_⟩,t1,f1,?_⟩
 · rw[b0,e0]
   rfl
 · rw[b1,e1]
   rfl
section
variable {H : Type} {enc : TypeId × Value -> H}
theorem zlO {f:FuncId} {fn:Func} {s:ChangeSpec} {conds:List PathCond} {os:Os} (started:os.Started) (noInit:Tryz.prog.inits.idxOf? f=none) (hfn:Tryz.prog.funcs[f]?=some fn)
 (witness:∃(w:World) (tape:Tape) (i:Input),w.os=os/\ (w.forCall tape i).Shaped Tryz.prog/\ i.vars=[]/\ Input.okWide Tryz.prog (w.forCall tape i) .any w.heap.size f i/\
   ((s.pre enc Tryz.prog fn conds false (w.forCall tape i).memory i.args/\ laidMetH Tryz.prog zgB (w.forCall tape i).memory)/\ sizedMet enc Tryz.prog fn (OpenSpec.ofChange s) false (w.forCall tape i).memory i.args)/\ ({}:Assume).holds Tryz.prog (lone (Frame.enter Tryz.prog f i.args .normal) [] (w.forCall tape i)))
 (contract:∀(W:World) (base:Nat) (args:Array Value) (ds gs:List (DataW H)) (before:List MemPlace),
   (∀(j:Nat) t v,fn.params[j]?=some t->args[j]?=some v->Value.okWide Tryz.prog W .any base t v)->
   DataW.Whole enc Tryz.prog fn.params.toList s.vars false W args.toList ds gs before->
   Tab W->
   Calls Tryz.prog f args W fun e W'=>∃v,e= .returned v/\ s.post enc Tryz.prog fn false true false false W args v W'):
 ReturnsInHanded {} Tryz.checked os f .any (fun w args=>(s.pre enc Tryz.prog fn conds false w args/\ laidMetH Tryz.prog zgB w)/\ sizedMet enc Tryz.prog fn (OpenSpec.ofChange s) false w args) (s.post enc Tryz.prog fn false true false false):=by
 refine returnsInHanded_of_calls (C:=Tryz.checked) own started noInit witness ?_
 intro w tape i _ hsh _ hok hpre _
 obtain⟨_,_,_,fn',hfn',_,_,_,_,hval⟩:=hok
 obtain rfl:fn'=fn:=Option.some.inj (hfn'.symm.trans hfn)
 obtain⟨⟨⟨ds,gs,before,hw,_⟩,hl⟩,_⟩:=hpre
 have ht:=zvp hl
 refine(contract (w.forCall tape i) w.heap.size i.args ds gs before hval (DataW.Whole.of_heap (w':=w.forCall tape i) (by rfl) hw) (show Tab (w.forCall tape i)from ht)).mono fun e W' ⟨v,he,hp⟩=> ?_
 subst he
 exact ChangeSpec.post_blind hp
end
end Go.Proofs.YtpgahclpbdpbnaaGreatDoor
namespace Go.Proofs.YtpgahclpbdpbnaaGreatDoor
open Go.RowKit
inductive T where
 |node (tag:Int) (body:List Int) (kids:List T)
theorem T.all {p:T->Prop} (h:∀tag body kids,(∀t∈kids,p t)->p (.node tag body kids)) (t:T):p t:=
 T.rec (motive_1:=p) (motive_2:=fun l=>∀t∈l,p t) (fun tag body kids ih=>h tag body kids ih) (fun _ hm=>absurd hm (by simp))
  (fun t r h1 h2 x hx=>by
    rcases List.mem_cons.1 hx with e|hx
    · rw[e]
      exact h1
    · exact h2 x hx) t
mutual
def T.In (w:World):T->Value->Prop
 | .node tag body kids,v=>∃(A:Option Addr) (n c:Nat) (K:Option Addr) (m d:Nat),v= .agg #[.int .i64 tag,.slice A n c,.slice K m d]/\ (Lit.int .i64 tag).wf=true/\ Row w A n body/\ n<=maxLen/\ (A=none->c=0)/\ kids.length=m/\ (m<=maxLen/\ n<=c/\ m<=d)/\
    (0<m->∃b off,K=some ⟨b,off,none⟩/\ b<w.heap.size/\ T.InAll w kids b off)
def T.InAll (w:World):List T->Nat->Nat->Prop
 | [],_,_=>True
 |t::r,b,off=>(∃v0 v1 v2:Value,w.cell? ⟨b,off,none⟩=some v0/\ w.cell? ⟨b,off+1,none⟩=some v1/\ w.cell? ⟨b,off+2,none⟩=some v2/\ T.In w t (.agg #[v0,v1,v2]))/\ T.InAll w r b (off+3)
end
theorem T.InAll.at {w:World}:∀ {ts:List T} {b off:Nat},T.InAll w ts b off->∀(i:Nat) (h:i<ts.length),∃v0 v1 v2:Value,w.cell? ⟨b,off+i*3,none⟩=some v0/\ w.cell? ⟨b,off+i*3+1,none⟩=some v1/\ w.cell? ⟨b,off+i*3+2,none⟩=some v2/\ T.In w ts[i] (.agg #[v0,v1,v2])
 | [],_,_,_,_,h=>absurd h (by simp)
 |t::r,b,off,h,0,_=>by
   unfold T.InAll at h
   simpa using h.1
 |t::r,b,off,h,i+1,hi=>by
   unfold T.InAll at h
   have:=T.InAll.at h.2 i (by simpa using hi)
   rw[show off+3+i*3=off+(i+1)*3 by omega]at this
   simpa using this
theorem T.InAll.of {w:World}:∀ {ts:List T} {b off:Nat},(∀(i:Nat) (h:i<ts.length),∃v0 v1 v2:Value,w.cell? ⟨b,off+i*3,none⟩=some v0/\ w.cell? ⟨b,off+i*3+1,none⟩=some v1/\ w.cell? ⟨b,off+i*3+2,none⟩=some v2/\ T.In w ts[i] (.agg #[v0,v1,v2]))->T.InAll w ts b off
 | [],_,_,_=>by
   unfold T.InAll
   trivial
 |t::r,b,off,h=>by
   unfold T.InAll
   refine⟨by
    have h0:=h 0 (by simp)
    rw[List.getElem_cons_zero,Nat.zero_mul,Nat.add_zero]at h0
    exact h0,T.InAll.of fun i hi=> ?_⟩
   have:=h (i+1) (by simpa using hi)
   rw[show off+(i+1)*3=off+3+i*3 by omega]at this
   simpa using this
theorem T.In.below {w w':World} (hb:Below w.heap.size w w') (t:T):∀ {v:Value},t.In w v->t.In w' v:=by
 refine T.all (p:=fun t=>∀ {v:Value},t.In w v->t.In w' v) ?_ t
 intro tag body kids ih v h
 unfold T.In at h⊢
 obtain⟨A,n,c,K,m,d,rfl,hw,hr,hn,hc,hm,hm',hk⟩:=h
 refine⟨A,n,c,K,m,d,rfl,hw,hr.below hb,hn,hc,hm,hm',fun h0=> ?_⟩
 obtain⟨b,off,e,hlt,ha⟩:=hk h0
 refine⟨b,off,e,Nat.lt_of_lt_of_le hlt hb.size,T.InAll.of fun i hi=> ?_⟩
 obtain⟨v0,v1,v2,h0,h1,h2,h3⟩:=ha.at i hi
 exact⟨v0,v1,v2,(hb.cell (p:=⟨b,off+i*3,none⟩) hlt).trans h0,(hb.cell (p:=⟨b,off+i*3+1,none⟩) hlt).trans h1,(hb.cell (p:=⟨b,off+i*3+2,none⟩) hlt).trans h2,ih _ (List.getElem_mem hi) h3⟩
def T.tag:T->Int| .node t _ _=>t
def T.body:T->List Int| .node _ b _=>b
def T.kids:T->List T| .node _ _ k=>k
theorem T.each {p:T->Prop} (h:∀t,(∀k∈t.kids,p k)->p t) (t:T):p t:=T.all (fun tag body kids ih=>h (.node tag body kids) ih) t
theorem T.In.open {w:World} {t:T} {v:Value} (h:t.In w v):∃(A:Option Addr) (n c:Nat) (K:Option Addr) (m d:Nat),v= .agg #[.int .i64 t.tag,.slice A n c,.slice K m d]/\ (Lit.int .i64 t.tag).wf=true/\ Row w A n t.body/\ n<=maxLen/\ (A=none->c=0)/\ t.kids.length=m/\ (m<=maxLen/\ n<=c/\ m<=d)/\
 (∀i,i<m->∃b off,K=some ⟨b,off,none⟩/\ b<w.heap.size/\ ∃v0 v1 v2:Value,w.cell? ⟨b,off+i*3,none⟩=some v0/\ w.cell? ⟨b,off+i*3+1,none⟩=some v1/\ w.cell? ⟨b,off+i*3+2,none⟩=some v2/\ (t.kids[i]?.getD (.node 0 [] [])).In w (.agg #[v0,v1,v2])):=by
 obtain⟨tag,body,kids⟩:=t
 unfold T.In at h
 obtain⟨A,n,c,K,m,d,rfl,hw,hr,hn,hc,hm,hm',hk⟩:=h
 refine⟨A,n,c,K,m,d,rfl,hw,hr,hn,hc,hm,hm',fun i hi=> ?_⟩
 obtain⟨b,off,e,hlt,ha⟩:=hk (by omega)
 have hi':i<kids.length:=by omega
 obtain⟨v0,v1,v2,h⟩:=ha.at i hi'
 refine⟨b,off,e,hlt,v0,v1,v2,?_⟩
 simp only[T.kids,List.getElem?_eq_getElem hi',Option.getD_some]
 exact h
theorem T.In.form {w:World} {t:T} {v0 v1 v2:Value} (h:t.In w (.agg #[v0,v1,v2])):∃(z:Int) (A:Option Addr) (n c:Nat) (K:Option Addr) (m d:Nat),v0= .int .i64 z/\ v1= .slice A n c/\ v2= .slice K m d:=by
 obtain⟨A,n,c,K,m,d,e,_⟩:=h.open
 simp only[Value.agg.injEq]at e
 have e':=congrArg Array.toList e
 simp only[List.cons.injEq,and_true]at e'
 exact⟨_,A,n,c,K,m,d,e'.1,e'.2.1,e'.2.2⟩
structure Box (w wr:World) (g:Nat) (t:T) (A:Option Addr) (n c:Nat) (K:Option Addr) (m d:Nat):Prop where
 base:w.heap.size<=g
 blk:Blk wr g 30 #[.int .i64 t.tag,.slice A n c,.slice K m d]
 below:Below w.heap.size w wr
 has:t.In wr (.agg #[.int .i64 t.tag,.slice A n c,.slice K m d])
theorem Box.start {w:World} {t:T} {A:Option Addr} {n c:Nat} {K:Option Addr} {m d:Nat} (h:t.In w (.agg #[.int .i64 t.tag,.slice A n c,.slice K m d])):Box w (w.alloc (.cells #[.int .i64 t.tag,.slice A n c,.slice K m d] 30)) w.heap.size t A n c K m d:=
 ⟨Nat.le_refl _,Blk.new _ _ _,(Below.refl _ _).alloc (Nat.le_refl _) _,T.In.below ((Below.refl _ _).alloc (Nat.le_refl _) _) t h⟩
theorem Box.go {w wr w':World} {g:Nat} {t:T} {A:Option Addr} {n c:Nat} {K:Option Addr} {m d:Nat} (h:Box w wr g t A n c K m d) (hb:Below wr.heap.size wr w'):Box w w' g t A n c K m d:=
 ⟨h.base,h.blk.below hb h.blk.lt,Below.step h.below hb,T.In.below hb t h.has⟩
theorem Box.cells {w wr:World} {g:Nat} {t:T} {A:Option Addr} {n c:Nat} {K:Option Addr} {m d:Nat} (h:Box w wr g t A n c K m d):wr.cell? ⟨g,0,none⟩=some (.int .i64 t.tag)/\ wr.cell? ⟨g,1,none⟩=some (.slice A n c)/\ wr.cell? ⟨g,2,none⟩=some (.slice K m d):=
 ⟨h.blk.cell 0,h.blk.cell 1,h.blk.cell 2⟩
theorem Box.kid {w wr:World} {g:Nat} {t:T} {A:Option Addr} {n c:Nat} {K:Option Addr} {m d:Nat} (h:Box w wr g t A n c K m d) (i:Nat) (hi:i<m):∃(k:T) (b off:Nat) (z:Int) (A':Option Addr) (n' c':Nat) (K':Option Addr) (m' d':Nat),t.kids[i]?=some k/\ K=some ⟨b,off,none⟩/\
 wr.cell? ⟨b,off+i*3,none⟩=some (.int .i64 z)/\ wr.cell? ⟨b,off+i*3+1,none⟩=some (.slice A' n' c')/\ wr.cell? ⟨b,off+i*3+2,none⟩=some (.slice K' m' d')/\ k.In wr (.agg #[.int .i64 z,.slice A' n' c',.slice K' m' d']):=by
 obtain⟨A1,n1,c1,K1,m1,d1,e,_,_,_,_,hm,_,hk⟩:=h.has.open
 simp only[Value.agg.injEq]at e
 have e':=congrArg Array.toList e
 simp only[List.cons.injEq,and_true,Value.slice.injEq,true_and]at e'
 obtain⟨⟨rfl,rfl,rfl⟩,rfl,rfl,rfl⟩:=e'
 obtain⟨b,off,rfl,hb,v0,v1,v2,h0,h1,h2,h3⟩:=hk i hi
 obtain⟨z,A',n',c',K',m',d',rfl,rfl,rfl⟩:=h3.form
 have hi':i<t.kids.length:=by omega
 rw[List.getElem?_eq_getElem hi',Option.getD_some]at h3
 exact⟨t.kids[i],b,off,z,A',n',c',K',m',d',List.getElem?_eq_getElem hi',rfl,h0,h1,h2,h3⟩
end Go.Proofs.YtpgahclpbdpbnaaGreatDoor
namespace Go.Proofs.YtpgahclpbdpbnaaGreatDoor
open Go.RowKit
mutual
def T.InP (P:Nat->Prop) (w:World):T->Value->Prop
 | .node tag body kids,v=>∃(A:Option Addr) (n c:Nat) (K:Option Addr) (m d:Nat),v= .agg #[.int .i64 tag,.slice A n c,.slice K m d]/\ (Lit.int .i64 tag).wf=true/\ Row w A n body/\ n<=maxLen/\ (A=none->c=0)/\ kids.length=m/\ (m<=maxLen/\ n<=c/\ m<=d)/\
    (0<n->∃b off,A=some ⟨b,off,none⟩/\ P b)/\ (0<m->∃b off,K=some ⟨b,off,none⟩/\ b<w.heap.size/\ P b/\ T.InPAll P w kids b off)
def T.InPAll (P:Nat->Prop) (w:World):List T->Nat->Nat->Prop
 | [],_,_=>True
 |t::r,b,off=>(∃v0 v1 v2:Value,w.cell? ⟨b,off,none⟩=some v0/\ w.cell? ⟨b,off+1,none⟩=some v1/\ w.cell? ⟨b,off+2,none⟩=some v2/\ T.InP P w t (.agg #[v0,v1,v2]))/\ T.InPAll P w r b (off+3)
end
theorem T.InPAll.at {P:Nat->Prop} {w:World}:∀ {ts:List T} {b off:Nat},T.InPAll P w ts b off->∀(i:Nat) (h:i<ts.length),∃v0 v1 v2:Value,w.cell? ⟨b,off+i*3,none⟩=some v0/\ w.cell? ⟨b,off+i*3+1,none⟩=some v1/\ w.cell? ⟨b,off+i*3+2,none⟩=some v2/\ T.InP P w ts[i] (.agg #[v0,v1,v2])
 | [],_,_,_,_,h=>absurd h (by simp)
 |t::r,b,off,h,0,_=>by
   unfold T.InPAll at h
   simpa using h.1
 |t::r,b,off,h,i+1,hi=>by
   unfold T.InPAll at h
   have:=T.InPAll.at h.2 i (by simpa using hi)
   rw[show off+3+i*3=off+(i+1)*3 by omega]at this
   simpa using this
theorem T.InPAll.of {P:Nat->Prop} {w:World}:∀ {ts:List T} {b off:Nat},(∀(i:Nat) (h:i<ts.length),∃v0 v1 v2:Value,w.cell? ⟨b,off+i*3,none⟩=some v0/\ w.cell? ⟨b,off+i*3+1,none⟩=some v1/\ w.cell? ⟨b,off+i*3+2,none⟩=some v2/\ T.InP P w ts[i] (.agg #[v0,v1,v2]))->T.InPAll P w ts b off
 | [],_,_,_=>by
   unfold T.InPAll
   trivial
 |t::r,b,off,h=>by
   unfold T.InPAll
   refine⟨by
    have h0:=h 0 (by simp)
    rw[List.getElem_cons_zero,Nat.zero_mul,Nat.add_zero]at h0
    exact h0,T.InPAll.of fun i hi=> ?_⟩
   have:=h (i+1) (by simpa using hi)
   rw[show off+(i+1)*3=off+3+i*3 by omega]at this
   simpa using this
theorem T.InP.keep {P Q:Nat->Prop} {w w':World} (hP:∀b,b<w.heap.size->P b->Q b/\ w'.heap[b]?=w.heap[b]?) (hs:w.heap.size<=w'.heap.size) (t:T):∀ {v:Value},t.InP P w v->t.InP Q w' v:=by
 refine T.all (p:=fun t=>∀ {v:Value},t.InP P w v->t.InP Q w' v) ?_ t
 intro tag body kids ih v h
 unfold T.InP at h⊢
 obtain⟨A,n,c,K,m,d,rfl,hw,hr,hn,hc,hm,hm',hp,hk⟩:=h
 refine⟨A,n,c,K,m,d,rfl,hw,⟨hr.1,hr.2.1,fun h0=> ?_⟩,hn,hc,hm,hm',fun h0=> ?_,fun h0=> ?_⟩
 · obtain⟨b,off,e,hb,hcell⟩:=hr.2.2 h0
   obtain⟨b',off',e',hb'⟩:=hp h0
   rw[e]at e'
   obtain⟨rfl,rfl⟩:b=b'/\ off=off':=by simpa using e'
   refine⟨b,off,e,by omega,fun i hi=> ?_⟩
   rw[<-hcell i hi]
   simp only[World.cell?,(hP b hb hb').2]
 · obtain⟨b,off,e,hb,_⟩:=hr.2.2 h0
   obtain⟨b',off',e',hb'⟩:=hp h0
   rw[e]at e'
   obtain⟨rfl,rfl⟩:b=b'/\ off=off':=by simpa using e'
   exact⟨b,off,e,(hP b hb hb').1⟩
 · obtain⟨b,off,e,hlt,hb,ha⟩:=hk h0
   refine⟨b,off,e,by omega,(hP b hlt hb).1,T.InPAll.of fun i hi=> ?_⟩
   obtain⟨v0,v1,v2,h0,h1,h2,h3⟩:=ha.at i hi
   refine⟨v0,v1,v2,?_,?_,?_,ih _ (List.getElem_mem hi) h3⟩
   · rw[<-h0]
     simp only[World.cell?,(hP b hlt hb).2]
   · rw[<-h1]
     simp only[World.cell?,(hP b hlt hb).2]
   · rw[<-h2]
     simp only[World.cell?,(hP b hlt hb).2]
theorem T.InP.in {P:Nat->Prop} {w:World} (t:T):∀ {v:Value},t.InP P w v->t.In w v:=by
 refine T.all (p:=fun t=>∀ {v:Value},t.InP P w v->t.In w v) ?_ t
 intro tag body kids ih v h
 unfold T.InP at h
 unfold T.In
 obtain⟨A,n,c,K,m,d,rfl,hw,hr,hn,hc,hm,hm',hp,hk⟩:=h
 refine⟨A,n,c,K,m,d,rfl,hw,hr,hn,hc,hm,hm',fun h0=> ?_⟩
 obtain⟨b,off,e,hlt,hb,ha⟩:=hk h0
 refine⟨b,off,e,hlt,T.InAll.of fun i hi=> ?_⟩
 obtain⟨v0,v1,v2,h0,h1,h2,h3⟩:=ha.at i hi
 exact⟨v0,v1,v2,h0,h1,h2,ih _ (List.getElem_mem hi) h3⟩
theorem T.InP.below {P Q:Nat->Prop} {w w':World} (hb:Below w.heap.size w w') (hq:∀b,P b->Q b) (t:T) {v:Value} (h:t.InP P w v):t.InP Q w' v:=
 T.InP.keep (fun b hlt hp=>⟨hq b hp,hb.block b hlt⟩) hb.size t h
theorem T.InP.form {P:Nat->Prop} {w:World} {t:T} {v:Value} (h:t.InP P w v):∃(A:Option Addr) (n c:Nat) (K:Option Addr) (m d:Nat),v= .agg #[.int .i64 t.tag,.slice A n c,.slice K m d]:=by
 obtain⟨A,n,c,K,m,d,e,_⟩:=(T.InP.in t h).open
 exact⟨A,n,c,K,m,d,e⟩
theorem Tryz.infoNode:(Tryz.prog.info? 30).map (fun i=>(i.zero,i.size,i.bytes))=some (some (.agg #[.int .i64 0,.slice none 0 0,.slice none 0 0]),3,56):=by kernel_rfl
def zoe (g:Nat) (V:Value) (b:Nat):Prop:=g<b/\ V.ownBlock≠some b
def NOut (W0 wr:World) (g:Nat) (V:Value) (ks:List T):Prop:=
 Below W0.heap.size W0 wr/\ ∃xs:List Value,wr.ownsRow W0.heap.size 30 3 V ks.length xs/\
  ∀i (h:i<ks.length),∃v0 v1 v2:Value,xs[i*3]?=some v0/\ xs[i*3+1]?=some v1/\ xs[i*3+2]?=some v2/\ (ks[i]).InP (zoe g V) wr (.agg #[v0,v1,v2])
theorem NOut.start {W0 wr:World} (hb:Below W0.heap.size W0 wr) (g:Nat):NOut W0 wr g (.slice none 0 0) []:=
 ⟨hb,[],World.ownsRow_nil _ _ _ _,fun i h=>absurd h (by simp)⟩
theorem NOut.below {W0 wr w':World} {g:Nat} {V:Value} {ks:List T} (h:NOut W0 wr g V ks) (hb:Below wr.heap.size wr w'):NOut W0 w' g V ks:=by
 obtain⟨h1,xs,h2,h3⟩:=h
 refine⟨Below.trans h1 (hb.mono h1.size),xs,⟨h2.1,?_⟩,fun i hi=> ?_⟩
 · rcases h2.2 with h'|⟨g,cap,cur,e,h1,h2,h3⟩
   · exact .inl h'
   · exact .inr ⟨g,cap,cur,e,h1,(hb.block g (Array.getElem?_eq_some_iff.1 h2).1).trans h2,h3⟩
 · obtain⟨v0,v1,v2,e0,e1,e2,hin⟩:=h3 i hi
   exact⟨v0,v1,v2,e0,e1,e2,T.InP.below hb (fun _ h=>h) _ hin⟩
theorem NOut.store {W0 wr:World} {g:Nat} {V:Value} {ks:List T} (h:NOut W0 wr g V ks) (hg:W0.heap.size<=g) (hV:V.ownBlock≠some g) (j:Nat) (v:Value):NOut W0 (wr.setCell ⟨g,j,none⟩ v) g V ks:=by
 obtain⟨h1,xs,h2,h3⟩:=h
 refine⟨h1.setCell (by show W0.heap.size<=g;exact hg) _,xs,⟨h2.1,?_⟩,fun i hi=> ?_⟩
 · rcases h2.2 with h'|⟨g',cap,cur,e,h1,h2,h3⟩
   · exact .inl h'
   · refine .inr ⟨g',cap,cur,e,h1,?_,h3⟩
     rw[<-h2]
     exact heap_setCell_other wr ⟨g,j,none⟩ g' v (fun he=>hV (by have he':g'=g:=he;rw[e,he'];rfl))
 · obtain⟨v0,v1,v2,e0,e1,e2,hin⟩:=h3 i hi
   refine⟨v0,v1,v2,e0,e1,e2,T.InP.keep (fun b hb hp=>⟨hp,?_⟩) (by simp) _ hin⟩
   exact heap_setCell_other wr ⟨g,j,none⟩ b v (fun he=>by
    have he':b=g:=he
    have:=hp.1
    omega)
theorem NOut.form {W0 wr:World} {g:Nat} {V:Value} {ks:List T} (h:NOut W0 wr g V ks):∃(K:Option Addr) (d:Nat),V= .slice K ks.length d:=by
 obtain⟨_,xs,h2,_⟩:=h
 rcases h2.2 with⟨rfl,h0⟩|⟨g',cap,cur,e,_⟩
 · exact⟨none,0,by rw[h0]⟩
 · exact⟨_,cap,e⟩
theorem zg7 {ops:Array Oper} {rest:List Oper} {o:Oper} {a:Act} {Q:Exit->Act->World->Prop} {W0 wr:World} {g:Nat} {V:Value} {ks:List T} {t:T} {v0 v1 v2:Value} (hgd:o.guard=none) (x y:Operand)
 (hop:o.op= .call {callee:= .builtin .append,args:=#[x,y],argTypes:=#[28,28]}) (hs:a.eval x=V) (hout:NOut W0 wr g V ks) (hin:t.InP (zoe g V) wr (.agg #[v0,v1,v2]))
 (H:Nat) (hH:wr.heap.size=H) (hx:a.eval y= .slice (some ⟨H,0,none⟩) 1 1) (hl:ks.length+1<=100000)
 (h:∀V' w',NOut W0 w' g V' (ks++[t])->(V'.ownBlock=V.ownBlock \/V'.ownBlock=some (wr.heap.size+1))->(∀b,b<wr.heap.size->V.ownBlock≠some b->w'.heap[b]?=wr.heap[b]?)->Below W0.heap.size wr w'->wpList Tryz.prog ops Q rest (a.put o.dst V') w'):
 wpList Tryz.prog ops Q (o::rest) a (wr.alloc (.cells #[v0,v1,v2] 30)):=by
 subst hH
 obtain⟨i0,hi5,hz0,hz1,hz2⟩:=info_parts Tryz.infoNode
 obtain⟨hb0,xs,hown,hks⟩:=hout
 have hown2:=hown.alloc (.cells #[v0,v1,v2] 30)
 have hsz:(wr.alloc (.cells #[v0,v1,v2] 30)).heap.size=wr.heap.size+1:=by simp
 obtain⟨A,n,c,K,m,d,e⟩:=hin.form
 simp only[Value.agg.injEq]at e
 have e':=congrArg Array.toList e
 simp only[List.cons.injEq,and_true]at e'
 obtain⟨rfl,rfl,rfl⟩:=e'
 refine wpList_append_own_at _ hgd x y 28 hop W0.heap.size 30 i0 _ 3 56 Tryz.underlying28 hi5 hz0 hz1 hz2 rfl (by decide) V ks.length xs hs hown2 ⟨wr.heap.size,0,none⟩ 1 1 [.int .i64 t.tag,.slice A n c,.slice K m d] hx rfl ?_ ?_ (by unfold maxLen;omega) (by omega) (by have:=hb0.size;omega) ?_
 · intro j u hu
   have e0:=heap_alloc_new wr (.cells #[.int .i64 t.tag,.slice A n c,.slice K m d] 30)
   rcases j with _|_|_|j
   · obtain rfl:Value.int .i64 t.tag=u:=by simpa using hu
     simp only[Addr.add_lit,World.cell?,e0]
     rfl
   · obtain rfl:Value.slice A n c=u:=by simpa using hu
     simp only[Addr.add_lit,World.cell?,e0]
     rfl
   · obtain rfl:Value.slice K m d=u:=by simpa using hu
     simp only[Addr.add_lit,World.cell?,e0]
     rfl
   · simp at hu
 · intro u hu
   simp only[List.mem_cons,List.mem_nil_iff,or_false]at hu
   rcases hu with rfl|rfl|rfl<;>rfl
 · intro V' w' h1 hg1 _ hat
   have hkeep:∀b,b<wr.heap.size->V.ownBlock≠some b->w'.heap[b]?=wr.heap[b]?:=fun b hb hne=>
    (hg1.block b (by omega) (fun e=>hne e.symm)).trans (Below.heap_alloc wr _ b hb)
   have hAp:∀b,b<wr.heap.size->zoe g V b->zoe g V' b/\ w'.heap[b]?=wr.heap[b]?:=by
    intro b hb hp
    refine⟨⟨hp.1,?_⟩,hkeep b hb hp.2⟩
    rcases hat with h'|h'
    · rw[h']
      exact hp.2
    · rw[h',hsz]
      intro e
      injection e with e
      omega
   have hsz2:wr.heap.size<=w'.heap.size:=by have:=hg1.size;omega
   have hB:Below W0.heap.size wr w':=((Below.refl _ _).alloc hb0.size (.cells #[.int .i64 t.tag,.slice A n c,.slice K m d] 30)).grown hg1 (by have:=hb0.size;omega) (fun k hk=>(hown2.lt k hk).1)
   refine h V' w' ⟨hb0.trans hB,xs++[.int .i64 t.tag,.slice A n c,.slice K m d],by rw[List.length_append];exact h1,fun i hi=> ?_⟩ ?_ hkeep hB
   · have hxl:xs.length=ks.length*3:=hown.1
     rcases Nat.lt_or_ge i ks.length with hlt|hge
     · obtain⟨u0,u1,u2,e0,e1,e2,hin'⟩:=hks i hlt
       refine⟨u0,u1,u2,?_,?_,?_,?_⟩
       · rw[List.getElem?_append_left (by omega)];exact e0
       · rw[List.getElem?_append_left (by omega)];exact e1
       · rw[List.getElem?_append_left (by omega)];exact e2
       · rw[List.getElem_append_left hlt]
         exact T.InP.keep hAp hsz2 _ hin'
     · obtain rfl:i=ks.length:=by simp at hi;omega
       refine⟨.int .i64 t.tag,.slice A n c,.slice K m d,?_,?_,?_,?_⟩
       · rw[List.getElem?_append_right (by omega),show ks.length*3-xs.length=0 by omega];rfl
       · rw[List.getElem?_append_right (by omega),show ks.length*3+1-xs.length=1 by omega];rfl
       · rw[List.getElem?_append_right (by omega),show ks.length*3+2-xs.length=2 by omega];rfl
       · rw[List.getElem_append_right (Nat.le_refl _)]
         simp only[Nat.sub_self,List.getElem_singleton]
         exact T.InP.keep hAp hsz2 _ hin
   · rw[<-hsz]
     exact hat
theorem NOut.done {W0 wr:World} {g:Nat} {V:Value} {ks:List T} (h:NOut W0 wr g V ks) (hg:W0.heap.size<=g) {z:Int} (hz:(Lit.int .i64 z).wf=true):(T.node z [] ks).InP (W0.heap.size<= ·) wr (.agg #[.int .i64 z,.slice none 0 0,V]):=by
 obtain⟨hb,xs,hown,hks⟩:=h
 unfold T.InP
 have hxl:xs.length=ks.length*3:=hown.1
 rcases hown.2 with⟨rfl,h0⟩|⟨g',cap,cur,rfl,h1,h2,h3,h4,h5⟩
 · have:ks=[]:=List.eq_nil_of_length_eq_zero h0
   subst this
   exact⟨none,0,0,none,0,0,rfl,hz,Row.nil _ _,Nat.zero_le _,fun _=>rfl,rfl,⟨Nat.zero_le _,Nat.le_refl _,Nat.le_refl _⟩,fun h=>absurd h (by omega),fun h=>absurd h (by omega)⟩
 · refine⟨none,0,0,some ⟨g',0,none⟩,ks.length,cap,rfl,hz,Row.nil _ _,Nat.zero_le _,fun _=>rfl,rfl,⟨Nat.le_trans h3 h4,Nat.le_refl _,h3⟩,fun h=>absurd h (by omega),fun _=>⟨g',0,rfl,(Array.getElem?_eq_some_iff.1 h2).1,h1,T.InPAll.of fun i hi=> ?_⟩⟩
   obtain⟨u0,u1,u2,e0,e1,e2,hin'⟩:=hks i hi
   refine⟨u0,u1,u2,?_,?_,?_,T.InP.keep (fun b _ hp=>⟨by have:=hp.1;omega,rfl⟩) (Nat.le_refl _) _ hin'⟩
   · rw[Nat.zero_add,hown.cellAt _ (by omega)];exact e0
   · rw[Nat.zero_add,hown.cellAt _ (by omega)];exact e1
   · rw[Nat.zero_add,hown.cellAt _ (by omega)];exact e2
end Go.Proofs.YtpgahclpbdpbnaaGreatDoor
