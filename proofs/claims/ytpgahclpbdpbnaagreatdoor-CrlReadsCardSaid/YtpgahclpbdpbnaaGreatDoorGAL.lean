import Derived.Test.YtpgahclpbdpbnaaGreatDoorGAK
import Derived.Lib.BitFns
import Derived.Shelf.Small.Bits
import Derived.Test.YtpgahclpbdpbnaaGreatDoorProg
import Derived.Test.YtpgahclpbdpbnaaGreatDoorGAA
import Derived.Laws.BitsLemmas
set_option maxHeartbeats 1000000
set_option maxRecDepth 100000
namespace Go.Proofs.YtpgahclpbdpbnaaGreatDoor
open Go.RowKit
set_option linter.unusedVariables false
theorem zd8:bitN 0=0:=by rw[bitN];rfl
theorem zd9 {n:Nat} (h:n≠0):bitN n=bitN (n/2)+1:=by rw[bitN,dif_neg h]
theorem ze2 (n:Nat):0<=bitN n:=by
 induction n using Nat.strongRecOn with
 |ind n ih=>
   by_cases h:n=0
   · rw[h,zd8];omega
   · rw[zd9 h]
     have:=ih (n/2) (by omega)
     omega
theorem zgI {n:Nat} (h:n≠0):1<=bitN n:=by
 rw[zd9 h]
 have:=ze2 (n/2)
 omega
theorem zea:∀(k n:Nat),n<2^k->bitN n<=k
 |0,n,h=>by
   obtain rfl:n=0:=by simpa using h
   rw[zd8];simp
 |k+1,n,h=>by
   by_cases h0:n=0
   · rw[h0,zd8];omega
   · rw[zd9 h0]
     have:=zea k (n/2) (by rw[Nat.pow_succ]at h;omega)
     omega
theorem zpO:∀(k n:Nat),2^k<=n->(k:Int)+1<=bitN n
 |0,n,h=>by
   have:=zgI (n:=n) (by simp at h;omega)
   simpa using this
 |k+1,n,h=>by
   rw[Nat.pow_succ]at h
   have p:0<2^k:=Nat.pow_pos (by decide)
   rw[zd9 (by omega)]
   have:=zpO k (n/2) (by omega)
   omega
theorem zpP (n:Nat):n<2^(bitN n).toNat:=by
 rcases Nat.lt_or_ge n (2^(bitN n).toNat)with h|h
 · exact h
 · have:=zpO _ _ h
   have:=ze2 n
   omega
theorem zsA {n:Nat} (h:n≠0):2^((bitN n).toNat-1)<=n:=by
 rcases Nat.lt_or_ge n (2^((bitN n).toNat-1))with h1|h1
 · have:=zea _ _ h1
   have:=zgI h
   omega
 · exact h1
theorem zkp (n:Nat):n<2^64->(Lib.bitLen n:Int)=bitN n:=by
 induction n using Nat.strongRecOn with
 |ind n ih=>
   intro hn
   by_cases h:n=0
   · subst h
     rw[zd8]
     rfl
   · rw[Lib.bitLen_half n h hn,zd9 h,<-ih (n/2) (by omega) (by omega)]
     omega
theorem zda (x:Int):0<=bitZ x:=ze2 _
theorem zsB {x:Int} (h0:0<=x) (h1:x<=4294967295):((Lib.bitLen x.toNat:Nat):Int)=bitZ x:=zkp _ (by omega)
theorem zfY {l:List Int} (hl:zay l):bitZ (valZ l)<=32*(l.length:Int):=by
 have h:=zdN hl
 have h0:=zaA hl
 rw[zog]at h
 have:=zea (32*l.length) (valZ l).toNat (by
  have e:((2^(32*l.length):Nat):Int)=(2:Int)^(32*l.length):=by exact_mod_cast rfl
  omega)
 unfold bitZ
 omega
theorem zgJ {n:Int} (h0:0<=n) (h:(limZ n).length=0):n=0:=by
 have:=zca h0
 rw[List.eq_nil_of_length_eq_zero h]at this
 exact this.symm
theorem zhf {n:Int} {k:Nat} (h:(limZ n).length=k+1):(limZ n)[k]?.getD 0≠0:=by
 refine zdO n _ ?_
 rw[List.getLast?_eq_getElem?,h,show k+1-1=k by omega,List.getElem?_eq_getElem (by omega)]
 rfl
theorem zm2 {n:Int} {k:Nat} (h0:0<=n) (h:(limZ n).length=k+1):bitZ n=32*(k:Int)+bitZ ((limZ n)[k]?.getD 0):=by
 have:=zoh (zbo n) h (zhf h)
 rwa[zca h0]at this
theorem zfq {n:Nat} (h:n≠0):byN n=byN (n/256)++[((n%256:Nat):Int)]:=by rw[byN,dif_neg h]
theorem zdh:byN 0=[]:=by rw[byN];rfl
theorem zpQ (n:Nat):((byN n).length:Int)=(bitN n+7)/8:=by
 induction n using Nat.strongRecOn with
 |ind n ih=>
   by_cases h:n=0
   · subst h
     rw[zdh,zd8]
     rfl
   · rw[zfq h,List.length_append,List.length_singleton]
     have e:=ih (n/256) (by omega)
     by_cases h2:n/256=0
     · rw[h2,zdh]
       have:=zgI h
       have:=zea 8 n (by omega)
       simp
       omega
     · have hb:bitN n=bitN (n/256)+8:=by
        have:=zlS 8 (x:=((n/256:Nat):Int)) (y:=((n%256:Nat):Int)) (by omega) (by omega) (by omega)
        rw[show((n%256:Nat):Int)+2^8*((n/256:Nat):Int)=(n:Int)by omega]at this
        exact this
       rw[hb]
       omega
theorem zvr (n:Nat):∀i,i<(byN n).length->(byN n)[(byN n).length-1-i]?.getD 0=((n/256^i%256:Nat):Int):=by
 induction n using Nat.strongRecOn with
 |ind n ih=>
   intro i hi
   by_cases h:n=0
   · subst h
     rw[zdh]at hi
     simp at hi
   · rw[zfq h]at hi⊢
     rw[List.length_append,List.length_singleton]at hi⊢
     cases i with
     |zero=>
       rw[List.getElem?_append_right (by omega),show(byN (n/256)).length+1-1-0-(byN (n/256)).length=0 by omega]
       simp
     |succ i=>
       rw[show(byN (n/256)).length+1-1-(i+1)=(byN (n/256)).length-1-i by omega,List.getElem?_append_left (by omega),ih (n/256) (by omega) i (by omega),Nat.pow_succ,Nat.mul_comm (256^i) 256,Nat.div_div_eq_div_mul]
theorem zut (v:Int):((byZ v).length:Int)=(bitZ v+7)/8:=zpQ _
theorem zvs {v:Int} (hv:0<=v) {i:Nat} (hi:i<(byZ v).length):(byZ v)[(byZ v).length-1-i]?.getD 0=v/256^i%256:=by
 obtain⟨n,rfl⟩:=Int.eq_ofNat_of_zero_le hv
 have:=zvr n i hi
 show(byN n)[(byN n).length-1-i]?.getD 0=_
 rw[this]
 simp
theorem zpR {l:List Int} (hl:zay l) (q r:Nat) (hr:r<4):valZ l/256^(4*q+r)%256=l[q]?.getD 0/256^r%256:=by
 have e:=za0 l q
 rw[zaN l q]at e
 have t:=zcg hl q
 have p:=zaM q
 rw[zkn,<-Int.ediv_ediv_of_nonneg (by omega)]
 have h1:valZ l/4294967296^q=l[q]?.getD 0+4294967296*valZ (l.drop (q+1)):=by
  rw[e,Int.add_mul_ediv_left _ _ (by omega),Int.ediv_eq_zero_of_lt t.1 t.2,Int.zero_add]
 rw[h1]
 generalize valZ (l.drop (q+1))=R
 generalize l[q]?.getD 0=x
 obtain rfl|rfl|rfl|rfl:r=0 \/r=1 \/r=2 \/r=3:=by omega
 all_goals simp only[Int.reducePow]
 all_goals omega
theorem zuu (n:Nat):beV (byN n)=(n:Int):=by
 induction n using Nat.strongRecOn with
 |ind n ih=>
   by_cases h:n=0
   · subst h
     rw[zdh]
     rfl
   · rw[zfq h,zjk,ih (n/256) (by omega)]
     omega
theorem zlX {v:Int} (hv:0<=v):beV (byZ v)=v:=by
 unfold byZ
 rw[zuu]
 omega
theorem zsC {n:Nat} (h:n≠0):(byN n)[0]?.getD 0≠0:=by
 induction n using Nat.strongRecOn with
 |ind n ih=>
   rw[zfq h]
   by_cases h2:n/256=0
   · rw[h2,zdh]
     simp
     omega
   · have hne:byN (n/256)≠[]:=fun e=>h2 ((zlR _).1 e)
     have hl:=List.length_pos_iff.2 hne
     rw[List.getElem?_append_left hl]
     exact ih (n/256) (by omega) h2
theorem zm3 {v:Int} (h:(byZ v).length≠0):(byZ v)[0]?.getD 0≠0:=by
 refine zsC (fun e=>h ?_)
 unfold byZ
 rw[e,zdh]
 rfl
theorem zpS (zs:List Int) (hz:∀x∈zs,0<=x/\ x<=255):∃d,zs=List.replicate d 0++byZ (beV zs):=by
 have key:∀(m:Nat) (zs:List Int),zs.length=m->(∀x∈zs,0<=x/\ x<=255)->∃d,zs=List.replicate d 0++byZ (beV zs):=by
  intro m
  induction m with
  |zero=>
    intro zs hl _
    obtain rfl:=List.eq_nil_of_length_eq_zero hl
    exact⟨0,by simp[beV,byZ,zdh]⟩
  |succ m ih=>
    intro zs hl hz
    have hne:zs≠[]:=by intro e;rw[e]at hl;simp at hl
    obtain⟨ys,c,rfl⟩:∃ys c,zs=ys++[c]:=⟨zs.dropLast,zs.getLast hne,(List.dropLast_concat_getLast hne).symm⟩
    have hys:∀x∈ys,0<=x/\ x<=255:=fun x hx=>hz x (by simp[hx])
    have hc:=hz c (by simp)
    obtain⟨d,hd⟩:=ih ys (by simpa using hl) hys
    rw[zjk,zmW (zbt hys) hc.1 hc.2]
    by_cases h:0<(byZ (beV ys)).length \/0<c
    · rw[if_pos h]
      refine⟨d,?_⟩
      rw[<-List.append_assoc,<-hd]
    · rw[if_neg h]
      have h1:byZ (beV ys)=[]:=List.eq_nil_of_length_eq_zero (by omega)
      have h2:c=0:=by omega
      rw[h1,List.append_nil]at hd
      refine⟨d+1,?_⟩
      rw[h1,h2,List.append_nil,hd,List.replicate_succ']
 exact key _ zs rfl hz
end Go.Proofs.YtpgahclpbdpbnaaGreatDoor
namespace Go.Proofs
open Go.Shelf
def Tryz.lays128_ren:Go.Shelf.Ren:=⟨fun|128=>198|n=>n,fun|51=>22|3=>3|4=>4|46=>107|5=>5|9=>9|n=>n,fun|n=>n⟩
theorem Tryz.lays128:Go.Proofs.Lays.n128 Tryz.prog Tryz.lays128_ren:= {
 mixed:=by kernel_rfl
 f128:=Tryz.func198.trans (congrArg some (by kernel_rfl))
 t3:=Tryz.underlying3
 a3:=Tryz.isAgg3
 z3:=Tryz.sizeOf3
 v3:=Tryz.zeroValue3
 t4:=Tryz.underlying4
 a4:=Tryz.isAgg4
 z4:=Tryz.sizeOf4
 v4:=Tryz.zeroValue4
 t5:=Tryz.underlying5
 a5:=Tryz.isAgg5
 z5:=Tryz.sizeOf5
 v5:=Tryz.zeroValue5
 t9:=Tryz.underlying9
 a9:=Tryz.isAgg9
 z9:=Tryz.sizeOf9
 v9:=Tryz.zeroValue9
 t46:=Tryz.underlying107
 a46:=Tryz.isAgg107
 z46:=Tryz.sizeOf107
 v46:=Tryz.zeroValue107
 t51:=Tryz.underlying22
 a51:=Tryz.isAgg22
 z51:=Tryz.sizeOf22
 v51:=Tryz.zeroValue22}
theorem Tryz.bits_Len32 (x:Int) (w:World) (h0:0<=x) (h1:x<=4294967295):
 Calls Tryz.prog 198 #[.int .u32 x] w fun e w'=>e= .returned (.int .i64 (Lib.bitLen x.toNat))/\ w'=w:=Any.bits_Len32 Tryz.lays128 x w h0 h1
end Go.Proofs
namespace Go.Proofs.YtpgahclpbdpbnaaGreatDoor
open Go.RowKit
set_option linter.unusedVariables false
theorem zhg (a:Option Addr) (n ca:Nat) (zs:List Int) (w:World) (hr:zat w a n zs) (hca:n<=ca) (hn:n<=1000000) (hnil:a=none->ca=0):
 Calls Tryz.prog 159 #[.slice a n ca] w fun e w'=>e= .returned (.int .i64 (bitZ (valZ zs)))/\ w'=w:=by
 have NN:=zwd (zbg a n ca zs w hr hca hn hnil)
 have HN:=zwd hr.norm
 have V0:=zaA (zap hr)
 have ln:(limZ (valZ zs)).length<=n:=by have:=(zcn (zap hr)).1;have:=hr.1;omega
 have LN:=zwd (zbo (valZ zs))
 clear hr hnil
 generalize valZ zs=v at*
 go_enter Tryz.func159,Tryz.ntmps159
 go_wp2_with fail
 refine NN.out.mono ?_
 rintro e w2 ⟨rfl,rfl⟩
 by_cases h0:(limZ v).length=0
 · have e:=zgJ V0 h0
   have E:bitZ v=0:=by rw[e];exact zha
   rw[h0]
   clear NN HN
   go_wp2_with fail
   go_ret
   exact⟨by rw[E];rfl,rfl⟩
 · obtain⟨k,hk⟩:∃k,(limZ v).length=k+1:=⟨(limZ v).length-1,by omega⟩
   have B:=zm2 V0 hk
   rw[hk]at HN⊢
   obtain⟨b,off,rfl,hb,hc⟩:=HN.out.2.2 (by omega)
   have c0:=hc k (by omega)
   have xr:=LN.out.at k
   generalize(limZ v)[k]?.getD 0=x at*
   have L32:=zwd (Tryz.bits_Len32 x w2 xr.1 xr.2)
   rw[zsB xr.1 xr.2]at L32
   have xb:bitZ x<=32:=by
    have:=zea 32 x.toNat (by omega)
    exact this
   have x0:=zda x
   have t0:(((k+1:Nat):Int)==0)=false:=by simp;omega
   have w1:IntKind.i64.wrap (((k+1:Nat):Int)-1)=(k:Int):=by rw[show((k+1:Nat):Int)-1=(k:Int)by omega];exact IntWalk.i64_in _ (by omega)
   have w1':IntKind.i64.wrap ((k:Int)+1-1)=(k:Int):=by rw[show(k:Int)+1-1=(k:Int)by omega];exact IntWalk.i64_in _ (by omega)
   have w1'':IntKind.i64.wrap (k:Int)=(k:Int):=IntWalk.i64_in _ (by omega)
   have w2':IntKind.i64.wrap (32*(k:Int))=32*(k:Int):=IntWalk.i64_in _ (by omega)
   have w3:IntKind.i64.wrap (32*(k:Int)+bitZ x)=32*(k:Int)+bitZ x:=IntWalk.i64_in _ (by omega)
   have kI:(k:Int)<((k+1:Nat):Int):=by omega
   have kI':(k:Int)<(k:Int)+1:=by omega
   have kN:(0:Int)<=(k:Int):=by omega
   have BB:=zwd B
   clear NN HN hc hk B ln h0
   generalize bitZ x=y at*
   go_wp2_with fail
   refine L32.out.mono ?_
   rintro e w3 ⟨rfl,rfl⟩
   go_wp2_with fail
   go_ret
   exact⟨by rw[BB.out];rfl,rfl⟩
theorem zsD (a:Option Addr) (n ca:Nat) (zs:List Int) (w:World) (hr:zat w a n zs) (hca:n<=ca) (hn:n<=100000) (hnil:a=none->ca=0):
 Calls Tryz.prog 165 #[.slice a n ca] w fun e w'=>e= .returned (.int .i64 (bitZ (valZ zs)))/\ Below w.heap.size w w':=by
 have NN:=zwd (zcV a n ca zs w hr hca hn hnil)
 have V0:=zaA (zap hr)
 have ln:(limZ (valZ zs)).length<=n:=by have:=(zcn (zap hr)).1;have:=hr.1;omega
 have LN:=zwd (zbo (valZ zs))
 clear hr hnil
 generalize valZ zs=v at*
 go_enter Tryz.func165,Tryz.ntmps165
 go_wp2_with fail
 refine NN.out.mono ?_
 rintro e w2 ⟨a',c,rfl,hrow,hnil,hle,hbel⟩
 have HR:=zwd hrow
 have HB:=zwd hbel
 clear hrow hnil hbel NN
 by_cases h0:(limZ v).length=0
 · have e:=zgJ V0 h0
   have E:bitZ v=0:=by rw[e];exact zha
   rw[h0]
   go_wp2_with fail
   go_ret
   exact⟨by rw[E];rfl,HB.out⟩
 · obtain⟨k,hk⟩:∃k,(limZ v).length=k+1:=⟨(limZ v).length-1,by omega⟩
   have B:=zm2 V0 hk
   rw[hk]at HR⊢
   obtain⟨b,off,rfl,hb,hc⟩:=HR.out.2.2 (by omega)
   have c0:=hc k (by omega)
   have xr:=LN.out.at k
   generalize(limZ v)[k]?.getD 0=x at*
   have t0:(((k+1:Nat):Int)==0)=false:=by simp;omega
   have w1:IntKind.i64.wrap (((k+1:Nat):Int)-1)=(k:Int):=by rw[show((k+1:Nat):Int)-1=(k:Int)by omega];exact IntWalk.i64_in _ (by omega)
   have w1':IntKind.i64.wrap ((k:Int)+1-1)=(k:Int):=by rw[show(k:Int)+1-1=(k:Int)by omega];exact IntWalk.i64_in _ (by omega)
   have w1'':IntKind.i64.wrap (k:Int)=(k:Int):=IntWalk.i64_in _ (by omega)
   have w2':IntKind.i64.wrap (32*((k+1:Nat):Int))=32*(k:Int)+32:=by rw[show 32*((k+1:Nat):Int)=32*(k:Int)+32 by omega];exact IntWalk.i64_in _ (by omega)
   have w2'':IntKind.i64.wrap (32*((k:Int)+1))=32*(k:Int)+32:=by rw[show 32*((k:Int)+1)=32*(k:Int)+32 by omega];exact IntWalk.i64_in _ (by omega)
   have w3:IntKind.i64.wrap (32*(k:Int)+32-32)=32*(k:Int):=by rw[show 32*(k:Int)+32-32=32*(k:Int)by omega];exact IntWalk.i64_in _ (by omega)
   have w3':IntKind.i64.wrap (32*(k:Int))=32*(k:Int):=IntWalk.i64_in _ (by omega)
   have kI:(k:Int)<((k+1:Nat):Int):=by omega
   have kI':(k:Int)<(k:Int)+1:=by omega
   have kN:(0:Int)<=(k:Int):=by omega
   have BB:=zwd B
   have kb:k<=100000:=by omega
   clear HR hc hk B ln h0
   go_wp2_with fail
   go_loop [4,5] (fun kV xV=>∃y z:Int,kV= .int .i64 y/\ xV= .int .u32 z/\ 0<=z/\ z<=4294967295/\ 0<=y/\ y<=32*(k:Int)+32/\ y+bitZ z=bitZ v) (fun _ xV=>(intOf xV).toNat)
   case atStart=>exact⟨_,_,rfl,rfl,xr.1,xr.2,by omega,by omega,BB.out.symm⟩
   case round=>
    obtain⟨y,z,rfl,rfl,z0,z1,y0,y1,hv⟩:=hrel
    have HV:=zwd hv
    clear hv
    by_cases hz:z=0
    · subst hz
      have t1:decide ((0:Int)<0)=false:=by decide
      have E:=HV.out
      rw[zha,Int.add_zero]at E
      go_wp2_with fail
      go_ret
      exact⟨rfl,HB.out⟩
    · have t1:decide (0<z)=true:=decide_eq_true (by omega)
      have E:=HV.out
      rw[zko (show 0<z by omega)]at E
      have yb:=zda (z/2)
      have vb:bitZ v<=32*(k:Int)+32:=by
       have:=zea 32 x.toNat (by omega)
       have hB:=BB.out
       unfold bitZ at hB⊢
       omega
      have w4:IntKind.i64.wrap (y+1)=y+1:=IntWalk.i64_in _ (by omega)
      have w5:IntKind.u32.wrap (z/2)=z/2:=IntWalk.u32_in _ (by omega)
      have w5':z.tdiv 2=z/2:=Int.tdiv_eq_ediv_of_nonneg (by omega)
      have HE:Hid (y+1+bitZ (z/2)=bitZ v):=zwd (by omega)
      have yb2:y+1<=32*(k:Int)+32:=by omega
      clear E vb yb HV
      go_wp2_with fail
      go_round
      case rel=>exact⟨_,_,rfl,rfl,by omega,by omega,by omega,yb2,HE.out⟩
      case measure=>simp only[intOf];omega
end Go.Proofs.YtpgahclpbdpbnaaGreatDoor
namespace Go.Proofs.YtpgahclpbdpbnaaGreatDoor
open Go.RowKit
set_option linter.unusedVariables false
theorem zvt (n:Nat) {k:Nat} (h:n<256^k):(byN n).length<=k:=by
 have e:=zpQ n
 have:=zea (8*k) n (by rw[Nat.pow_mul];exact h)
 omega
theorem zt1 {v:Int} (hv:0<=v) {k:Nat} (h:v<4294967296^k):(byZ v).length<=4*k:=by
 refine zvt _ ?_
 rw[Nat.pow_mul]
 have e:((4294967296^k:Nat):Int)=(4294967296:Int)^k:=Int.natCast_pow _ _
 show v.toNat<4294967296^k
 omega
theorem zpT {zs:List Int} (h:zay zs) (k:Nat):valZ (zs.drop k)<4294967296^(zs.length-k):=by
 have:=zdN (h.drop k)
 rwa[List.length_drop]at this
def ziC (v:Int) (w:World) (e:Ending) (w':World):Prop:=∃V,e= .returned V/\ Out w w' V (byZ v)
theorem zsE {D x:Int} {k n:Nat} (D0:0<=D) (hD:D<4294967296^n) (x0:0<=x) (x1:x<=4294967295) (hk:k<=4):(byZ (D*256^(4-k)+x/256^k)).length<=4*n+4:=by
 have h1:0<=D*256^(4-k)+x/256^k/\ D*256^(4-k)+x/256^k<4294967296^(n+1):=by
  rw[Int.pow_succ]
  generalize(4294967296:Int)^n=P at*
  obtain rfl|rfl|rfl|rfl|rfl:k=0 \/k=1 \/k=2 \/k=3 \/k=4:=by omega
  all_goals simp only[Nat.reduceSub,Nat.sub_zero,Int.reducePow]
  all_goals omega
 have:=zt1 h1.1 h1.2
 omega
theorem zpU (a:Option Addr) (n ca:Nat) (xs:List Int) (w:World) (hr:zat w a n xs) (hn:n<=100000):Calls Tryz.prog 73 #[.slice a n ca] w (ziC (valZ xs) w):=by
 have HR:=zwd hr
 have LX:=zwd (zap hr)
 have ln:=hr.1
 clear hr
 have w0:IntKind.i64.wrap ((n:Int)-1)=(n:Int)-1:=IntWalk.i64_in _ (by omega)
 go_enter Tryz.func73,Tryz.ntmps73
 go_wp2_with fail
 go_loopw [3,4] (fun V iV wr=>∃j:Nat,j<=n/\ iV= .int .i64 ((j:Int)-1)/\ Out w wr V (byZ (valZ (xs.drop j)))) (fun _ iV _=>(intOf iV+1).toNat)
 case atStart=>exact⟨n,Nat.le_refl _,rfl,by rw[List.drop_of_length_le (by omega)];show Out w w _ (byN 0);rw[zdh];exact zgZ w⟩
 case round=>
  obtain⟨j,hj,rfl,ho⟩:=hrel
  have HO:=zwd ho
  clear ho w0
  rcases Nat.eq_zero_or_pos j with h0|h0
  · subst h0
    rw[show((0:Nat):Int)-1= -1 by rfl]
    have t0:decide ((0:Int)<= -1)=false:=by decide
    have O:=HO.out
    rw[List.drop_zero]at O
    have HO2:=zwd O
    clear O HO
    go_wp2_with fail
    go_ret
    exact⟨_,rfl,HO2.out⟩
  · obtain⟨i,rfl⟩:∃i,j=i+1:=⟨j-1,by omega⟩
    rw[show((i+1:Nat):Int)-1=(i:Int)by omega]
    have t0:decide ((0:Int)<=(i:Int))=true:=decide_eq_true (by omega)
    obtain⟨b,off,rfl,hb,hc⟩:=HR.out.2.2 (by omega)
    have cw:w.cell? ⟨b,off+i,none⟩=some (.int .u32 (xs[i]?.getD 0)):=hc i (by omega)
    have DD:=zpT LX.out (i+1)
    have D0:=zaA (LX.out.drop (i+1))
    have E:=zaN xs i
    have xr:=LX.out.at i
    generalize xs[i]?.getD 0=x at*
    generalize valZ (xs.drop (i+1))=D at*
    have HD:=zwd (fun(k:Nat) (hk:k<=4)=>zsE (k:=k) D0 DD xr.1 xr.2 hk)
    have EE:=zwd E
    have D0h:=zwd D0
    clear hc E DD
    have iI:(i:Int)<(n:Int):=by omega
    have w1:IntKind.i64.wrap ((i:Int)-1)=(i:Int)-1:=IntWalk.i64_in _ (by omega)
    go_wp2_with fail
    go_loopw [3,5] (fun V kV wr=>∃k:Nat,k<=4/\ kV= .int .i64 ((k:Int)-1)/\ Out w wr V (byZ (D*256^(4-k)+x/256^k))) (fun _ kV _=>(intOf kV+1).toNat)
    case atStart=>exact⟨4,Nat.le_refl _,rfl,by rw[show D*256^(4-4)+x/256^4=D by simp only[Nat.sub_self,Int.reducePow];omega];exact HO.out⟩
    case round=>
     obtain⟨k,hk,rfl,ho⟩:=hrel
     have HO1:=zwd ho
     clear ho HO
     rcases Nat.eq_zero_or_pos k with h0|h0
     · subst h0
       rw[show((0:Nat):Int)-1= -1 by rfl]
       have t1:decide ((0:Int)<= -1)=false:=by decide
       have O:=HO1.out
       rw[show D*256^(4-0)+x/256^0=valZ (xs.drop i)by rw[EE.out];simp only[Nat.sub_zero,Int.reducePow];omega]at O
       have HO2:=zwd O
       clear O HO1
       go_wp2_with fail
       go_roundw
       case rel=>exact⟨i,by omega,rfl,HO2.out⟩
       case measure=>simp only[intOf];omega
     · obtain⟨h,rfl⟩:∃h,k=h+1:=⟨k-1,by omega⟩
       rw[show((h+1:Nat):Int)-1=(h:Int)by omega]
       have t1:decide ((0:Int)<=(h:Int))=true:=decide_eq_true (by omega)
       have cc:wr.cell? ⟨b,off+i,none⟩=some (.int .u32 x):=(HO1.out.2.cell (p:=⟨b,off+i,none⟩) hb).trans cw
       have hN:(0:Int)<=(h:Int):=by omega
       have w8:IntKind.i64.wrap (8*(h:Int))=8*(h:Int):=IntWalk.i64_in _ (by omega)
       have s0:(0:Int)<=8*(h:Int):=by omega
       have s1:8*(h:Int)<=32:=by omega
       have w9:IntKind.i64.wrap ((h:Int)-1)=(h:Int)-1:=IntWalk.i64_in _ (by omega)
       have hp:(2:Int)^(8*(h:Int)).toNat=256^h:=by
        rw[show(8*(h:Int)).toNat=8*h by omega,Int.pow_mul]
        rfl
       have hp2:(2:Int)^(8*h)=256^h:=by
        rw[Int.pow_mul]
        rfl
       have V0:0<=D*256^(4-(h+1))+x/256^(h+1):=by
        have p1:(0:Int)<=256^(4-(h+1)):=Int.le_of_lt (Int.pow_pos (by decide))
        have p2:(0:Int)<256^(h+1):=Int.pow_pos (by decide)
        have:=Int.mul_nonneg D0h.out p1
        have:=Int.ediv_nonneg xr.1 (Int.le_of_lt p2)
        omega
       obtain⟨c,hc⟩:∃c,x/256^h%256=c:=⟨_,rfl⟩
       have BS:=zmW (c:=c) V0 (by omega) (by omega)
       have TS:=zuo (D:=D) (x:=x) (k:=h) (by omega)
       rw[hc,show 3-h=4-(h+1)by omega]at TS
       rw[TS]at BS
       have wc:IntKind.u8.wrap (x/256^h)=c:=hc
       have c0:0<=c:=by omega
       have c1:c<=255:=by omega
       have LE:=HD.out (h+1) (by omega)
       generalize hL:byZ (D*256^(4-(h+1))+x/256^(h+1))=L at*
       have HBS:=zwd BS
       clear BS TS hc V0 hL
       obtain⟨av,cv,rfl⟩:=HO1.out.shape
       have O3:=zwd (HO1.out.alloc (.cells #[.int .u8 c] 5))
       obtain⟨a1,ca1,e1,r1'⟩:=(zbd wr c).row (by intro q hq;simp at hq;omega)
       injection e1 with e1 e2 e3
       subst e1 e3
       have R1:=zwd r1'
       clear r1' e2
       have LN:Hid (L.length+[c].length<=1000000):=zwd (by simp;omega)
       by_cases hl:0<L.length
       · have t2:decide ((0:Int)<(L.length:Int))=true:=decide_eq_true (by omega)
         have B:=HBS.out
         rw[if_pos (.inl hl)]at B
         have HB:=zwd B
         clear B HBS
         go_wp2_with (at_builtin;go_must (refine zag (W0:=w) (L:=L) (zs:=[c]) rfl _ _ rfl rfl O3.out rfl R1.out (fun e=>by cases e) LN.out ?_;intro V4 w4 ho4;rw[<-HB.out]at ho4;have O4:=zwd ho4;clear ho4))
         go_roundw
         case rel=>exact⟨h,by omega,rfl,O4.out⟩
         case measure=>simp only[intOf];omega
       · have t2:decide ((0:Int)<(L.length:Int))=false:=decide_eq_false (by omega)
         by_cases hcz:0<c
         · have t3:decide (0<c)=true:=decide_eq_true hcz
           have B:=HBS.out
           rw[if_pos (.inr hcz)]at B
           have HB:=zwd B
           clear B HBS
           go_wp2_with (at_builtin;go_must (refine zag (W0:=w) (L:=L) (zs:=[c]) rfl _ _ rfl rfl O3.out rfl R1.out (fun e=>by cases e) LN.out ?_;intro V4 w4 ho4;rw[<-HB.out]at ho4;have O4:=zwd ho4;clear ho4))
           go_roundw
           case rel=>exact⟨h,by omega,rfl,O4.out⟩
           case measure=>simp only[intOf];omega
         · have t3:decide (0<c)=false:=decide_eq_false hcz
           have B:=HBS.out
           rw[if_neg (by omega)]at B
           have HB:=zwd B
           clear B HBS O3 R1
           go_wp2_with fail
           go_roundw
           case rel=>exact⟨h,by omega,rfl,by rw[HB.out];exact HO1.out⟩
           case measure=>simp only[intOf];omega
end Go.Proofs.YtpgahclpbdpbnaaGreatDoor
namespace Go.Proofs.YtpgahclpbdpbnaaGreatDoor
open Go.RowKit
set_option linter.unusedVariables false
theorem zsF {w w1:World} {m:Nat} (h:w1.ownsRow w.heap.size 5 1 (.slice (some ⟨w.heap.size,0,none⟩) m m) m (madeCells #[Value.int .u8 0] m).toList) (hg:w.grownBy w1 none):Out w w1 (.slice (some ⟨w.heap.size,0,none⟩) m m) (List.replicate m 0):=by
 refine⟨?_,(Below.refl _ _).grown hg (Nat.le_refl _) (fun k h=>by cases h)⟩
 rw[toList_madeCells_one]at h
 rw[List.length_replicate,List.map_replicate]
 exact h
theorem zpV {L T:List Int} {K i:Nat} {y:Int} (hL:L.length=K) (hi:i<K) (h:∀j,K-i<=j->L[j]?.getD 0=T[j]?.getD 0) (hy:y=T[K-1-i]?.getD 0):∀j,K-(i+1)<=j->(L.set (K-1-i) y)[j]?.getD 0=T[j]?.getD 0:=by
 intro j hj
 rcases Nat.eq_or_lt_of_le hj with e|e
 · rw[<-e,show K-(i+1)=K-1-i by omega,List.getElem?_set_self (by omega),<-hy]
   rfl
 · rw[List.getElem?_set_ne (by omega)]
   exact h j (by omega)
theorem zsG {L T:List Int} {K:Nat} (hL:L.length=K) (hT:T.length=K) (h:∀j,K-K<=j->L[j]?.getD 0=T[j]?.getD 0):L=T:=by
 apply List.ext_getElem?
 intro j
 have:=h j (by omega)
 rcases Nat.lt_or_ge j K with hj|hj
 · rw[List.getElem?_eq_getElem (by omega),List.getElem?_eq_getElem (by omega)]at this⊢
   simpa using this
 · rw[List.getElem?_eq_none (by omega),List.getElem?_eq_none (by omega)]
theorem zvu (a:Option Addr) (n ca:Nat) (xs:List Int) (w:World) (hr:zat w a n xs) (hca:n<=ca) (hn:n<=100000) (hnil:a=none->ca=0):Calls Tryz.prog 107 #[.slice a n ca] w (ziC (valZ xs) w):=by
 obtain⟨i0,hi,hz0,hz1,hz2⟩:=info_parts Tryz.infoByte
 have LE:=zwd (zhg a n ca xs w hr hca (by omega) hnil)
 have HR:=zwd hr
 have LX:=zwd (zap hr)
 have ln:=hr.1
 have BB:=zfY (zap hr)
 have B0:=zda (valZ xs)
 have BL:=zut (valZ xs)
 have V0:=zaA (zap hr)
 have BAT:=zwd (fun(i:Nat) (hi:i<(byZ (valZ xs)).length)=>zvs V0 hi)
 have BY:=zwd (zeA (valZ xs))
 have BLI:=zwd (fun(q r:Nat) (h4:r<4)=>zpR (zap hr) q r h4)
 clear hr hnil
 obtain⟨K,hK⟩:∃K,(byZ (valZ xs)).length=K:=⟨_,rfl⟩
 rw[hK]at BL BAT
 obtain⟨bv,hbv⟩:∃bv,bitZ (valZ xs)=bv:=⟨_,rfl⟩
 rw[hbv]at BB B0 BL LE
 rw[ln]at BB
 have HKL:=zwd hK
 have K4:K<=4*n:=by omega
 have w0:IntKind.i64.wrap (bv+8)=bv+8:=IntWalk.i64_in _ (by omega)
 have w1:IntKind.i64.wrap (bv+8-1)=bv+8-1:=IntWalk.i64_in _ (by omega)
 have g1:(bv+8-1)/8=(K:Int):=by omega
 have g2:(bv+8-1).tdiv 8=(K:Int):=by rw[Int.tdiv_eq_ediv_of_nonneg (by omega)];exact g1
 have w2:IntKind.i64.wrap (K:Int)=(K:Int):=IntWalk.i64_in _ (by omega)
 clear hbv BB BL hK
 go_enter Tryz.func107,Tryz.ntmps107
 go_wp2_with fail
 refine LE.out.mono ?_
 rintro e w3 ⟨rfl,hw3⟩
 subst hw3
 clear LE
 go_wp2_with (at_make;refine wpList_make_full _ rfl _ _ 26 rfl w3.heap.size 5 i0 (.int .u8 0) 1 Tryz.underlying26 hi hz0 hz1 _ _ _ _ K rfl rfl ?b0 ?b00 ?b1 ?b2 ?b3 ?_)
 case b0=>first|rfl|omega
 case b00=>first|rfl|omega
 case b1=>rw[hz2];omega
 case b2=>unfold maxLen;omega
 case b3=>exact Nat.le_refl _
 intro w4 hown0 hgrow
 have HO:=zwd (zsF hown0 hgrow)
 clear hown0 hgrow hz2 hz1 hz0 hi w0 w1 g1 g2
 go_wp2_with fail
 go_loopw [13] (fun iV wr=>∃(i:Nat) (L:List Int),iV= .int .i64 (i:Int)/\ i<=K/\ Out w3 wr (.slice (some ⟨w3.heap.size,0,none⟩) K K) L/\ L.length=K/\ ∀j,K-i<=j->L[j]?.getD 0=(byZ (valZ xs))[j]?.getD 0) (fun iV _=>(1000001-intOf iV).toNat)
 case atStart=>exact⟨0,_,rfl,by omega,HO.out,by simp,fun j hj=>by rw[List.getElem?_eq_none (by rw[List.length_replicate];omega),List.getElem?_eq_none (by rw[HKL.out];omega)]⟩
 case round=>
  obtain⟨i,L,rfl,hi,ho,hlen,hsame⟩:=hrel
  have HO2:=zwd ho
  have HN:=zwd hlen
  have HS:=zwd hsame
  clear ho hlen hsame HO
  by_cases hmore:i<K
  · have t1:decide ((i:Int)<(K:Int))=true:=decide_eq_true (by omega)
    obtain⟨k,hk⟩:∃k,K-1-i=k:=⟨_,rfl⟩
    obtain⟨q,hq⟩:∃q,i/4=q:=⟨_,rfl⟩
    have r4:=Nat.mod_lt i (show 0<4 by omega)
    obtain⟨r,hr⟩:∃r,i%4=r:=⟨_,rfl⟩
    rw[hr]at r4
    obtain⟨b,off,rfl,hbl0,hcell0⟩:=HR.out.2.2 (by omega)
    have cb:wr.cell? ⟨b,off+q,none⟩=some (.int .u32 (xs[q]?.getD 0)):=(HO2.out.2.cell (p:=⟨b,off+q,none⟩) hbl0).trans (hcell0 q (by omega))
    have xr:=LX.out.at q
    have AT:=BAT.out i (by omega)
    rw[show i=4*q+r by omega,BLI.out q r r4,show 4*q+r=i by omega]at AT
    have ST:=zwd (fun y hy=>zpV (y:=y) HN.out hmore HS.out hy)
    obtain⟨hc1,hf1⟩:=HO2.out.cell k (by rw[HN.out];omega)
    have SET:=zwd (fun y=>HO2.out.set (Nat.le_refl _) k y)
    have ATH:=zwd AT
    rw[hk]at ST ATH
    generalize xs[q]?.getD 0=x at*
    generalize L[k]?.getD 0=z at*
    have k1:IntKind.i64.wrap ((K:Int)-1)=(K:Int)-1:=IntWalk.i64_in _ (by omega)
    have k2:IntKind.i64.wrap ((K:Int)-1-(i:Int))=(k:Int):=by rw[show(K:Int)-1-(i:Int)=(k:Int)by omega];exact IntWalk.i64_in _ (by omega)
    have k3:(i:Int)/4=(q:Int):=by omega
    have k3':(i:Int).tdiv 4=(q:Int):=by rw[Int.tdiv_eq_ediv_of_nonneg (by omega)];exact k3
    have k5:IntKind.i64.wrap (q:Int)=(q:Int):=IntWalk.i64_in _ (by omega)
    have qI:(q:Int)<(n:Int):=by omega
    have kI:(k:Int)<(K:Int):=by omega
    have hiM:i<=1000000:=by omega
    clear hcell0 AT
    obtain rfl|rfl|rfl|rfl:r=0 \/r=1 \/r=2 \/r=3:=by omega
    · have kt:(i:Int).tmod 4=0:=by rw[Int.tmod_eq_emod_of_nonneg (by omega)];omega
      have kp:(256:Int)^0=1:=by decide
      have w8:IntKind.i64.wrap 0=0:=by decide
      have wc:IntKind.u8.wrap (x)=x%256:=rfl
      have HY:Hid (x%256=(byZ (valZ xs))[k]?.getD 0):=zwd (by rw[ATH.out,kp,Int.ediv_one])
      clear kp r4 xr
      go_wp2_with fail
      go_roundw
      case rel=>exact⟨i+1,_,by go_num,by omega,SET.out _,by rw[List.length_set];exact HN.out,ST.out _ HY.out⟩
      case measure=>simp only[intOf];exact zbm hiM
    · have kt:(i:Int).tmod 4=1:=by rw[Int.tmod_eq_emod_of_nonneg (by omega)];omega
      have kp:(256:Int)^1=256:=by decide
      have w8:IntKind.i64.wrap 8=8:=by decide
      have wc:IntKind.u8.wrap (x/256)=x/256%256:=rfl
      have HY:Hid (x/256%256=(byZ (valZ xs))[k]?.getD 0):=zwd (by rw[ATH.out,kp])
      clear kp r4 xr
      go_wp2_with fail
      go_roundw
      case rel=>exact⟨i+1,_,by go_num,by omega,SET.out _,by rw[List.length_set];exact HN.out,ST.out _ HY.out⟩
      case measure=>simp only[intOf];exact zbm hiM
    · have kt:(i:Int).tmod 4=2:=by rw[Int.tmod_eq_emod_of_nonneg (by omega)];omega
      have kp:(256:Int)^2=65536:=by decide
      have w8:IntKind.i64.wrap 16=16:=by decide
      have wc:IntKind.u8.wrap (x/65536)=x/65536%256:=rfl
      have HY:Hid (x/65536%256=(byZ (valZ xs))[k]?.getD 0):=zwd (by rw[ATH.out,kp])
      clear kp r4 xr
      go_wp2_with fail
      go_roundw
      case rel=>exact⟨i+1,_,by go_num,by omega,SET.out _,by rw[List.length_set];exact HN.out,ST.out _ HY.out⟩
      case measure=>simp only[intOf];exact zbm hiM
    · have kt:(i:Int).tmod 4=3:=by rw[Int.tmod_eq_emod_of_nonneg (by omega)];omega
      have kp:(256:Int)^3=16777216:=by decide
      have w8:IntKind.i64.wrap 24=24:=by decide
      have wc:IntKind.u8.wrap (x/16777216)=x/16777216%256:=rfl
      have HY:Hid (x/16777216%256=(byZ (valZ xs))[k]?.getD 0):=zwd (by rw[ATH.out,kp])
      clear kp r4 xr
      go_wp2_with fail
      go_roundw
      case rel=>exact⟨i+1,_,by go_num,by omega,SET.out _,by rw[List.length_set];exact HN.out,ST.out _ HY.out⟩
      case measure=>simp only[intOf];exact zbm hiM
  · obtain rfl:i=K:=by omega
    have t1:decide ((i:Int)<(i:Int))=false:=decide_eq_false (by omega)
    have F:=zsG HN.out HKL.out HS.out
    subst F
    go_wp2_with fail
    go_ret
    exact⟨_,rfl,HO2.out⟩
end Go.Proofs.YtpgahclpbdpbnaaGreatDoor
namespace Go.Proofs.YtpgahclpbdpbnaaGreatDoor
open Go.RowKit
set_option linter.unusedVariables false
def Num (w:World) (v:Int) (a:Option Addr) (n c:Nat):Prop:=∃zs,zat w a n zs/\ valZ zs=v/\ n<=c/\ (a=none->c=0)
def Norm (w:World) (v:Int) (a:Option Addr) (n c:Nat):Prop:=n=(limZ v).length/\ zat w a n (limZ v)/\ n<=c/\ (a=none->c=0)
theorem Num.below {w w':World} {v:Int} {a:Option Addr} {n c:Nat} (h:Num w v a n c) (hb:Below w.heap.size w w'):Num w' v a n c:=by
 obtain⟨zs,hr,hv,hc,hn⟩:=h
 exact⟨zs,hr.below hb,hv,hc,hn⟩
theorem Norm.below {w w':World} {v:Int} {a:Option Addr} {n c:Nat} (h:Norm w v a n c) (hb:Below w.heap.size w w'):Norm w' v a n c:=⟨h.1,h.2.1.below hb,h.2.2⟩
theorem Norm.num {w:World} {v:Int} {a:Option Addr} {n c:Nat} (h:Norm w v a n c) (hv:0<=v):Num w v a n c:=⟨limZ v,h.2.1,zca hv,h.2.2⟩
theorem Num.nonneg {w:World} {v:Int} {a:Option Addr} {n c:Nat} (h:Num w v a n c):0<=v/\ v<4294967296^n:=by
 obtain⟨zs,hr,hv,_⟩:=h
 have:=zdN hr.2.1
 rw[hr.1,hv]at this
 exact⟨by rw[<-hv];exact zaA hr.2.1,this⟩
theorem ze3 {v:Int} (h0:0<=v) {k:Nat} (h:v<4294967296^k):(limZ v).length<=k:=by
 rcases Nat.lt_or_ge k (limZ v).length with hk|hk
 · obtain⟨j,hj⟩:∃j,(limZ v).length=j+1:=⟨(limZ v).length-1,by omega⟩
   have e:=za0 (limZ v) j
   rw[zca h0,zaN (limZ v) j,show(limZ v).drop (j+1)=[]from List.drop_of_length_le (by omega),valZ,Int.mul_zero,Int.add_zero]at e
   have t:=zcg (zbo v) j
   have r:=(zbo v).at j
   have l:=zhf hj
   have p:=zaM j
   have m:=zdt (show k<=j by omega)
   have:=Int.mul_le_mul_of_nonneg_left (show(1:Int)<=(limZ v)[j]?.getD 0 by omega) (Int.le_of_lt p)
   rw[Int.mul_one]at this
   omega
 · exact hk
theorem zpW {x y:Int} {n m:Nat} (hx:0<=x/\ x<4294967296^n) (hy:0<=y/\ y<4294967296^m):(limZ (x*y)).length<=n+m:=by
 refine ze3 (Int.mul_nonneg hx.1 hy.1) ?_
 rw[Int.pow_add]
 have p:=zaM n
 have q:=zaM m
 have b1:x*y<=4294967296^n*y:=Int.mul_le_mul_of_nonneg_right (Int.le_of_lt hx.2) hy.1
 have b2:4294967296^n*y<4294967296^n*4294967296^m:=Int.mul_lt_mul_of_pos_left hy.2 p
 omega
def Res (v:Int) (k:Nat) (w:World) (e:Ending) (w':World):Prop:=∃a n c,e= .returned (.slice a n c)/\ Norm w' v a n c/\ n<=k/\ Below w.heap.size w w'
theorem zfn.res {v:Int} {k:Nat} {w w':World} {e:Ending} (h:zfn v w e w') (hk:(limZ v).length<=k):Res v k w e w':=by
 obtain⟨a,c,rfl,hr,hn,hc,hb⟩:=h
 exact⟨a,_,c,rfl,⟨rfl,hr,hc,hn⟩,hk,hb⟩
section
variable {w : World} {x y : Int} {a b : Option Addr} {n m ca cb : Nat}
theorem zsH (hx:Num w x a n ca) (hy:Num w y b m cb) (hn:n<=40000) (hm:m<=40000):Calls Tryz.prog 199 #[.slice a n ca,.slice b m cb] w (Res (x*y) (n+m) w):=by
 have l:=zpW hx.nonneg hy.nonneg
 obtain⟨xs,hr,rfl,hc,hi⟩:=hx
 obtain⟨ys,hs,rfl,hd,hj⟩:=hy
 exact(zus a b n m ca cb xs ys w hr hs hn hm hc hd hi hj).mono fun e w' h=>h.res l
theorem zkq (hx:Num w x a n ca) (hy:Num w y b m cb) (hn:n<=40000) (hm:m<=40000):Calls Tryz.prog 72 #[.slice a n ca,.slice b m cb] w (Res (x*y) (n+m) w):=by
 have l:=zpW hx.nonneg hy.nonneg
 obtain⟨xs,hr,rfl,_,_⟩:=hx
 obtain⟨ys,hs,rfl,_,_⟩:=hy
 exact(zsq a b n m ca cb xs ys w hr hs hn hm).mono fun e w' h=>h.res l
theorem zsI (hx:Num w x a n ca) (hy:Num w y b m cb) (hn:n<=40000) (hm:m<=40000):Calls Tryz.prog 104 #[.slice a n ca,.slice b m cb] w fun e w'=>e= .returned (.int .i64 (cmpI x y))/\ Below w.heap.size w w':=by
 obtain⟨xs,hr,rfl,hc,hi⟩:=hx
 obtain⟨ys,hs,rfl,hd,hj⟩:=hy
 refine(zur a b n m ca cb xs ys w hr hs (by omega) (by omega) hc hd hi hj).mono ?_
 rintro e w' ⟨he,q,hw⟩
 exact⟨he,by rw[hw];exact zaE w q⟩
theorem zpX (hx:Num w x a n ca) (hy:Num w y b m cb) (hn:n<=40000) (hm:m<=40000):Calls Tryz.prog 115 #[.slice a n ca,.slice b m cb] w fun e w'=>e= .returned (.int .i64 (cmpI x y))/\ Below w.heap.size w w':=by
 obtain⟨xs,hr,rfl,hc,hi⟩:=hx
 obtain⟨ys,hs,rfl,hd,hj⟩:=hy
 refine(zsp a b n m ca cb xs ys w hr hs (by omega) (by omega)).mono ?_
 rintro e w' ⟨he,hw⟩
 exact⟨he,by rw[hw];exact Below.refl _ _⟩
theorem zm4 (hx:Num w x a n ca) (hn:n<=40000):Calls Tryz.prog 159 #[.slice a n ca] w fun e w'=>e= .returned (.int .i64 (bitZ x))/\ Below w.heap.size w w':=by
 obtain⟨xs,hr,rfl,hc,hi⟩:=hx
 refine(zhg a n ca xs w hr hc (by omega) hi).mono ?_
 rintro e w' ⟨he,hw⟩
 exact⟨he,by rw[hw];exact Below.refl _ _⟩
theorem zkr (hx:Num w x a n ca) (hn:n<=40000):Calls Tryz.prog 165 #[.slice a n ca] w fun e w'=>e= .returned (.int .i64 (bitZ x))/\ Below w.heap.size w w':=by
 obtain⟨xs,hr,rfl,hc,hi⟩:=hx
 exact zsD a n ca xs w hr hc (by omega) hi
theorem zeb (hx:Num w x a n ca) (hn:n<=40000):Calls Tryz.prog 195 #[.slice a n ca] w (Res x n w):=by
 have l:=ze3 hx.nonneg.1 hx.nonneg.2
 obtain⟨xs,hr,rfl,hc,hi⟩:=hx
 exact(zsu a n ca xs w hr (by omega) hi).mono fun e w' h=>h.res l
theorem ziD (hx:Num w x a n ca) (hn:n<=40000):Calls Tryz.prog 122 #[.slice a n ca] w (Res x n w):=by
 have l:=ze3 hx.nonneg.1 hx.nonneg.2
 obtain⟨xs,hr,rfl,hc,hi⟩:=hx
 exact(zcV a n ca xs w hr hc (by omega) hi).mono fun e w' h=>h.res l
theorem zks {zs:List Int} (h:∀x∈zs,0<=x/\ x<=255):(limZ (beV zs)).length<=zs.length:=by
 refine ze3 (zbt h) (Int.lt_of_lt_of_le (zm0 h) ?_)
 have:(4294967296:Int)^zs.length=256^(4*zs.length):=by rw[Int.pow_mul];rfl
 rw[this,Nat.mul_comm,Nat.mul_comm zs.length 4,show 4*zs.length=zs.length+3*zs.length by omega,Int.pow_add]
 have p:(0:Int)<256^zs.length:=Int.pow_pos (by decide)
 have q:(0:Int)<256^(3*zs.length):=Int.pow_pos (by decide)
 have:=Int.mul_le_mul_of_nonneg_left (show(1:Int)<=256^(3*zs.length)by omega) (Int.le_of_lt p)
 omega
theorem zkt {zs:List Int} (hr:Row w a n zs) (hn:n<=40000):Calls Tryz.prog 103 #[.slice a n ca] w (Res (beV zs) n w):=by
 have l:=zks hr.2.1
 rw[hr.1]at l
 exact(zsz a n ca zs w hr (by omega)).mono fun e w' h=>h.res l
theorem zeB {zs:List Int} (hr:Row w a n zs) (hn:n<=40000):Calls Tryz.prog 114 #[.slice a n ca] w (Res (beV zs) n w):=by
 have l:=zks hr.2.1
 rw[hr.1]at l
 exact(zpM a n ca zs w hr (by omega)).mono fun e w' h=>h.res l
def ResB (v:Int) (k:Nat) (w:World) (e:Ending) (w':World):Prop:=∃a n c,e= .returned (.slice a n c)/\ n=(byZ v).length/\ Row w' a n (byZ v)/\ n<=k/\ Below w.heap.size w w'
theorem ziC.res {v:Int} {k:Nat} {w':World} {e:Ending} (h:ziC v w e w') (hk:(byZ v).length<=k):ResB v k w e w':=by
 obtain⟨V,rfl,ho⟩:=h
 obtain⟨a,c,rfl,hr⟩:=ho.row (zeA v)
 exact⟨a,_,c,rfl,rfl,hr,hk,ho.2⟩
theorem zuv (hx:Num w x a n ca) (hn:n<=40000):Calls Tryz.prog 107 #[.slice a n ca] w (ResB x (4*n) w):=by
 have l:=zt1 hx.nonneg.1 hx.nonneg.2
 obtain⟨xs,hr,rfl,hc,hi⟩:=hx
 exact(zvu a n ca xs w hr hc (by omega) hi).mono fun e w' h=>h.res l
end
end Go.Proofs.YtpgahclpbdpbnaaGreatDoor
namespace Go.Proofs.YtpgahclpbdpbnaaGreatDoor
open Go.RowKit
set_option linter.unusedVariables false
theorem ze4 {a b q r:Int} (hb:0<b) (h:a=q*b+r) (r0:0<=r) (r1:r<b):a/b=q/\ a%b=r:=by
 have:=(Int.ediv_emod_unique hb).2 ⟨(by rw[h,Int.mul_comm q b,Int.add_comm]:r+b*q=a),r0,r1⟩
 exact this
def Half (U u h l q r:Int):Prop:=U=q*h+r/\ 0<=r/\ 0<=q/\ (U*4294967296+u)/(h*4294967296+l)<=q
def zhh (U u h l:Int):Prop:=2147483648<=h/\ h<4294967296/\ 0<=l/\ l<4294967296/\ 0<=U/\ U<h*4294967296+l/\ 0<=u/\ u<4294967296
theorem ziE {U u h l:Int} (hi:zhh U u h l):Half U u h l (U/h) (U%h)/\ U/h*h=U-U%h/\ 0<=U%h/\ U%h<h/\ 0<=U/h:=by
 obtain⟨h0,h1,l0,l1,U0,U1,u0,u1⟩:=hi
 have e:=Int.mul_ediv_add_emod U h
 rw[Int.mul_comm]at e
 have r0:=Int.emod_nonneg U (show h≠0 by omega)
 have r1:=Int.emod_lt_of_pos U (show 0<h by omega)
 have q0:0<=U/h:=Int.ediv_nonneg U0 (by omega)
 refine⟨⟨by omega,r0,q0,?_⟩,by omega,r0,r1,q0⟩
 have Y0:0<h*4294967296+l:=by omega
 have e2:=Int.mul_ediv_add_emod (U*4294967296+u) (h*4294967296+l)
 have m0:=Int.emod_nonneg (U*4294967296+u) (show h*4294967296+l≠0 by omega)
 have Q0:0<=(U*4294967296+u)/(h*4294967296+l):=Int.ediv_nonneg (by omega) (by omega)
 generalize(U*4294967296+u)/(h*4294967296+l)=Q at*
 generalize(U*4294967296+u)%(h*4294967296+l)=M at*
 refine Int.le_ediv_of_mul_le (by omega) ?_
 have e3:(h*4294967296+l)*Q=Q*h*4294967296+l*Q:=by rw[Int.add_mul,Int.mul_right_comm,Int.mul_comm h Q]
 have e4:=Int.mul_nonneg l0 Q0
 omega
theorem zdi {U u h l q r:Int} (hi:zhh U u h l) (hh:Half U u h l q r) (hc:4294967296<=q \/r*4294967296+u<q*l):Half U u h l (q-1) (r+h)/\ 1<=q:=by
 obtain⟨h0,h1,l0,l1,U0,U1,u0,u1⟩:=hi
 obtain⟨e,r0,q0,hq⟩:=hh
 have Y0:0<h*4294967296+l:=by omega
 have lt:(U*4294967296+u)/(h*4294967296+l)<q:=by
  rcases hc with hc|hc
  · have:(U*4294967296+u)/(h*4294967296+l)<4294967296:=Int.ediv_lt_of_lt_mul Y0 (by omega)
    omega
  · refine Int.ediv_lt_of_lt_mul Y0 ?_
    rw[Int.mul_add,<-Int.mul_assoc]
    omega
 have Q0:0<=(U*4294967296+u)/(h*4294967296+l):=Int.ediv_nonneg (by omega) (by omega)
 refine⟨⟨?_,by omega,by omega,by omega⟩,by omega⟩
 rw[Int.sub_mul]
 omega
theorem zcb {U u h l q r:Int} (hi:zhh U u h l) (hh:Half U u h l q r) (hc:(q<4294967296/\ q*l<=r*4294967296+u) \/4294967296<=r):q=(U*4294967296+u)/(h*4294967296+l):=by
 obtain⟨h0,h1,l0,l1,U0,U1,u0,u1⟩:=hi
 obtain⟨e,r0,q0,hq⟩:=hh
 have Y0:0<h*4294967296+l:=by omega
 have key:q*l<=r*4294967296+u:=by
  rcases hc with hc|hc
  · exact hc.2
  · have ql:q<4294967296:=by
     rcases(by omega:q<4294967296 \/4294967296<=q)with hq2|hq2
     · exact hq2
     · have:=Int.mul_le_mul_of_nonneg_right hq2 (show 0<=h by omega)
       omega
    have:=Int.mul_le_mul_of_nonneg_right (show q<=4294967296 by omega) l0
    omega
 have:q<=(U*4294967296+u)/(h*4294967296+l):=by
  refine Int.le_ediv_of_mul_le Y0 ?_
  rw[Int.mul_add,<-Int.mul_assoc]
  omega
 omega
theorem zdu {U u h l q r:Int} (hi:zhh U u h l) (hh:Half U u h l q r):q<8589934592:=by
 obtain⟨h0,h1,l0,l1,U0,U1,u0,u1⟩:=hi
 obtain⟨e,r0,q0,hq⟩:=hh
 rcases(by omega:q<8589934592 \/8589934592<=q)with hq2|hq2
 · exact hq2
 · have:=Int.mul_le_mul_of_nonneg_right hq2 (show 0<=h by omega)
   omega
theorem zfr {l q:Int} (q0:0<=q) (q1:q<4294967296) (l0:0<=l) (l1:l<4294967296):0<=q*l/\ q*l<=18446744065119617025:=by
 have a:=Int.mul_le_mul_of_nonneg_right (show q<=4294967295 by omega) l0
 exact⟨Int.mul_nonneg q0 l0,by omega⟩
theorem zku {U u h l:Int} (hi:zhh U u h l):(U*4294967296+u)/(h*4294967296+l)<4294967296/\ 0<=(U*4294967296+u)/(h*4294967296+l)/\ 0<=(U*4294967296+u)%(h*4294967296+l)/\ (U*4294967296+u)%(h*4294967296+l)<h*4294967296+l/\
 U*4294967296+u-(U*4294967296+u)/(h*4294967296+l)*(h*4294967296+l)=(U*4294967296+u)%(h*4294967296+l):=by
 obtain⟨h0,h1,l0,l1,U0,U1,u0,u1⟩:=hi
 have Y0:0<h*4294967296+l:=by omega
 refine⟨Int.ediv_lt_of_lt_mul Y0 (by omega),Int.ediv_nonneg (by omega) (by omega),Int.emod_nonneg _ (by omega),Int.emod_lt_of_pos _ Y0,?_⟩
 have e2:=Int.mul_ediv_add_emod (U*4294967296+u) (h*4294967296+l)
 rw[Int.mul_comm]at e2
 omega
theorem zvv {A Y U u1 u0:Int} (hY:0<Y) (hA:A=(U*4294967296+u1)*4294967296+u0):
 (U*4294967296+u1)/Y*4294967296+((U*4294967296+u1)%Y*4294967296+u0)/Y=A/Y:=by
 have e1:=Int.mul_ediv_add_emod (U*4294967296+u1) Y
 generalize(U*4294967296+u1)/Y=Q at*
 generalize(U*4294967296+u1)%Y=R at*
 have e2:=Int.mul_ediv_add_emod (R*4294967296+u0) Y
 have m0:=Int.emod_nonneg (R*4294967296+u0) (show Y≠0 by omega)
 have m1:=Int.emod_lt_of_pos (R*4294967296+u0) hY
 generalize(R*4294967296+u0)/Y=Q2 at*
 generalize(R*4294967296+u0)%Y=R2 at*
 refine((ze4 hY (q:=Q*4294967296+Q2) (r:=R2) ?_ m0 m1).1).symm
 rw[Int.add_mul,Int.mul_right_comm,Int.mul_comm Q Y,Int.mul_comm Q2 Y]
 omega
theorem zkv (n:Int) (h0:0<=n) (h1:n<2^64):IntKind.u64.wrap n=n:=by rw[IntKind.wrap_u64];omega
theorem zvW (x y:Nat) (hx:x<18446744073709551616) (hy:y<18446744073709551616):bits .or .u64 (x:Int) (y:Int)=((x|||y:Nat):Int):=(bits_nat .u64 64 (by decide) zkv x y (by omega) (by omega)).2
theorem zvw (x y:Nat) (hx:x<18446744073709551616) (hy:y<18446744073709551616):bits .and .u64 (x:Int) (y:Int)=((x&&&y:Nat):Int):=(bits_nat .u64 64 (by decide) zkv x y (by omega) (by omega)).1
theorem zuw {x b:Int} (s:Nat) (x0:0<=x) (b0:0<=b) (b1:b<2^s) (h:x*2^s+b<18446744073709551616):bits .or .u64 (x*2^s) b=x*2^s+b:=by
 obtain⟨X,rfl⟩:∃X:Nat,x=(X:Int):=⟨x.toNat,by omega⟩
 obtain⟨B,rfl⟩:∃B:Nat,b=(B:Int):=⟨b.toNat,by omega⟩
 have e:((X:Int)*2^s)=((X*2^s:Nat):Int):=by push_cast;rfl
 have hB:B<2^s:=by
  have:((2^s:Nat):Int)=(2:Int)^s:=by push_cast;rfl
  omega
 rw[e]at h⊢
 rw[zvW _ _ (by omega) (by omega),<-Nat.shiftLeft_eq,<-Nat.shiftLeft_add_eq_or_of_lt hB]
 push_cast
 rfl
theorem zvx {x:Int} (x0:0<=x) (x1:x<18446744073709551616):bits .and .u64 x 4294967295=x%4294967296:=by
 obtain⟨X,rfl⟩:∃X:Nat,x=(X:Int):=⟨x.toNat,by omega⟩
 rw[show(4294967295:Int)=((4294967295:Nat):Int)from rfl,zvw _ _ (by omega) (by omega),show(4294967295:Nat)=2^32-1 from rfl,Nat.and_two_pow_sub_one_eq_mod]
 show((X%4294967296:Nat):Int)=_
 omega
theorem zlY {hi lo:Int} {s:Nat} (hs:s<=64) (l0:0<=lo) (l1:lo<18446744073709551616):
 0<=lo/2^(64-s)/\ lo/2^(64-s)<2^s/\ (hi*18446744073709551616+lo)*2^s=(hi*2^s+lo/2^(64-s))*18446744073709551616+lo*2^s%18446744073709551616:=by
 have p1:(0:Int)<2^s:=Int.pow_pos (by decide)
 have p2:(0:Int)<2^(64-s):=Int.pow_pos (by decide)
 have e:(2:Int)^(64-s)*2^s=18446744073709551616:=by rw[<-Int.pow_add,show 64-s+s=64 by omega];rfl
 have e2:lo*2^s/18446744073709551616=lo/2^(64-s):=by rw[<-e];exact Int.mul_ediv_mul_of_pos_left _ _ p1
 refine⟨Int.ediv_nonneg l0 (by omega),Int.ediv_lt_of_lt_mul p2 (by rw[Int.mul_comm,e];exact l1),?_⟩
 have e3:=Int.mul_ediv_add_emod (lo*2^s) 18446744073709551616
 rw[e2]at e3
 rw[Int.add_mul,Int.add_mul,Int.mul_right_comm hi]
 omega
end Go.Proofs.YtpgahclpbdpbnaaGreatDoor
namespace Go.Proofs
open Go.Shelf
def Tryz.lays134_ren:Go.Shelf.Ren:=⟨fun|129=>238|134=>237|n=>n,fun|3=>3|4=>4|5=>5|9=>9|46=>107|53=>59|n=>n,fun|n=>n⟩
theorem Tryz.lays134:Go.Proofs.Lays.n134 Tryz.prog Tryz.lays134_ren:= {
 mixed:=by kernel_rfl
 f129:=Tryz.func238.trans (congrArg some (by kernel_rfl))
 f134:=Tryz.func237.trans (congrArg some (by kernel_rfl))
 t3:=Tryz.underlying3
 a3:=Tryz.isAgg3
 z3:=Tryz.sizeOf3
 v3:=Tryz.zeroValue3
 t4:=Tryz.underlying4
 a4:=Tryz.isAgg4
 z4:=Tryz.sizeOf4
 v4:=Tryz.zeroValue4
 t5:=Tryz.underlying5
 a5:=Tryz.isAgg5
 z5:=Tryz.sizeOf5
 v5:=Tryz.zeroValue5
 t9:=Tryz.underlying9
 a9:=Tryz.isAgg9
 z9:=Tryz.sizeOf9
 v9:=Tryz.zeroValue9
 t46:=Tryz.underlying107
 a46:=Tryz.isAgg107
 z46:=Tryz.sizeOf107
 v46:=Tryz.zeroValue107
 t53:=Tryz.underlying59
 a53:=Tryz.isAgg59
 z53:=Tryz.sizeOf59
 v53:=Tryz.zeroValue59}
theorem Tryz.bits_LeadingZeros64 (x:Int) (w:World) (h0:0<=x) (h1:x<=18446744073709551615):
 Calls Tryz.prog 237 #[.int .u64 x] w fun e w'=>e= .returned (.int .i64 (64-(Lib.bitLen x.toNat:Int)))/\ w'=w:=Any.bits_LeadingZeros64 Tryz.lays134 x w h0 h1
end Go.Proofs
