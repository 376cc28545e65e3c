import Derived.WalkKit
import Derived.WalkSpells
import Derived.Deep.Draws
import Derived.Laws.BytesArg
import Derived.Deep.QuietTactic
import Derived.Test.YtpgahclpbdpbnaaGreatDoorRows
import Derived.WalkLawsBesides
import Derived.BigQuiet
import Derived.Lib.Hide
import Derived.Laws.AppendOwn
import Derived.Laws.OwnMore
import Derived.OwnWalk
import Derived.Laws.MakeOwn
import Derived.Laws.AppendOwnNone
import Derived.OrdersHeld
import Derived.KernelRfl
import Derived.OpenShut
import Derived.ProofKit
import Derived.Lib.EndianBits
set_option maxHeartbeats 2000000
namespace Go.Proofs.YtpgahclpbdpbnaaGreatDoor
abbrev zwd:= @Lib.hid
abbrev zwe:= @List.setIfInBounds_toArray
abbrev zwf:= @List.set_cons_succ
abbrev zwg:= @List.set_cons_zero
open Go.RowKit
def Row (w:World) (a:Option Addr) (n:Nat) (zs:List Int):Prop:=
 zs.length=n/\ (∀x∈zs,0<=x/\ x<=255)/\
 (0<n->∃b off,a=some ⟨b,off,none⟩/\ b<w.heap.size/\ ∀i,i<n->w.cell? ⟨b,off+i,none⟩=some (.int .u8 (zs[i]?.getD 0)))
theorem Row.below {w w':World} {a:Option Addr} {n:Nat} {zs:List Int} (h:Row w a n zs) (hb:Below w.heap.size w w'):Row w' a n zs:=by
 refine⟨h.1,h.2.1,fun hn=> ?_⟩
 obtain⟨b,off,e,hlt,hc⟩:=h.2.2 hn
 exact⟨b,off,e,Nat.lt_of_lt_of_le hlt hb.size,fun i hi=>(hb.cell (p:=⟨b,off+i,none⟩) hlt).trans (hc i hi)⟩
theorem Row.drewN {w:World} {a:Option Addr} {n:Nat} {zs:List Int} (h:Row w a n zs) (k:Nat):Row (w.drewN k) a n zs:=h
theorem Row.nil (w:World) (a:Option Addr):Row w a 0 []:=⟨rfl,by simp,fun h=>absurd h (by omega)⟩
theorem Row.byte {w:World} {a:Option Addr} {n:Nat} {zs:List Int} (h:Row w a n zs) (k:Nat):0<=zs[k]?.getD 0/\ zs[k]?.getD 0<=255:=by
 rcases Nat.lt_or_ge k zs.length with hk|hk
 · rw[List.getElem?_eq_getElem hk]
   exact h.2.1 _ (List.getElem_mem hk)
 · rw[List.getElem?_eq_none hk]
   simp
theorem Row.conv {P:Program} {w:World} {a:Option Addr} {n cap:Nat} {zs:List Int} (h:Row w a n zs) (src dst e:TypeId)
 (hs:P.underlying src=some (.slice e)) (he:P.underlying e=some (.int .u8)) (hd:P.underlying dst=some .string):
 (convert src dst (.slice a n cap)).run P w= .ok (.string (strOfNums zs)) w:=by
 rcases Nat.eq_zero_or_pos n with hn|hn
 · subst hn
   have hz:zs=[]:=List.eq_nil_of_length_eq_zero h.1
   subst hz
   cases a with
   |none=>exact run_convert_bytes_nil w src e hs he 0 cap dst hd
   |some ad=>
     have hl:(loadCells ad 0).run P w= .ok (([]:List Int).map (Value.int .u8)).toArray w:=by
      have:=run_loadCells_list (P:=P) w ad [] (fun j v hj=>by simp at hj)
      simpa using this
     rw[run_convert_bytes_string w src dst e _ 0 cap hs he hd,run_bytesToString w _ 0 cap [] hl]
     rfl
 · obtain⟨b,off,rfl,_,hc⟩:=h.2.2 hn
   exact run_convert_bytes_arg w src e hs he b off n cap zs h.1 (fun i hi=>by rw[hc i hi,List.getD_eq_getElem?_getD]) dst hd
theorem Row.of_own {w:World} {base g n cap:Nat} {zs:List Int} (h:w.ownsRow base 5 1 (.slice (some ⟨g,0,none⟩) n cap) n (zs.map (Value.int .u8))) (hz:∀x∈zs,0<=x/\ x<=255):
 Row w (some ⟨g,0,none⟩) n zs:=by
 have hl:zs.length=n:=by have:=h.1;simpa using this
 refine⟨hl,hz,fun hn=>⟨g,0,rfl,?_,fun i hi=> ?_⟩⟩
 · exact(h.lt g rfl).2
 · rw[Nat.zero_add,h.cellAt i (by omega)]
   simp[show i<zs.length by omega]
theorem zbw {k:IntKind} {x y:Int} (e:x=y):Ending.returned (Value.int k x)=Ending.returned (Value.int k y):=e▸rfl
end Go.Proofs.YtpgahclpbdpbnaaGreatDoor
namespace Go.Proofs.YtpgahclpbdpbnaaGreatDoor
open Go.RowKit
def beZ:Nat->Int->List Int
 |0,_=> []
 |k+1,n=>n/256^k%256::beZ k n
theorem zbH (k:Nat) (n:Int):(beZ k n).length=k:=by
 induction k with
 |zero=>rfl
 |succ k ih=>simp[beZ,ih]
theorem zex (k:Nat) (n:Int):∀x∈beZ k n,0<=x/\ x<=255:=by
 induction k with
 |zero=>simp[beZ]
 |succ k ih=>
   intro x hx
   simp only[beZ,List.mem_cons]at hx
   rcases hx with rfl|hx
   · omega
   · exact ih x hx
def layZ (m k:Nat) (n:Int):List Int:=List.replicate (m-k) 0++beZ k n
theorem zlL {m k:Nat} (n:Int) (h:k<=m):(layZ m k n).length=m:=by
 simp[layZ,zbH];omega
theorem zr9 {m k:Nat} {n:Int} (h:k<m):(layZ m k n).set (m-1-k) (n/256^k%256)=layZ m (k+1) n:=by
 unfold layZ
 have e1:m-k=(m-1-k)+1:=by omega
 have e2:m-(k+1)=m-1-k:=by omega
 rw[e1,e2,List.replicate_succ',List.append_assoc,List.set_append_right _ _ (by simp)]
 simp[beZ]
theorem zsa {m k:Nat} {n u:Int} (h:k<m) (hu:u=n/256^k%256):
 ((layZ m k n).map (Value.int .u8)).set (m-1-k) (.int .u8 u)=(layZ m (k+1) n).map (Value.int .u8):=by
 rw[<-zr9 h,List.map_set,hu]
theorem zmI (n:Int) (k:Nat):n/256^k/256=n/256^(k+1):=by
 rw[Int.ediv_ediv_of_nonneg (Int.le_of_lt (Int.pow_pos (by decide))),Int.pow_succ]
theorem Tryz.info5:(Tryz.prog.info? 5).map (fun i=>(i.zero,i.size,i.bytes))=some (some (.int .u8 0),1,1):=by kernel_rfl
def zbK (n many:Int):List Int×Bool:=
 if 0<=many/\ many<=64 then(if n/256^many.toNat=0 then(beZ many.toNat n,true)else([],false))else([],false)
def zbI (w:World) (zs:List Int) (ok:Bool) (e:Ending) (w':World):Prop:=
 ∃a c,e= .returned (.tuple #[.slice a zs.length c,.bool ok])/\ Row w' a zs.length zs/\ Below w.heap.size w w'/\ zs.length<=c
def Laid (w:World) (m k:Nat) (n s:Int) (wr:World):Prop:=
 wr.ownsRow w.heap.size 5 1 (.slice (some ⟨w.heap.size,0,none⟩) m m) m ((layZ m k n).map (Value.int .u8))/\ Below w.heap.size w wr/\ s=n/256^k
theorem zgW {w w1:World} {m:Nat} {n:Int} (hown:w1.ownsRow w.heap.size 5 1 (.slice (some ⟨w.heap.size,0,none⟩) m m) m (madeCells #[Value.int .u8 0] m).toList) (hg:w.grownBy w1 none):
 Laid w m 0 n n w1:=by
 refine⟨?_,(Below.refl _ _).grown hg (Nat.le_refl _) (fun k h=>by cases h),by simp⟩
 have e:(madeCells #[Value.int .u8 0] m).toList=(layZ m 0 n).map (Value.int .u8):=by
  rw[toList_madeCells_one]
  simp[layZ,beZ]
 rw[<-e]
 exact hown
theorem Laid.step {w wr:World} {m k:Nat} {n s:Int} (h:Laid w m k n s wr) (hk:k<m):
 (∃v,wr.cell? ⟨w.heap.size,m-1-k,none⟩=some v)/\ wr.frozen? ⟨w.heap.size,m-1-k,none⟩=false/\
 ∀u,u=s%256->Laid w m (k+1) n (s/256) (wr.setCell ⟨w.heap.size,m-1-k,none⟩ (.int .u8 u)):=by
 obtain⟨ho,hb,rfl⟩:=h
 have hl:=zlL (m:=m) (k:=k) n (by omega)
 refine⟨⟨_,(ho.cellAt (m-1-k) (by omega)).trans (List.getElem?_eq_getElem (by simp[hl];omega))⟩,ho.frozenAt _,fun u hu=>⟨?_,hb.setCell (Nat.le_refl _) _,zmI n k⟩⟩
 have:=(ho.stored (m-1-k) (.int .u8 u)).1
 rw[zsa hk hu]at this
 exact this
theorem zfi (n:Int) (m:Nat) (hm:m<=64):zbK n m=if n/256^m=0 then(beZ m n,true)else([],false):=by
 rw[zbK,if_pos (by omega),Int.toNat_natCast]
theorem zkc {w wr:World} {m k:Nat} {n:Int} (hm:m<=64) (hk:k=m) (h:Laid w m k n 0 wr):
 zbI w (zbK n m).1 (zbK n m).2 (.returned (.tuple #[.slice (some ⟨w.heap.size,0,none⟩) m m,.bool true])) wr:=by
 subst hk
 obtain⟨ho,hb,hs⟩:=h
 rw[zfi n k hm,if_pos hs.symm]
 have e:layZ k k n=beZ k n:=by simp[layZ]
 rw[e]at ho
 refine⟨some ⟨w.heap.size,0,none⟩,k,?_,?_,hb,?_⟩
 · rw[zbH]
 · rw[zbH]
   exact Row.of_own ho (zex k n)
 · rw[zbH]
   exact Nat.le_refl _
theorem zit {w wr:World} {m k:Nat} {n s:Int} (hm:m<=64) (hk:k=m) (hs:¬s=0) (h:Laid w m k n s wr):
 zbI w (zbK n m).1 (zbK n m).2 (.returned (.tuple #[.slice none 0 0,.bool false])) wr:=by
 subst hk
 obtain⟨_,hb,rfl⟩:=h
 rw[zfi n k hm,if_neg hs]
 exact⟨none,0,rfl,Row.nil _ _,hb,Nat.le_refl _⟩
theorem zsb (n:Int) (m:Nat) (w:World) (h0:0<=n) (h1:n<=18446744073709551615) (hm:m<=64):
 Calls Tryz.prog 77 #[.int .u64 n,.int .i64 (m:Int)] w (zbI w (zbK n m).1 (zbK n m).2):=by
 obtain⟨i0,hi,hz0,hz1,hz2⟩:=info_parts Tryz.info5
 have d1:decide ((m:Int)<0)=false:=by simp
 have d2:decide (64<(m:Int))=false:=by simp;omega
 go_enter Tryz.func77,Tryz.ntmps77
 go_wp2_with (at_make;refine wpList_make_full _ rfl _ _ 26 rfl w.heap.size 5 i0 (.int .u8 0) 1 Tryz.underlying26 hi hz0 hz1 _ _ _ _ m rfl rfl rfl rfl ?b1 ?b2 ?b3 ?_)
 case b1=>rw[hz2];omega
 case b2=>unfold maxLen;omega
 case b3=>exact Nat.le_refl _
 intro w1 hown0 hgrow
 have HB:=zwd (zgW (n:=n) hown0 hgrow)
 clear hown0 hgrow hz2 hz1 hz0 hi
 go_wp2
 go_loopw [0,17] (fun t i wr=>∃k:Nat,∃s:Int,k<=m/\ 0<=s/\ s<=18446744073709551615/\ i= .int .i64 k/\ t= .int .u64 s/\ Laid w m k n s wr) (fun _ i _=>m-(intOf i).toNat)
 case atStart=>exact⟨0,n,Nat.zero_le _,h0,h1,rfl,rfl,by simpa using HB.out⟩
 case round=>
  obtain⟨k,s,hk,hs0,hs1,rfl,rfl,hl⟩:=hrel
  by_cases hlt:k<m
  · obtain⟨⟨v,hc⟩,hf,hnext⟩:=hl.step hlt
    have HN:=zwd hnext
    clear hl hnext
    go_wp2
    go_roundw
    case rel=>exact⟨k+1,_,by omega,by omega,by omega,by go_num,rfl,HN.out _ (by omega)⟩
    case measure=>simp[intOf];omega
  · have HL:=zwd hl
    clear hl
    by_cases hs:s=0
    · subst hs
      go_wp2
      go_ret2
      exact zkc hm (by omega) HL.out
    · have hs':(s !=0)=true:=by simpa using hs
      go_wp2
      go_ret2
      exact zit hm (by omega) hs HL.out
theorem zpm (n:Int) (m:Nat) (w:World) (h0:0<=n) (h1:n<=18446744073709551615) (hm:m<=64):
 Calls Tryz.prog 81 #[.int .u64 n,.int .i64 (m:Int)] w (zbI w (zbK n m).1 (zbK n m).2):=by
 obtain⟨i0,hi,hz0,hz1,hz2⟩:=info_parts Tryz.info5
 have d1:decide ((m:Int)<0)=false:=by simp
 have d2:decide (64<(m:Int))=false:=by simp;omega
 go_enter Tryz.func81,Tryz.ntmps81
 go_wp2_with (at_make;refine wpList_make_full _ rfl _ _ 26 rfl w.heap.size 5 i0 (.int .u8 0) 1 Tryz.underlying26 hi hz0 hz1 _ _ _ _ m rfl rfl rfl rfl ?b1 ?b2 ?b3 ?_)
 case b1=>rw[hz2];omega
 case b2=>unfold maxLen;omega
 case b3=>exact Nat.le_refl _
 intro w1 hown0 hgrow
 have HB:=zwd (zgW (n:=n) hown0 hgrow)
 clear hown0 hgrow hz2 hz1 hz0 hi
 go_wp2
 go_loopw [0,7] (fun t i wr=>∃k:Nat,∃s:Int,k<=m/\ 0<=s/\ s<=18446744073709551615/\ i= .int .i64 ((m:Int)-1-k)/\ t= .int .u64 s/\ Laid w m k n s wr) (fun _ i _=>(intOf i+1).toNat)
 case atStart=>exact⟨0,n,Nat.zero_le _,h0,h1,by simp,rfl,by simpa using HB.out⟩
 case round=>
  obtain⟨k,s,hk,hs0,hs1,rfl,rfl,hl⟩:=hrel
  by_cases hlt:k<m
  · obtain⟨⟨v,hc⟩,hf,hnext⟩:=hl.step hlt
    have HN:=zwd hnext
    clear hl hnext
    have t1:(0:Int)<=(m:Int)-1-k:=by omega
    go_wp2
    go_roundw
    case rel=>exact⟨k+1,_,by omega,by omega,by omega,by go_num,rfl,HN.out _ (by omega)⟩
    case measure=>simp[intOf];omega
  · have HL:=zwd hl
    clear hl
    have t1:¬(0:Int)<=(m:Int)-1-k:=by omega
    by_cases hs:s=0
    · subst hs
      go_wp2
      go_ret2
      exact zkc hm (by omega) HL.out
    · have hs':0<s:=by omega
      go_wp2
      go_ret2
      exact zit hm (by omega) hs HL.out
theorem ziu {n many:Int} (h:many<0 \/64<many):zbK n many=([],false):=by
 rw[zbK,if_neg (by omega)]
theorem zpn (n many:Int) (w:World) (h:many<0 \/64<many):
 Calls Tryz.prog 77 #[.int .u64 n,.int .i64 many] w (zbI w (zbK n many).1 (zbK n many).2):=by
 rw[ziu h]
 rcases h with h|h
 · go_enter Tryz.func77,Tryz.ntmps77
   go_wp2
   go_ret2
   exact⟨none,0,rfl,Row.nil _ _,Below.refl _ _,Nat.le_refl _⟩
 · have h':¬many<0:=by omega
   go_enter Tryz.func77,Tryz.ntmps77
   go_wp2
   go_ret2
   exact⟨none,0,rfl,Row.nil _ _,Below.refl _ _,Nat.le_refl _⟩
theorem zn8 (n many:Int) (w:World) (h:many<0 \/64<many):
 Calls Tryz.prog 81 #[.int .u64 n,.int .i64 many] w (zbI w (zbK n many).1 (zbK n many).2):=by
 rw[ziu h]
 rcases h with h|h
 · go_enter Tryz.func81,Tryz.ntmps81
   go_wp2
   go_ret2
   exact⟨none,0,rfl,Row.nil _ _,Below.refl _ _,Nat.le_refl _⟩
 · have h':¬many<0:=by omega
   go_enter Tryz.func81,Tryz.ntmps81
   go_wp2
   go_ret2
   exact⟨none,0,rfl,Row.nil _ _,Below.refl _ _,Nat.le_refl _⟩
theorem zpo (n many:Int) (w:World) (h0:0<=n) (h1:n<=18446744073709551615):
 Calls Tryz.prog 77 #[.int .u64 n,.int .i64 many] w (zbI w (zbK n many).1 (zbK n many).2):=by
 by_cases h:many<0 \/64<many
 · exact zpn n many w h
 · obtain⟨m,rfl⟩:=Int.eq_ofNat_of_zero_le (show 0<=many by omega)
   exact zsb n m w h0 h1 (by omega)
theorem ziv (n many:Int) (w:World) (h0:0<=n) (h1:n<=18446744073709551615):
 Calls Tryz.prog 81 #[.int .u64 n,.int .i64 many] w (zbI w (zbK n many).1 (zbK n many).2):=by
 by_cases h:many<0 \/64<many
 · exact zn8 n many w h
 · obtain⟨m,rfl⟩:=Int.eq_ofNat_of_zero_le (show 0<=many by omega)
   exact zpm n m w h0 h1 (by omega)
end Go.Proofs.YtpgahclpbdpbnaaGreatDoor
namespace Go.Proofs.YtpgahclpbdpbnaaGreatDoor
open Go.RowKit
set_option linter.unusedVariables false
def rotZ (x:Int) (n:Nat):Int:=x/2^n+x%2^n*2^(32-n)
def sx (x y z:Int):Int:=bits .xor .u32 (bits .xor .u32 x y) z
def lowS (x:Int):Int:=sx (rotZ x 7) (rotZ x 18) (x/8)
def zuh (y:Int):Int:=sx (rotZ y 17) (rotZ y 19) (y/1024)
def bigE (e:Int):Int:=sx (rotZ e 6) (rotZ e 11) (rotZ e 25)
def bigA (a:Int):Int:=sx (rotZ a 2) (rotZ a 13) (rotZ a 22)
def choose (e f g:Int):Int:=bits .or .u32 (bits .and .u32 e f) (bits .and .u32 (bits .xor .u32 IntKind.u32.max e) g)
def most (a b c:Int):Int:=bits .or .u32 (bits .or .u32 (bits .and .u32 a b) (bits .and .u32 a c)) (bits .and .u32 b c)
def m32 (x:Int):Int:=x%4294967296
def zcm:List Int:=[
 0x428a2f98,0x71374491,0xb5c0fbcf,0xe9b5dba5,0x3956c25b,0x59f111f1,0x923f82a4,0xab1c5ed5,
 0xd807aa98,0x12835b01,0x243185be,0x550c7dc3,0x72be5d74,0x80deb1fe,0x9bdc06a7,0xc19bf174,
 0xe49b69c1,0xefbe4786,0x0fc19dc6,0x240ca1cc,0x2de92c6f,0x4a7484aa,0x5cb0a9dc,0x76f988da,
 0x983e5152,0xa831c66d,0xb00327c8,0xbf597fc7,0xc6e00bf3,0xd5a79147,0x06ca6351,0x14292967,
 0x27b70a85,0x2e1b2138,0x4d2c6dfc,0x53380d13,0x650a7354,0x766a0abb,0x81c2c92e,0x92722c85,
 0xa2bfe8a1,0xa81a664b,0xc24b8b70,0xc76c51a3,0xd192e819,0xd6990624,0xf40e3585,0x106aa070,
 0x19a4c116,0x1e376c08,0x2748774c,0x34b0bcb5,0x391c0cb3,0x4ed8aa4a,0x5b9cca4f,0x682e6ff3,
 0x748f82ee,0x78a5636f,0x84c87814,0x8cc70208,0x90befffa,0xa4506ceb,0xbef9a3f7,0xc67178f2]
theorem zkd:∀x∈zcm,0<=x/\ x<=4294967295:=by decide+kernel
structure V8 where
 a:Int
 b:Int
 c:Int
 d:Int
 e:Int
 f:Int
 g:Int
 h:Int
def V8.list (v:V8):List Int:=[v.a,v.b,v.c,v.d,v.e,v.f,v.g,v.h]
def W32 (x:Int):Prop:=0<=x/\ x<=4294967295
def V8.ok (v:V8):Prop:=W32 v.a/\ W32 v.b/\ W32 v.c/\ W32 v.d/\ W32 v.e/\ W32 v.f/\ W32 v.g/\ W32 v.h
def H0:V8:=⟨0x6a09e667,0xbb67ae85,0x3c6ef372,0xa54ff53a,0x510e527f,0x9b05688c,0x1f83d9ab,0x5be0cd19⟩
def zeY (b:List Int) (i:Nat):Int:=((b[i]?.getD 0*256+b[i+1]?.getD 0)*256+b[i+2]?.getD 0)*256+b[i+3]?.getD 0
def zn9 (l:List Int) (t:Nat):Int:=m32 (l[t-16]?.getD 0+lowS (l[t-15]?.getD 0)+l[t-7]?.getD 0+zuh (l[t-2]?.getD 0))
def zaR (b:List Int):Nat->List Int
 |0=> []
 |k+1=>zaR b k++[if k<16 then zeY b (4*k)else zn9 (zaR b k) k]
def zsc (v:V8) (c w:Int):V8:=
 let p:=m32 (v.h+bigE v.e+choose v.e v.f v.g+c+w)
 let q:=m32 (bigA v.a+most v.a v.b v.c)
 ⟨m32 (p+q),v.a,v.b,v.c,m32 (v.d+p),v.e,v.f,v.g⟩
def zba (s:V8) (ws:List Int):Nat->V8
 |0=>s
 |t+1=>zsc (zba s ws t) (zcm[t]?.getD 0) (ws[t]?.getD 0)
def addV (v s:V8):V8:=⟨m32 (v.a+s.a),m32 (v.b+s.b),m32 (v.c+s.c),m32 (v.d+s.d),m32 (v.e+s.e),m32 (v.f+s.f),m32 (v.g+s.g),m32 (v.h+s.h)⟩
def zbC (s:V8) (b:List Int):V8:=addV (zba s (zaR b 64) 64) s
def runV:Nat->V8->List Int->V8
 |0,s,_=>s
 |k+1,s,l=>runV k (zbC s (l.take 64)) (l.drop 64)
def padN (n:Nat):Nat:=(119-n%64)%64
def zdI (zs:List Int):List Int:=zs++[128]++List.replicate (padN zs.length) 0++beZ 8 (8*(zs.length:Int))
def outV (v:V8):List Int:=v.list.flatMap fun x=>beZ 4 x
def zbV (zs:List Int):List Int:=outV (runV ((zdI zs).length/64) H0 (zdI zs))
theorem zmJ (zs:List Int):(zdI zs).length=64*((zs.length+9+padN zs.length)/64)/\ (zs.length+1+padN zs.length)%64=56:=by
 unfold zdI padN
 simp only[List.length_append,List.length_cons,List.length_nil,List.length_replicate,zbH]
 omega
theorem zcf (b:List Int) (k:Nat):(zaR b k).length=k:=by
 induction k with
 |zero=>rfl
 |succ k ih=>rw[zaR,List.length_append,ih];rfl
theorem zbN (x:Int):W32 (m32 x):=by unfold W32 m32;omega
end Go.Proofs.YtpgahclpbdpbnaaGreatDoor
namespace Go.Proofs.YtpgahclpbdpbnaaGreatDoor
open Go.RowKit
theorem Tryz.infoByte:(Tryz.prog.info? 5).map (fun i=>(i.zero,i.size,i.bytes))=some (some (.int .u8 0),1,1):=by kernel_rfl
def Out (W0 wr:World) (V:Value) (L:List Int):Prop:=wr.ownsRow W0.heap.size 5 1 V L.length (L.map (Value.int .u8))/\ Below W0.heap.size W0 wr
theorem Out.below {W0 wr w':World} {V:Value} {L:List Int} (h:Out W0 wr V L) (hb:Below wr.heap.size wr w'):Out W0 w' V L:=by
 refine⟨⟨h.1.1,?_⟩,h.2.trans (hb.mono h.2.size)⟩
 rcases h.1.2 with h'|⟨g,cap,cur,e,h1,h2,h3⟩
 · exact .inl h'
 · exact .inr ⟨g,cap,cur,e,h1,(hb.block g (Array.getElem?_eq_some_iff.1 h2).1).trans h2,h3⟩
theorem Out.app {W0 wr w1:World} {V V':Value} {L:List Int} {x:Int} {o:Obj} (h:Out W0 wr V L) (h1:w1.ownsRow W0.heap.size 5 1 V' (L.length+1) (L.map (Value.int .u8)++[.int .u8 x])) (hg:(wr.alloc o).grownBy w1 V.ownBlock):Out W0 w1 V' (L++[x]):=by
 refine⟨by rw[List.length_append,List.map_append];exact h1,?_⟩
 exact(h.2.alloc h.2.size o).grown hg (by have:=h.2.size;simp;omega) (fun k hk=>(h.1.lt k hk).1)
theorem Out.row {W0 wr:World} {V:Value} {L:List Int} (h:Out W0 wr V L) (hL:∀x∈L,0<=x/\ x<=255):∃a c,V= .slice a L.length c/\ Row wr a L.length L:=by
 rcases h.1.2 with⟨rfl,h0⟩|⟨g,cap,cur,rfl,_⟩
 · have:L=[]:=List.eq_nil_of_length_eq_zero h0
   subst this
   exact⟨none,0,rfl,Row.nil _ _⟩
 · exact⟨_,cap,rfl,Row.of_own h.1 hL⟩
theorem Out.made {W0:World} (c:Nat) (hc:c<=1000000):Out W0 (W0.alloc (.cells (madeCells #[.int .u8 0] c) 5)) (.slice (some ⟨W0.heap.size,0,none⟩) 0 c) []:=
 ⟨World.ownsRow_made W0 _ c (Nat.le_refl _) (by unfold maxLen;omega) (by rw[size_madeCells];simp),(Below.refl _ _).alloc (Nat.le_refl _) _⟩
theorem zfU (n:Nat) (hn:n<=1000000) (W:World):(Instr.makeSlice 26 (.int .i64 0) (.int .i64 (n:Int))).run Tryz.prog W= .ok (.slice (some ⟨W.heap.size,0,none⟩) 0 n) (W.alloc (.cells (madeCells #[.int .u8 0] n) 5)):=by
 obtain⟨i0,hi5,hz0,hz1,hz2⟩:=info_parts Tryz.infoByte
 have hr:=run_make (P:=Tryz.prog) W 26 5 i0 (.int .u8 0) Tryz.underlying26 hi5 hz0 .i64 .i64 0 n (by omega) (by omega) (by rw[hz2];omega) (by omega)
 rw[hz1]at hr
 simpa[Value.cells]using hr
theorem Row.first {w:World} {a:Option Addr} {n:Nat} {zs:List Int} (h:Row w a n zs) (k:Nat) (hk:k<=n):Row w a k (zs.take k):=by
 have hl:=h.1
 refine⟨by rw[List.length_take];omega,fun x hx=>h.2.1 x (List.mem_of_mem_take hx),fun h0=> ?_⟩
 obtain⟨b,off,e,hb,hc⟩:=h.2.2 (by omega)
 exact⟨b,off,e,hb,fun i hi=>by rw[hc i (by omega),List.getElem?_take,if_pos hi]⟩
theorem Row.cells {w:World} {ad:Addr} {n:Nat} {zs:List Int} (h:Row w (some ad) n zs):∀j u,(zs.map (Value.int .u8))[j]?=some u->w.cell? (ad.add j)=some u:=by
 intro j u hu
 rw[List.getElem?_map]at hu
 rcases Nat.lt_or_ge j zs.length with hl|hl
 · have hn:=h.1
   obtain⟨b,off,e,_,hc⟩:=h.2.2 (by omega)
   injection e with e
   subst e
   rw[Addr.add_lit,hc j (by omega)]
   rw[List.getElem?_eq_getElem hl]at hu⊢
   simpa using hu
 · rw[List.getElem?_eq_none hl]at hu
   cases hu
theorem zag {ops:Array Oper} {rest:List Oper} {o:Oper} {a:Act} {Q:Exit->Act->World->Prop} {W0 w:World} {V:Value} {L zs:List Int} {A:Option Addr} {m c:Nat} (hgd:o.guard=none) (s x:Operand)
 (hop:o.op= .call {callee:= .builtin .append,args:=#[s,x],argTypes:=#[26,26]}) (hs:a.eval s=V) (hout:Out W0 w V L) (hx:a.eval x= .slice A m c) (hr:Row w A m zs) (hnil:A=none->c=0) (hl:L.length+m<=1000000)
 (h:∀V' w',Out W0 w' V' (L++zs)->wpList Tryz.prog ops Q rest (a.put o.dst V') w'):wpList Tryz.prog ops Q (o::rest) a w:=by
 obtain⟨i0,hi5,hz0,hz1,hz2⟩:=info_parts Tryz.infoByte
 cases A with
 |none=>
   obtain rfl:=hnil rfl
   have hm:m=0:=by
    rcases Nat.eq_zero_or_pos m with h0|h0
    · exact h0
    · obtain⟨_,_,e,_⟩:=hr.2.2 h0
      cases e
   subst hm
   obtain rfl:zs=[]:=List.eq_nil_of_length_eq_zero hr.1
   refine wpList_append_own_none hgd s x 26 hop W0.heap.size 5 i0 1 Tryz.underlying26 hi5 V L.length _ hs hout.1 hx ?_
   have:=h V w (by simpa using hout)
   exact this
 |some ad=>
   refine wpList_append_own _ hgd s x 26 hop W0.heap.size 5 i0 (.int .u8 0) 1 1 Tryz.underlying26 hi5 hz0 hz1 hz2 rfl (by decide) V L.length (L.map (Value.int .u8)) hs hout.1 ad m c (zs.map (Value.int .u8)) hx (by rw[List.length_map,hr.1,Nat.mul_one]) hr.cells ?_ (by unfold maxLen;omega) (by omega) hout.2.size ?_
   · intro u hu
     obtain⟨_,_,rfl⟩:=List.mem_map.1 hu
     rfl
   · intro V' w' hown hg _
     refine h V' w' ⟨?_,hout.2.grown hg hout.2.size (fun k hk=>(hout.1.lt k hk).1)⟩
     rw[List.length_append,hr.1,List.map_append]
     exact hown
theorem Out.alloc {W0 wr:World} {V:Value} {L:List Int} (h:Out W0 wr V L) (o:Obj):Out W0 (wr.alloc o) V L:=h.below ((Below.refl _ _).alloc (Nat.le_refl _) o)
theorem Out.nilc {W0 wr:World} {a:Option Addr} {n c:Nat} {L:List Int} (h:Out W0 wr (.slice a n c) L):a=none->c=0:=by
 intro e
 subst e
 rcases h.1.2 with⟨e,_⟩|⟨g,cap,cur,e,_⟩
 · injection e
 · cases e
theorem zbd (w:World) (z:Int):Out w (w.alloc (.cells #[.int .u8 z] 5)) (.slice (some ⟨w.heap.size,0,none⟩) 1 1) [z]:=
 ⟨⟨rfl,.inr ⟨w.heap.size,1,#[.int .u8 z],rfl,Nat.le_refl _,heap_alloc_new w _,Nat.le_refl _,by unfold maxLen;omega,rfl,rfl⟩⟩,(Below.refl _ _).alloc (Nat.le_refl _) _⟩
theorem Out.form {W0 wr:World} {V:Value} {L:List Int} (h:Out W0 wr V L) (h0:0<L.length):∃g cap,V= .slice (some ⟨g,0,none⟩) L.length cap/\ W0.heap.size<=g:=by
 rcases h.1.2 with⟨_,e⟩|⟨g,cap,cur,e,hb,_⟩
 · omega
 · exact⟨g,cap,e,hb⟩
theorem Out.cell {W0 wr:World} {g cap n:Nat} {L:List Int} (h:Out W0 wr (.slice (some ⟨g,0,none⟩) n cap) L) (j:Nat) (hj:j<L.length):wr.cell? ⟨g,j,none⟩=some (.int .u8 (L[j]?.getD 0))/\ wr.frozen? ⟨g,j,none⟩=false:=by
 have hn:n=L.length:=by
  rcases h.1.2 with⟨e,_⟩|⟨g,cap,cur,e,hb,_⟩
  · cases e
  · injection e
 subst hn
 refine⟨?_,h.1.frozenAt j⟩
 rw[h.1.cellAt j (by omega),List.getElem?_map,List.getElem?_eq_getElem hj]
 rfl
theorem Out.set {W0 wr:World} {g cap n:Nat} {L:List Int} (h:Out W0 wr (.slice (some ⟨g,0,none⟩) n cap) L) (hg:W0.heap.size<=g) (j:Nat) (x:Int):Out W0 (wr.setCell ⟨g,j,none⟩ (.int .u8 x)) (.slice (some ⟨g,0,none⟩) n cap) (L.set j x):=by
 have hn:n=L.length:=by
  rcases h.1.2 with⟨e,_⟩|⟨g,cap,cur,e,hb,_⟩
  · cases e
  · injection e
 subst hn
 refine⟨?_,h.2.setCell hg _⟩
 have:=(h.1.stored j (.int .u8 x)).1
 rw[List.length_set,List.map_set]
 exact this
theorem zaJ {w:World} {base n cap m:Nat} {a:Option Addr} {vs:List Value} (h:w.ownsRow base 5 1 (.slice a n cap) m vs):n<=cap:=by
 rcases h.2 with⟨e,_⟩|⟨g,cap',cur,e,h1,h2,h3⟩
 · injection e with _ e1 e2
   omega
 · injection e with e0 e1 e2
   omega
theorem zaY (w:World) (zs:List Int) (fr:Nat×Nat) (hz:∀x∈zs,0<=x/\ x<=255):Row (w.alloc (.cells (zs.map (Value.int .u8)).toArray 5 fr)) (some ⟨w.heap.size,0,none⟩) zs.length zs:=by
 refine⟨rfl,hz,fun _=>⟨w.heap.size,0,rfl,by simp,fun i hi=> ?_⟩⟩
 have e:=heap_alloc_new w (.cells (zs.map (Value.int .u8)).toArray 5 fr)
 simp only[World.cell?,e]
 simp[hi]
theorem zbx {w:World} {a:Option Addr} {n:Nat} {zs:List Int} (cap:Nat) (h:Row w a n zs):(convert 26 9 (.slice a n cap)).run Tryz.prog w= .ok (.string (strOfNums zs)) w:=
 h.conv 26 9 5 Tryz.underlying26 Tryz.underlying5 Tryz.underlying9
def zae (s:ByteArray):List Int:=s.data.toList.map fun c=>(c.toNat:Int)
theorem zaK (s:ByteArray):(zae s).length=s.size:=by
 show(s.data.toList.map _).length=s.data.size
 rw[List.length_map,Array.length_toList]
def nth (s:ByteArray) (k:Nat):Int:=(zae s)[k]?.getD 0
theorem zke (s:ByteArray):∀x∈zae s,0<=x/\ x<=255:=by
 intro x hx
 obtain⟨c,_,rfl⟩:=List.mem_map.1 hx
 have:=UInt8.toNat_lt c
 omega
theorem zfj (s:ByteArray) (k:Nat):0<=nth s k/\ nth s k<=255:=by
 unfold nth
 rcases Nat.lt_or_ge k (zae s).length with h|h
 · rw[List.getElem?_eq_getElem h]
   exact zke s _ (List.getElem_mem h)
 · rw[List.getElem?_eq_none h]
   simp
theorem zd3 (s:ByteArray) (k:Nat) (h:k<s.size) (i:Int) (hi:i=k) (W:World):(Instr.index 9 (.string s) (.int .i64 i)).run Tryz.prog W= .ok (.int .u8 (nth s k)) W:=by
 subst hi
 rw[run_index_string W 9 s .i64 _ Tryz.underlying9,dif_pos ⟨by omega,by omega⟩]
 have e:(((s[(k:Int).toNat]'(by omega)).toNat:Nat):Int)=nth s k:=by
  simp only[nth,zae,Int.toNat_natCast]
  rw[List.getElem?_map,List.getElem?_eq_getElem (show k<s.data.toList.length from by rw[Array.length_toList];exact h)]
  simp only[Option.map_some,Option.getD_some]
  rfl
 rw[e]
theorem zcG (xs:List Int) (h:∀x∈xs,0<=x/\ x<=255):zae (strOfNums xs)=xs:=by
 unfold zae
 rw[strOfNums_data,List.map_map]
 conv=>rhs;rw[<-List.map_id xs]
 refine List.map_congr_left fun x hx=> ?_
 have hb:=h x hx
 simp only[Function.comp,id]
 rw[UInt8.toNat_ofNat',Nat.mod_eq_of_lt (by omega)]
 omega
theorem zsd (s:ByteArray):strOfNums (zae s)=s:=by
 unfold strOfNums zae
 rw[List.map_map]
 have:s.data.toList.map ((fun n:Int=>UInt8.ofNat n.toNat)∘fun c:UInt8=>(c.toNat:Int))=s.data.toList:=by
  conv=>rhs;rw[<-List.map_id s.data.toList]
  refine List.map_congr_left fun c _=> ?_
  simp
 rw[this]
theorem zgX {a b:ByteArray} (h:a.toList=b.toList):a=b:=by
 rw[ByteArray.toList_eq,ByteArray.toList_eq]at h
 exact ByteArray.ext (Array.ext' h)
theorem zey (xs ys:List Int):strOfNums (xs++ys)=strOfNums xs++strOfNums ys:=by
 apply ByteArray.ext
 apply Array.ext'
 simp[strOfNums_data]
end Go.Proofs.YtpgahclpbdpbnaaGreatDoor
namespace Go.Proofs.YtpgahclpbdpbnaaGreatDoor
open Go.RowKit
section
variable {P : Program} {ops : Array Oper} {Q : Exit -> Act -> World -> Prop} {R : World -> World -> Prop}
def Ext (w W:World):Prop:=Below w.heap.size w W
theorem Ext.refl (w:World):Ext w w:=Below.refl _ _
theorem Ext.trans {a b c:World} (h:Ext a b) (k:Ext b c):Ext a c:=Below.trans h (Below.mono k h.size)
theorem Ext.of_drew {w W:World} (h:Ext w.drew W):Ext w W:=⟨h.os,h.tape,h.output,h.size,h.block⟩
theorem Ext.drew {w W:World} (h:Ext w W):Ext w W.drew:=⟨h.os,h.tape,h.output,h.size,h.block⟩
theorem zgY {S S':World->Prop} (hs:∀W,S' W->S W):∀(fuel:Nat) (listed:Array Bool) (a:Act) (w:World),
 wpAnyH P .any ops Q S' fuel listed a w->wpAnyH P .any ops Q S fuel listed a w
 |0,_,_,_,h=>h
 |fuel+1,_,_,_,h=>⟨h.1,fun i hi=>wpOp_mono (fun _ _ h'=>⟨hs _ h'.1,zgY hs fuel _ _ _ h'.2⟩) (h.2 i hi)⟩
def zgA (P:Program) (l:List Oper) (R:World->World->Prop) (Q:Exit->Act->World->Prop):List (Nat×Bool)->Act->World->Prop
 | [],a,w=>Q .normal a w
 |(i,sole)::rest,a,w=>∃o,l[i]?=some o/\
   ((Region.wanted o (yielded l.toArray a.tmps)=false/\ zgA P l R Q rest (a.put o.dst undef) w) \/
    (Region.wanted o (yielded l.toArray a.tmps)=true/\
      if sole then o.wp P a w (fun a' w'=>R w w'/\ zgA P l R Q rest a' w') Q
      else∃v,(∀W,R w W->(execOp a.eval o).run P W= .ok (.value v) W)/\ zgA P l R Q rest (a.put o.dst v) w))
def ordB (l:List Oper):List (Nat×Bool)->Array Bool->Bool
 | [],listed=>(Region.ready .any l.toArray listed).isEmpty
 |(i,sole)::rest,listed=>
   (if sole then Region.ready .any l.toArray listed==[i]else(Region.ready .any l.toArray listed).contains i&&Region.free .any l.toArray listed i)&&ordB l rest (listed.setIfInBounds i true)
theorem zc8 {l:List Oper} (hrefl:∀w,R w w) (htrans:∀a b c,R a b->R b c->R a c) (hs:Region.noSelect l.toArray=true) (hQ:∀d v c a w,Q (.panic c) (a.put d v) w->Q (.panic c) a w):
 ∀(order:List (Nat×Bool)) (listed:Array Bool) (a:Act) (w:World),ordB l order listed=true->zgA P l R Q order a w->wpAnyH P .any l.toArray Q (R w) order.length listed a w
 | [],listed,a,w,hB,h=>by
   have:Region.ready .any l.toArray listed=[]:=by simpa[ordB]using hB
   exact wpAnyH_done this h _
 |(i,sole)::rest,listed,a,w,hB,h=>by
   obtain⟨o,ho,h⟩:=h
   have hi:l.toArray[i]?=some o:=by simpa using ho
   rw[ordB,Bool.and_eq_true]at hB
   obtain⟨h1,hB'⟩:=hB
   cases sole with
   |false=>
     rw[if_neg (by simp),Bool.and_eq_true]at h1
     rcases h with⟨hw,h⟩|⟨hw,h⟩
     · exact wpAnyH_take hi hs h1.2 h1.1 (hQ _ _) (.inr ⟨hw,rfl⟩) (hrefl w) (zc8 hrefl htrans hs hQ rest _ _ _ hB' h)
     · rw[if_neg (by simp)]at h
       obtain⟨v,hv,h⟩:=h
       exact wpAnyH_take hi hs h1.2 h1.1 (hQ _ _) (.inl ⟨hw,hv⟩) (hrefl w) (zc8 hrefl htrans hs hQ rest _ _ _ hB' h)
   |true=>
     rw[if_pos rfl]at h1
     have hr:Region.ready .any l.toArray listed=[i]:=by simpa using h1
     refine wpAnyH_all hr (by simp) (fun j hj=> ?_)
     obtain rfl:j=i:=by simpa using hj
     unfold wpOp
     simp only[hi]
     rcases h with⟨hw,h⟩|⟨hw,h⟩
     · rw[if_neg (by rw[hw];simp)]
       exact⟨hrefl w,zc8 hrefl htrans hs hQ rest _ _ _ hB' h⟩
     · rw[if_pos rfl]at h
       rw[if_pos hw]
       exact .inl (Oper.wp_mono (fun a' w' h'=>⟨h'.1,zgY (fun W hW=>htrans _ _ _ h'.1 hW) _ _ _ _ (zc8 hrefl htrans hs hQ rest _ _ _ hB' h'.2)⟩) h)
theorem zaa {id:Nat} {a:Act} {w:World} {l:List Oper} (R:World->World->Prop) (hrefl:∀w,R w w) (htrans:∀a b c,R a b->R b c->R a c) (order:List (Nat×Bool)) (hm:P.follows .mixedOrders=true) (hs:Region.noSelect l.toArray=true) (hn:order.length=l.length)
 (hB:ordB l order (Array.replicate l.length false)=true) (hQ:∀d v c a w,Q (.panic c) (a.put (some d) v) w->Q (.panic c) a w) (h:zgA P l R Q order a w.drew):(Code.region id l.toArray true).wp P Q a w:=by
 refine wp_region_held (S:=R w.drew) hm ?_
 have hQ':∀d v c a w,Q (.panic c) (a.put d v) w->Q (.panic c) a w:=fun d=>by
  cases d with
  |none=>exact fun _ _ _ _ h=>h
  |some d=>exact hQ d
 have:=zc8 hrefl htrans hs hQ' order (Array.replicate l.length false) a w.drew hB h
 rw[hn]at this
 simpa using this
section
variable {l : List Oper} {rest : List (Nat × Bool)} {a : Act} {w : World} {i : Nat} {o : Oper}
theorem zaw {sole:Bool} (ho:l[i]?=some o) (hw:Region.wanted o (yielded l.toArray a.tmps)=false) (h:zgA P l R Q rest (a.put o.dst undef) w):zgA P l R Q ((i,sole)::rest) a w:=
 ⟨o,ho,.inl ⟨hw,h⟩⟩
theorem zab (v:Value) (ho:l[i]?=some o) (hw:Region.wanted o (yielded l.toArray a.tmps)=true) (hv:∀W,R w W->(execOp a.eval o).run P W= .ok (.value v) W)
 (h:zgA P l R Q rest (a.put o.dst v) w):zgA P l R Q ((i,false)::rest) a w:=
 ⟨o,ho,.inr ⟨hw,v,hv,h⟩⟩
theorem zad (ho:l[i]?=some o) (hw:Region.wanted o (yielded l.toArray a.tmps)=true) (h:∀K:Act->World->Prop,(∀a' w',R w w'->zgA P l R Q rest a' w'->K a' w')->o.wp P a w K Q):zgA P l R Q ((i,true)::rest) a w:=
 ⟨o,ho,.inr ⟨hw,h _ (fun _ _ he h=>⟨he,h⟩)⟩⟩
theorem zai (h:Q .normal a w):zgA P l R Q [] a w:=h
end
end
end Go.Proofs.YtpgahclpbdpbnaaGreatDoor
namespace Go.Proofs.YtpgahclpbdpbnaaGreatDoor
open Go.RowKit
theorem Row.rest {w:World} {a:Option Addr} {n:Nat} {zs:List Int} (h:Row w a n zs) (k c:Nat) (hk:k<=n) (hc:n<=c):Row w (if c=k then a else a.map (·.add k)) (n-k) (zs.drop k):=by
 refine⟨by rw[List.length_drop,h.1],fun x hx=>h.2.1 x (List.mem_of_mem_drop hx),fun h0=> ?_⟩
 obtain⟨b,off,e,hb,hcell⟩:=h.2.2 (by omega)
 subst e
 rw[if_neg (by omega)]
 refine⟨b,off+k,by rw[Option.map_some,Addr.add_lit],hb,fun i hi=> ?_⟩
 rw[Nat.add_assoc,hcell (k+i) (by omega),List.getElem?_drop]
theorem Row.set {w:World} {a:Option Addr} {n:Nat} {zs:List Int} (h:Row w a n zs) (g j:Nat) (v:Value) (hne:0<n->∃b off,a=some ⟨b,off,none⟩/\ b≠g):Row (w.setCell ⟨g,j,none⟩ v) a n zs:=by
 refine⟨h.1,h.2.1,fun h0=> ?_⟩
 obtain⟨b,off,e,hb,hcell⟩:=h.2.2 h0
 obtain⟨b',off',e',hb'⟩:=hne h0
 rw[e]at e'
 obtain⟨rfl,rfl⟩:b=b'/\ off=off':=by simpa using e'
 refine⟨b,off,e,by simpa using hb,fun i hi=> ?_⟩
 rw[<-hcell i hi]
 simp only[World.cell?,heap_setCell_other w ⟨g,j,none⟩ b v hb']
end Go.Proofs.YtpgahclpbdpbnaaGreatDoor
namespace Go.Proofs.YtpgahclpbdpbnaaGreatDoor
open Go.RowKit
theorem zc1 {w:World} {p:Addr} {v:Value} (h:w.cell? p=some v):p.block<w.heap.size:=by
 rcases Nat.lt_or_ge p.block w.heap.size with hl|hl
 · exact hl
 · simp[World.cell?,Array.getElem?_eq_none hl]at h
theorem zkf {w:World} {a:Option Addr} {len cap:Nat} {zs:List Int}
 (h:(a=none/\ len=0/\ cap=0/\ zs=[]) \/
   ∃x,a=some x/\ len<=cap/\ cap<=maxLen/\ zs.length=cap/\ (∀i,i<zs.length->w.cell? (x.add i)=some (.int .u8 (zs.getD i 0)))/\ ∀n∈zs,(Lit.int .u8 n).wf=true):
 Row w a len (zs.take len)/\ len<=maxLen:=by
 rcases h with⟨rfl,rfl,rfl,rfl⟩|⟨x,rfl,hl,hm,hz,hcell,hwz⟩
 · exact⟨Row.nil _ _,Nat.zero_le _⟩
 · refine⟨⟨by rw[List.length_take];omega,fun y hy=> ?_,fun hn=> ?_⟩,by omega⟩
   · have:=hwz y (List.mem_of_mem_take hy)
     have:=bounds_u8 this
     omega
   · obtain⟨b,off,spot⟩:=x
     have hc:=hcell 0 (by omega)
     have hspot:spot=none:=by simpa[Addr.add]using World.cell?_spot hc
     subst hspot
     refine⟨b,off,rfl,by have:=zc1 hc;simpa[Addr.add]using this,fun i hi=> ?_⟩
     have:=hcell i (by omega)
     rw[Addr.add_lit]at this
     rw[this,List.getD_eq_getElem?_getD,List.getElem?_take,if_pos hi]
end Go.Proofs.YtpgahclpbdpbnaaGreatDoor
namespace Go.Proofs.YtpgahclpbdpbnaaGreatDoor
open Go.RowKit
set_option linter.unusedVariables false
def Blk (w:World) (g:Nat) (t:TypeId) (cs:Array Value):Prop:=w.heap[g]?=some (.cells cs t (0,0))
theorem Blk.lt {w:World} {g:Nat} {t:TypeId} {cs:Array Value} (h:Blk w g t cs):g<w.heap.size:=(Array.getElem?_eq_some_iff.1 h).1
theorem Blk.cell {w:World} {g:Nat} {t:TypeId} {cs:Array Value} (h:Blk w g t cs) (j:Nat):w.cell? ⟨g,j,none⟩=cs[j]?:=by
 unfold Blk at h
 simp only[World.cell?,h]
 rfl
theorem Blk.free {w:World} {g:Nat} {t:TypeId} {cs:Array Value} (h:Blk w g t cs) (j:Nat):w.frozen? ⟨g,j,none⟩=false:=by
 unfold Blk at h
 simp[World.frozen?,h]
theorem Blk.new (w:World) (t:TypeId) (cs:Array Value):Blk (w.alloc (.cells cs t)) w.heap.size t cs:=heap_alloc_new w _
theorem Blk.below {w w':World} {g B:Nat} {t:TypeId} {cs:Array Value} (h:Blk w g t cs) (hb:Below B w w') (hg:g<B):Blk w' g t cs:=(hb.block g hg).trans h
theorem Blk.alloc {w:World} {g:Nat} {t:TypeId} {cs:Array Value} (h:Blk w g t cs) (o:Obj):Blk (w.alloc o) g t cs:=(Below.heap_alloc w o g h.lt).trans h
theorem Blk.set {w:World} {g:Nat} {t:TypeId} {cs:Array Value} (h:Blk w g t cs) (j:Nat) (v:Value):Blk (w.setCell ⟨g,j,none⟩ v) g t (cs.setIfInBounds j v):=heap_setCell_same w g j cs t v h
theorem Blk.far {w:World} {g g':Nat} {t:TypeId} {cs:Array Value} (h:Blk w g t cs) (hne:g≠g') (j:Nat) (v:Value):Blk (w.setCell ⟨g',j,none⟩ v) g t cs:=(heap_setCell_other w ⟨g',j,none⟩ g v hne).trans h
theorem Blk.drewN {w:World} {g:Nat} {t:TypeId} {cs:Array Value} (h:Blk w g t cs) (n:Nat):Blk (w.drewN n) g t cs:=h
theorem Below.step {w w1 w2:World} (h:Below w.heap.size w w1) (k:Below w1.heap.size w1 w2):Below w.heap.size w w2:=h.trans (k.mono h.size)
theorem zaE (w:World) (n:Nat):Below w.heap.size w (w.drewN n):=⟨rfl,rfl,rfl,Nat.le_refl _,fun _ _=>rfl⟩
theorem zaf {wr:World} {b o:Nat} {v:Value} (h:wr.cell? ⟨b,o,none⟩=some v):∀W,Ext wr.drew W->W.cell? ⟨b,o,none⟩=some v:=by
 intro W hW
 have hb:b<wr.heap.size:=by
  rcases Nat.lt_or_ge b wr.heap.size with h'|h'
  · exact h'
  · simp[World.cell?,Array.getElem?_eq_none h']at h
 exact(hW.cell (p:=⟨b,o,none⟩) hb).trans h
theorem zaj {a b:Bool} (h:a=b):Ending.returned (.bool a)= .returned (.bool b):=by rw[h]
theorem zdJ (w:World):Out w (w.alloc (.cells #[] 5)) (.slice (some ⟨w.heap.size,0,none⟩) 0 0) []:=by
 have h:=Out.made (W0:=w) 0 (by omega)
 rw[show madeCells #[.int .u8 0] 0=#[]by simp[madeCells]]at h
 exact h
theorem Out.wider {w W0 wr:World} {V:Value} {L:List Int} (h:Out W0 wr V L) (hb:Below w.heap.size w W0):Out w wr V L:=by
 refine⟨⟨h.1.1,?_⟩,Below.step hb h.2⟩
 rcases h.1.2 with h'|⟨g,cap,cur,e,h1,h2⟩
 · exact .inl h'
 · exact .inr ⟨g,cap,cur,e,Nat.le_trans hb.size h1,h2⟩
theorem zgZ (w:World):Out w w (.slice none 0 0) []:=⟨⟨rfl,.inl ⟨rfl,rfl⟩⟩,Below.refl _ _⟩
def zdK (zs:List Int) (w:World) (e:Ending) (w':World):Prop:=
 ∃V,e= .returned V/\ Out w w' V zs
theorem zdK.row {zs:List Int} {w w':World} {e:Ending} (h:zdK zs w e w') (hb:∀x∈zs,0<=x/\ x<=255):∃a c,e= .returned (.slice a zs.length c)/\ Row w' a zs.length zs/\ (a=none->c=0)/\ zs.length<=c/\ Below w.heap.size w w':=by
 obtain⟨V,rfl,ho⟩:=h
 obtain⟨a,c,rfl,hr⟩:=ho.row hb
 refine⟨a,c,rfl,hr,?_,zaJ ho.1,ho.2⟩
 intro e
 subst e
 rcases ho.1.2 with⟨e,_⟩|⟨g,cap,cur,e,_⟩
 · injection e
 · cases e
theorem Out.shape {W0 wr:World} {V:Value} {L:List Int} (h:Out W0 wr V L):∃a c,V= .slice a L.length c:=by
 rcases h.1.2 with⟨rfl,h0⟩|⟨g,cap,cur,rfl,_⟩
 · exact⟨none,0,by rw[h0]⟩
 · exact⟨_,_,rfl⟩
def lenS:Value->Nat
 | .slice _ m _=>m
 |_=>0
end Go.Proofs.YtpgahclpbdpbnaaGreatDoor
namespace Go.Proofs.YtpgahclpbdpbnaaGreatDoor
open Go.RowKit
set_option linter.unusedVariables false
def zat (w:World) (a:Option Addr) (n:Nat) (zs:List Int):Prop:=
 zs.length=n/\ (∀x∈zs,0<=x/\ x<=4294967295)/\
 (0<n->∃b off,a=some ⟨b,off,none⟩/\ b<w.heap.size/\ ∀i,i<n->w.cell? ⟨b,off+i,none⟩=some (.int .u32 (zs[i]?.getD 0)))
theorem zat.below {w w':World} {a:Option Addr} {n:Nat} {zs:List Int} (h:zat w a n zs) (hb:Below w.heap.size w w'):zat w' a n zs:=by
 refine⟨h.1,h.2.1,fun hn=> ?_⟩
 obtain⟨b,off,e,hlt,hc⟩:=h.2.2 hn
 exact⟨b,off,e,Nat.lt_of_lt_of_le hlt hb.size,fun i hi=>(hb.cell (p:=⟨b,off+i,none⟩) hlt).trans (hc i hi)⟩
theorem zat.drewN {w:World} {a:Option Addr} {n:Nat} {zs:List Int} (h:zat w a n zs) (k:Nat):zat (w.drewN k) a n zs:=h
theorem zat.nil (w:World) (a:Option Addr):zat w a 0 []:=⟨rfl,by simp,fun h=>absurd h (by omega)⟩
theorem zat.num {w:World} {a:Option Addr} {n:Nat} {zs:List Int} (h:zat w a n zs) (k:Nat):0<=zs[k]?.getD 0/\ zs[k]?.getD 0<=4294967295:=by
 rcases Nat.lt_or_ge k zs.length with hk|hk
 · rw[List.getElem?_eq_getElem hk]
   exact h.2.1 _ (List.getElem_mem hk)
 · rw[List.getElem?_eq_none hk]
   simp
theorem zat.of_own {w:World} {base g n cap:Nat} {zs:List Int} (h:w.ownsRow base 22 1 (.slice (some ⟨g,0,none⟩) n cap) n (zs.map (Value.int .u32))) (hz:∀x∈zs,0<=x/\ x<=4294967295):
 zat w (some ⟨g,0,none⟩) n zs:=by
 have hl:zs.length=n:=by have:=h.1;simpa using this
 refine⟨hl,hz,fun hn=>⟨g,0,rfl,?_,fun i hi=> ?_⟩⟩
 · exact(h.lt g rfl).2
 · rw[Nat.zero_add,h.cellAt i (by omega)]
   simp[show i<zs.length by omega]
theorem zse {w:World} {a:Option Addr} {len cap:Nat} {zs:List Int}
 (h:(a=none/\ len=0/\ cap=0/\ zs=[]) \/
   ∃x,a=some x/\ len<=cap/\ cap<=maxLen/\ zs.length=cap/\ (∀i,i<zs.length->w.cell? (x.add i)=some (.int .u32 (zs.getD i 0)))/\ ∀n∈zs,(Lit.int .u32 n).wf=true):
 zat w a len (zs.take len)/\ len<=maxLen:=by
 rcases h with⟨rfl,rfl,rfl,rfl⟩|⟨x,rfl,hl,hm,hz,hcell,hwz⟩
 · exact⟨zat.nil _ _,Nat.zero_le _⟩
 · refine⟨⟨by rw[List.length_take];omega,fun y hy=> ?_,fun hn=> ?_⟩,by omega⟩
   · have:=hwz y (List.mem_of_mem_take hy)
     have:=bounds_u32 this
     omega
   · obtain⟨b,off,spot⟩:=x
     have hc:=hcell 0 (by omega)
     have hspot:spot=none:=by simpa[Addr.add]using World.cell?_spot hc
     subst hspot
     refine⟨b,off,rfl,by have:=zc1 hc;simpa[Addr.add]using this,fun i hi=> ?_⟩
     have:=hcell i (by omega)
     rw[Addr.add_lit]at this
     rw[this,List.getD_eq_getElem?_getD,List.getElem?_take,if_pos hi]
theorem Tryz.info32:(Tryz.prog.info? 22).map (fun i=>(i.zero,i.size,i.bytes))=some (some (.int .u32 0),1,4):=by kernel_rfl
def zaz (W0 wr:World) (V:Value) (L:List Int):Prop:=wr.ownsRow W0.heap.size 22 1 V L.length (L.map (Value.int .u32))/\ Below W0.heap.size W0 wr
theorem zaz.below {W0 wr w':World} {V:Value} {L:List Int} (h:zaz W0 wr V L) (hb:Below wr.heap.size wr w'):zaz W0 w' V L:=by
 refine⟨⟨h.1.1,?_⟩,h.2.trans (hb.mono h.2.size)⟩
 rcases h.1.2 with h'|⟨g,cap,cur,e,h1,h2,h3⟩
 · exact .inl h'
 · exact .inr ⟨g,cap,cur,e,h1,(hb.block g (Array.getElem?_eq_some_iff.1 h2).1).trans h2,h3⟩
theorem zaz.row {W0 wr:World} {V:Value} {L:List Int} (h:zaz W0 wr V L) (hL:∀x∈L,0<=x/\ x<=4294967295):∃a c,V= .slice a L.length c/\ zat wr a L.length L:=by
 rcases h.1.2 with⟨rfl,h0⟩|⟨g,cap,cur,rfl,_⟩
 · have:L=[]:=List.eq_nil_of_length_eq_zero h0
   subst this
   exact⟨none,0,rfl,zat.nil _ _⟩
 · exact⟨_,cap,rfl,zat.of_own h.1 hL⟩
theorem zat.cells {w:World} {ad:Addr} {n:Nat} {zs:List Int} (h:zat w (some ad) n zs):∀j u,(zs.map (Value.int .u32))[j]?=some u->w.cell? (ad.add j)=some u:=by
 intro j u hu
 rw[List.getElem?_map]at hu
 rcases Nat.lt_or_ge j zs.length with hl|hl
 · have hn:=h.1
   obtain⟨b,off,e,_,hc⟩:=h.2.2 (by omega)
   injection e with e
   subst e
   rw[Addr.add_lit,hc j (by omega)]
   rw[List.getElem?_eq_getElem hl]at hu⊢
   simpa using hu
 · rw[List.getElem?_eq_none hl]at hu
   cases hu
theorem zcJ {ops:Array Oper} {rest:List Oper} {o:Oper} {a:Act} {Q:Exit->Act->World->Prop} {W0 w:World} {V:Value} {L zs:List Int} {A:Option Addr} {m c:Nat} (hgd:o.guard=none) (s x:Operand)
 (hop:o.op= .call {callee:= .builtin .append,args:=#[s,x],argTypes:=#[23,23]}) (hs:a.eval s=V) (hout:zaz W0 w V L) (hx:a.eval x= .slice A m c) (hr:zat w A m zs) (hnil:A=none->c=0) (hl:L.length+m<=1000000)
 (h:∀V' w',zaz W0 w' V' (L++zs)->wpList Tryz.prog ops Q rest (a.put o.dst V') w'):wpList Tryz.prog ops Q (o::rest) a w:=by
 obtain⟨i0,hi5,hz0,hz1,hz2⟩:=info_parts Tryz.info32
 cases A with
 |none=>
   obtain rfl:=hnil rfl
   have hm:m=0:=by
    rcases Nat.eq_zero_or_pos m with h0|h0
    · exact h0
    · obtain⟨_,_,e,_⟩:=hr.2.2 h0
      cases e
   subst hm
   obtain rfl:zs=[]:=List.eq_nil_of_length_eq_zero hr.1
   refine wpList_append_own_none hgd s x 23 hop W0.heap.size 22 i0 1 Tryz.underlying23 hi5 V L.length _ hs hout.1 hx ?_
   have:=h V w (by simpa using hout)
   exact this
 |some ad=>
   refine wpList_append_own _ hgd s x 23 hop W0.heap.size 22 i0 (.int .u32 0) 1 4 Tryz.underlying23 hi5 hz0 hz1 hz2 rfl (by decide) V L.length (L.map (Value.int .u32)) hs hout.1 ad m c (zs.map (Value.int .u32)) hx (by rw[List.length_map,hr.1,Nat.mul_one]) hr.cells ?_ (by unfold maxLen;omega) (by omega) hout.2.size ?_
   · intro u hu
     obtain⟨_,_,rfl⟩:=List.mem_map.1 hu
     rfl
   · intro V' w' hown hg _
     refine h V' w' ⟨?_,hout.2.grown hg hout.2.size (fun k hk=>(hout.1.lt k hk).1)⟩
     rw[List.length_append,hr.1,List.map_append]
     exact hown
theorem zaz.alloc {W0 wr:World} {V:Value} {L:List Int} (h:zaz W0 wr V L) (o:Obj):zaz W0 (wr.alloc o) V L:=h.below ((Below.refl _ _).alloc (Nat.le_refl _) o)
theorem zaz.nilc {W0 wr:World} {a:Option Addr} {n c:Nat} {L:List Int} (h:zaz W0 wr (.slice a n c) L):a=none->c=0:=by
 intro e
 subst e
 rcases h.1.2 with⟨e,_⟩|⟨g,cap,cur,e,_⟩
 · injection e
 · cases e
theorem zg0 (w:World) (z:Int):zaz w (w.alloc (.cells #[.int .u32 z] 22)) (.slice (some ⟨w.heap.size,0,none⟩) 1 1) [z]:=
 ⟨⟨rfl,.inr ⟨w.heap.size,1,#[.int .u32 z],rfl,Nat.le_refl _,heap_alloc_new w _,Nat.le_refl _,by unfold maxLen;omega,rfl,rfl⟩⟩,(Below.refl _ _).alloc (Nat.le_refl _) _⟩
theorem zaz.form {W0 wr:World} {V:Value} {L:List Int} (h:zaz W0 wr V L) (h0:0<L.length):∃g cap,V= .slice (some ⟨g,0,none⟩) L.length cap/\ W0.heap.size<=g:=by
 rcases h.1.2 with⟨_,e⟩|⟨g,cap,cur,e,hb,_⟩
 · omega
 · exact⟨g,cap,e,hb⟩
theorem zg1 {w:World} {base n cap m:Nat} {a:Option Addr} {vs:List Value} (h:w.ownsRow base 22 1 (.slice a n cap) m vs):n<=cap:=by
 rcases h.2 with⟨e,_⟩|⟨g,cap',cur,e,h1,h2,h3⟩
 · injection e with _ e1 e2
   omega
 · injection e with e0 e1 e2
   omega
theorem zaz.wider {w W0 wr:World} {V:Value} {L:List Int} (h:zaz W0 wr V L) (hb:Below w.heap.size w W0):zaz w wr V L:=by
 refine⟨⟨h.1.1,?_⟩,Below.step hb h.2⟩
 rcases h.1.2 with h'|⟨g,cap,cur,e,h1,h2⟩
 · exact .inl h'
 · exact .inr ⟨g,cap,cur,e,Nat.le_trans hb.size h1,h2⟩
theorem zbs (w:World) (zs:List Int) (hz:∀x∈zs,0<=x/\ x<=4294967295):zat (w.alloc (.cells (zs.map (Value.int .u32)).toArray 22)) (some ⟨w.heap.size,0,none⟩) zs.length zs:=by
 refine⟨rfl,hz,fun _=>⟨w.heap.size,0,rfl,by simp,fun i hi=> ?_⟩⟩
 rw[Nat.zero_add,(Blk.new w 22 (zs.map (Value.int .u32)).toArray).cell i]
 simp[hi]
end Go.Proofs.YtpgahclpbdpbnaaGreatDoor
namespace Go.Proofs.YtpgahclpbdpbnaaGreatDoor
open Go.RowKit
set_option linter.unusedVariables false
theorem zpp {x:Int} (h0:0<=x) (h1:x<=4294967295):bits .or .u32 (x/4) (x*1073741824%4294967296)=rotZ x 2:=by
 have e:x*1073741824%4294967296=x%4*1073741824:=by omega
 have r:rotZ x 2=x/4+x%4*1073741824:=rfl
 rw[e,r]
 exact bits_join_low .u32 32 (by decide) (fun n h0 h1=>IntWalk.u32_in _ (by omega)) 30 _ _ (by omega) (by omega) (by omega) (by omega) (by omega) (by omega)
theorem zpq {x:Int} (h0:0<=x) (h1:x<=4294967295):bits .or .u32 (x/64) (x*67108864%4294967296)=rotZ x 6:=by
 have e:x*67108864%4294967296=x%64*67108864:=by omega
 have r:rotZ x 6=x/64+x%64*67108864:=rfl
 rw[e,r]
 exact bits_join_low .u32 32 (by decide) (fun n h0 h1=>IntWalk.u32_in _ (by omega)) 26 _ _ (by omega) (by omega) (by omega) (by omega) (by omega) (by omega)
theorem zpr {x:Int} (h0:0<=x) (h1:x<=4294967295):bits .or .u32 (x/128) (x*33554432%4294967296)=rotZ x 7:=by
 have e:x*33554432%4294967296=x%128*33554432:=by omega
 have r:rotZ x 7=x/128+x%128*33554432:=rfl
 rw[e,r]
 exact bits_join_low .u32 32 (by decide) (fun n h0 h1=>IntWalk.u32_in _ (by omega)) 25 _ _ (by omega) (by omega) (by omega) (by omega) (by omega) (by omega)
theorem zmK {x:Int} (h0:0<=x) (h1:x<=4294967295):bits .or .u32 (x/2048) (x*2097152%4294967296)=rotZ x 11:=by
 have e:x*2097152%4294967296=x%2048*2097152:=by omega
 have r:rotZ x 11=x/2048+x%2048*2097152:=rfl
 rw[e,r]
 exact bits_join_low .u32 32 (by decide) (fun n h0 h1=>IntWalk.u32_in _ (by omega)) 21 _ _ (by omega) (by omega) (by omega) (by omega) (by omega) (by omega)
theorem zmL {x:Int} (h0:0<=x) (h1:x<=4294967295):bits .or .u32 (x/8192) (x*524288%4294967296)=rotZ x 13:=by
 have e:x*524288%4294967296=x%8192*524288:=by omega
 have r:rotZ x 13=x/8192+x%8192*524288:=rfl
 rw[e,r]
 exact bits_join_low .u32 32 (by decide) (fun n h0 h1=>IntWalk.u32_in _ (by omega)) 19 _ _ (by omega) (by omega) (by omega) (by omega) (by omega) (by omega)
theorem zmM {x:Int} (h0:0<=x) (h1:x<=4294967295):bits .or .u32 (x/131072) (x*32768%4294967296)=rotZ x 17:=by
 have e:x*32768%4294967296=x%131072*32768:=by omega
 have r:rotZ x 17=x/131072+x%131072*32768:=rfl
 rw[e,r]
 exact bits_join_low .u32 32 (by decide) (fun n h0 h1=>IntWalk.u32_in _ (by omega)) 15 _ _ (by omega) (by omega) (by omega) (by omega) (by omega) (by omega)
theorem zmN {x:Int} (h0:0<=x) (h1:x<=4294967295):bits .or .u32 (x/262144) (x*16384%4294967296)=rotZ x 18:=by
 have e:x*16384%4294967296=x%262144*16384:=by omega
 have r:rotZ x 18=x/262144+x%262144*16384:=rfl
 rw[e,r]
 exact bits_join_low .u32 32 (by decide) (fun n h0 h1=>IntWalk.u32_in _ (by omega)) 14 _ _ (by omega) (by omega) (by omega) (by omega) (by omega) (by omega)
theorem zmO {x:Int} (h0:0<=x) (h1:x<=4294967295):bits .or .u32 (x/524288) (x*8192%4294967296)=rotZ x 19:=by
 have e:x*8192%4294967296=x%524288*8192:=by omega
 have r:rotZ x 19=x/524288+x%524288*8192:=rfl
 rw[e,r]
 exact bits_join_low .u32 32 (by decide) (fun n h0 h1=>IntWalk.u32_in _ (by omega)) 13 _ _ (by omega) (by omega) (by omega) (by omega) (by omega) (by omega)
theorem zmP {x:Int} (h0:0<=x) (h1:x<=4294967295):bits .or .u32 (x/4194304) (x*1024%4294967296)=rotZ x 22:=by
 have e:x*1024%4294967296=x%4194304*1024:=by omega
 have r:rotZ x 22=x/4194304+x%4194304*1024:=rfl
 rw[e,r]
 exact bits_join_low .u32 32 (by decide) (fun n h0 h1=>IntWalk.u32_in _ (by omega)) 10 _ _ (by omega) (by omega) (by omega) (by omega) (by omega) (by omega)
theorem zmQ {x:Int} (h0:0<=x) (h1:x<=4294967295):bits .or .u32 (x/33554432) (x*128%4294967296)=rotZ x 25:=by
 have e:x*128%4294967296=x%33554432*128:=by omega
 have r:rotZ x 25=x/33554432+x%33554432*128:=rfl
 rw[e,r]
 exact bits_join_low .u32 32 (by decide) (fun n h0 h1=>IntWalk.u32_in _ (by omega)) 7 _ _ (by omega) (by omega) (by omega) (by omega) (by omega) (by omega)
def zds (n:Nat):Prop:=n=2 \/n=6 \/n=7 \/n=11 \/n=13 \/n=17 \/n=18 \/n=19 \/n=22 \/n=25
theorem zps (x n:Int) (k:Nat) (w:World) (hk:n=(k:Int)) (hn:zds k) (h0:0<=x) (h1:x<=4294967295):Calls Tryz.prog 168 #[.int .u32 x,.int .i64 n] w fun e w'=>e= .returned (.int .u32 (rotZ x k))/\ ∃q,w'=w.drewN q:=by
 subst hk
 unfold zds at hn
 rcases hn with rfl|rfl|rfl|rfl|rfl|rfl|rfl|rfl|rfl|rfl
 · have R:=zpp h0 h1
   generalize rotZ x 2=y at*
   go_enter Tryz.func168,Tryz.ntmps168
   go_wp2_with fail
   go_quiet (fail)
   go_wp2
   go_ret
   exact⟨rfl,_,rfl⟩
 · have R:=zpq h0 h1
   generalize rotZ x 6=y at*
   go_enter Tryz.func168,Tryz.ntmps168
   go_wp2_with fail
   go_quiet (fail)
   go_wp2
   go_ret
   exact⟨rfl,_,rfl⟩
 · have R:=zpr h0 h1
   generalize rotZ x 7=y at*
   go_enter Tryz.func168,Tryz.ntmps168
   go_wp2_with fail
   go_quiet (fail)
   go_wp2
   go_ret
   exact⟨rfl,_,rfl⟩
 · have R:=zmK h0 h1
   generalize rotZ x 11=y at*
   go_enter Tryz.func168,Tryz.ntmps168
   go_wp2_with fail
   go_quiet (fail)
   go_wp2
   go_ret
   exact⟨rfl,_,rfl⟩
 · have R:=zmL h0 h1
   generalize rotZ x 13=y at*
   go_enter Tryz.func168,Tryz.ntmps168
   go_wp2_with fail
   go_quiet (fail)
   go_wp2
   go_ret
   exact⟨rfl,_,rfl⟩
 · have R:=zmM h0 h1
   generalize rotZ x 17=y at*
   go_enter Tryz.func168,Tryz.ntmps168
   go_wp2_with fail
   go_quiet (fail)
   go_wp2
   go_ret
   exact⟨rfl,_,rfl⟩
 · have R:=zmN h0 h1
   generalize rotZ x 18=y at*
   go_enter Tryz.func168,Tryz.ntmps168
   go_wp2_with fail
   go_quiet (fail)
   go_wp2
   go_ret
   exact⟨rfl,_,rfl⟩
 · have R:=zmO h0 h1
   generalize rotZ x 19=y at*
   go_enter Tryz.func168,Tryz.ntmps168
   go_wp2_with fail
   go_quiet (fail)
   go_wp2
   go_ret
   exact⟨rfl,_,rfl⟩
 · have R:=zmP h0 h1
   generalize rotZ x 22=y at*
   go_enter Tryz.func168,Tryz.ntmps168
   go_wp2_with fail
   go_quiet (fail)
   go_wp2
   go_ret
   exact⟨rfl,_,rfl⟩
 · have R:=zmQ h0 h1
   generalize rotZ x 25=y at*
   go_enter Tryz.func168,Tryz.ntmps168
   go_wp2_with fail
   go_quiet (fail)
   go_wp2
   go_ret
   exact⟨rfl,_,rfl⟩
end Go.Proofs.YtpgahclpbdpbnaaGreatDoor
namespace Go.Proofs.YtpgahclpbdpbnaaGreatDoor
open Go.RowKit
set_option linter.unusedVariables false
theorem zbf (k:IntKind) (a b:Int):bits .or k a b=bits .or k b a:=by
 show k.wrap ((BitVec.ofInt k.bits a|||BitVec.ofInt k.bits b).toNat:Int)=k.wrap ((BitVec.ofInt k.bits b|||BitVec.ofInt k.bits a).toNat:Int)
 rw[BitVec.or_comm]
theorem zsf (x n:Int) (k:Nat) (w:World) (hk:n= -(k:Int)) (hn:zds k) (h0:0<=x) (h1:x<=4294967295):Calls Tryz.prog 224 #[.int .u32 x,.int .i64 n] w fun e w'=>e= .returned (.int .u32 (rotZ x k))/\ w'=w:=by
 subst hk
 unfold zds at hn
 rcases hn with rfl|rfl|rfl|rfl|rfl|rfl|rfl|rfl|rfl|rfl
 · have R:=zpp h0 h1
   rw[zbf]at R
   rw[show(-((2:Nat):Int))= -2 by rfl]
   have W:IntKind.u64.wrap (-2)=18446744073709551614:=by kernel_rfl
   have B:bits .and .u64 18446744073709551614 31=30:=by kernel_rfl
   generalize rotZ x 2=y at*
   go_enter Tryz.func224,Tryz.ntmps224
   go_wp2_with fail
   go_ret
   exact⟨rfl,rfl⟩
 · have R:=zpq h0 h1
   rw[zbf]at R
   rw[show(-((6:Nat):Int))= -6 by rfl]
   have W:IntKind.u64.wrap (-6)=18446744073709551610:=by kernel_rfl
   have B:bits .and .u64 18446744073709551610 31=26:=by kernel_rfl
   generalize rotZ x 6=y at*
   go_enter Tryz.func224,Tryz.ntmps224
   go_wp2_with fail
   go_ret
   exact⟨rfl,rfl⟩
 · have R:=zpr h0 h1
   rw[zbf]at R
   rw[show(-((7:Nat):Int))= -7 by rfl]
   have W:IntKind.u64.wrap (-7)=18446744073709551609:=by kernel_rfl
   have B:bits .and .u64 18446744073709551609 31=25:=by kernel_rfl
   generalize rotZ x 7=y at*
   go_enter Tryz.func224,Tryz.ntmps224
   go_wp2_with fail
   go_ret
   exact⟨rfl,rfl⟩
 · have R:=zmK h0 h1
   rw[zbf]at R
   rw[show(-((11:Nat):Int))= -11 by rfl]
   have W:IntKind.u64.wrap (-11)=18446744073709551605:=by kernel_rfl
   have B:bits .and .u64 18446744073709551605 31=21:=by kernel_rfl
   generalize rotZ x 11=y at*
   go_enter Tryz.func224,Tryz.ntmps224
   go_wp2_with fail
   go_ret
   exact⟨rfl,rfl⟩
 · have R:=zmL h0 h1
   rw[zbf]at R
   rw[show(-((13:Nat):Int))= -13 by rfl]
   have W:IntKind.u64.wrap (-13)=18446744073709551603:=by kernel_rfl
   have B:bits .and .u64 18446744073709551603 31=19:=by kernel_rfl
   generalize rotZ x 13=y at*
   go_enter Tryz.func224,Tryz.ntmps224
   go_wp2_with fail
   go_ret
   exact⟨rfl,rfl⟩
 · have R:=zmM h0 h1
   rw[zbf]at R
   rw[show(-((17:Nat):Int))= -17 by rfl]
   have W:IntKind.u64.wrap (-17)=18446744073709551599:=by kernel_rfl
   have B:bits .and .u64 18446744073709551599 31=15:=by kernel_rfl
   generalize rotZ x 17=y at*
   go_enter Tryz.func224,Tryz.ntmps224
   go_wp2_with fail
   go_ret
   exact⟨rfl,rfl⟩
 · have R:=zmN h0 h1
   rw[zbf]at R
   rw[show(-((18:Nat):Int))= -18 by rfl]
   have W:IntKind.u64.wrap (-18)=18446744073709551598:=by kernel_rfl
   have B:bits .and .u64 18446744073709551598 31=14:=by kernel_rfl
   generalize rotZ x 18=y at*
   go_enter Tryz.func224,Tryz.ntmps224
   go_wp2_with fail
   go_ret
   exact⟨rfl,rfl⟩
 · have R:=zmO h0 h1
   rw[zbf]at R
   rw[show(-((19:Nat):Int))= -19 by rfl]
   have W:IntKind.u64.wrap (-19)=18446744073709551597:=by kernel_rfl
   have B:bits .and .u64 18446744073709551597 31=13:=by kernel_rfl
   generalize rotZ x 19=y at*
   go_enter Tryz.func224,Tryz.ntmps224
   go_wp2_with fail
   go_ret
   exact⟨rfl,rfl⟩
 · have R:=zmP h0 h1
   rw[zbf]at R
   rw[show(-((22:Nat):Int))= -22 by rfl]
   have W:IntKind.u64.wrap (-22)=18446744073709551594:=by kernel_rfl
   have B:bits .and .u64 18446744073709551594 31=10:=by kernel_rfl
   generalize rotZ x 22=y at*
   go_enter Tryz.func224,Tryz.ntmps224
   go_wp2_with fail
   go_ret
   exact⟨rfl,rfl⟩
 · have R:=zmQ h0 h1
   rw[zbf]at R
   rw[show(-((25:Nat):Int))= -25 by rfl]
   have W:IntKind.u64.wrap (-25)=18446744073709551591:=by kernel_rfl
   have B:bits .and .u64 18446744073709551591 31=7:=by kernel_rfl
   generalize rotZ x 25=y at*
   go_enter Tryz.func224,Tryz.ntmps224
   go_wp2_with fail
   go_ret
   exact⟨rfl,rfl⟩
theorem zfk (x n:Int) (k:Nat) (w:World) (hk:n=(k:Int)) (hn:zds k) (h0:0<=x) (h1:x<=4294967295):Calls Tryz.prog 201 #[.int .u32 x,.int .i64 n] w fun e w'=>e= .returned (.int .u32 (rotZ x k))/\ w'=w:=by
 subst hk
 have C:=zwd (fun W=>zsf x (-(k:Int)) k W rfl hn h0 h1)
 have kb:(k:Int)<=25:=by unfold zds at hn;omega
 have wk:IntKind.i64.wrap (-(k:Int))= -(k:Int):=IntWalk.i64_in _ (by omega)
 generalize rotZ x k=y at*
 go_enter Tryz.func201,Tryz.ntmps201
 go_wp2_with fail
 refine(C.out _).mono ?_
 rintro e w2 ⟨rfl,hw⟩
 subst hw
 go_wp2_with fail
 go_ret
 exact⟨rfl,rfl⟩
end Go.Proofs.YtpgahclpbdpbnaaGreatDoor
