import Derived.Test.YtpgahclpbdpbnaaGreatDoorGAP
import Derived.Test.YtpgahclpbdpbnaaGreatDoorGAG
import Derived.Laws.BitsLemmas
import Derived.Lib.EndianBits
import Derived.Laws.Externs
import Derived.Test.YtpgahclpbdpbnaaGreatDoorGAI
import Derived.Laws.CopyOwn
import Derived.Deep.DeepMust
import Derived.Deep.DeepAppendRoom
set_option maxHeartbeats 4000000
set_option maxRecDepth 100000
namespace Go.Proofs.YtpgahclpbdpbnaaGreatDoor
open Go.RowKit
set_option linter.unusedVariables false
theorem zdY (many:Int) (w:World) (h0:0<=many) (h1:many<=9223372036854775807):Calls Tryz.prog 184 #[.int .i64 many] w fun e w'=>e= .returned (.int .i64 ((many+7)/8))/\ w'=w:=by
 go_enter Tryz.func184,Tryz.ntmps184
 by_cases h:many%8=0
 · have e1:many/8=(many+7)/8:=by omega
   have e1:=zwd e1
   have t0:(many%8==0)=true:=by simpa using h
   have tm:many.tmod 8=many%8:=Int.tmod_eq_emod_of_nonneg h0
   have td:many.tdiv 8=many/8:=Int.tdiv_eq_ediv_of_nonneg h0
   clear h
   go_wp2_with fail
   go_ret
   rw[<-e1.out]
   exact⟨rfl,rfl⟩
 · have e1:many/8+1=(many+7)/8:=by omega
   have e1:=zwd e1
   have t0:(many%8==0)=false:=by simpa using h
   have tm:many.tmod 8=many%8:=Int.tmod_eq_emod_of_nonneg h0
   have td:many.tdiv 8=many/8:=Int.tdiv_eq_ediv_of_nonneg h0
   clear h
   go_wp2_with fail
   go_ret
   rw[<-e1.out]
   exact⟨rfl,rfl⟩
theorem zq9:∀a:Fin 256,bits .and .u8 (a.val:Int) 1=((a.val%2:Nat):Int):=by decide+kernel
theorem zv1 (x:Int) (h0:0<=x) (h1:x<=255):bits .and .u8 x 1=x%2:=by
 have:=zq9 ⟨x.toNat,by omega⟩
 rw[show((⟨x.toNat,by omega⟩:Fin 256).val:Int)=x by simp;omega]at this
 rw[this]
 simp only
 omega
theorem zra:∀a:Fin 256,bits .and .u8 (a.val:Int) 3=((a.val%4:Nat):Int):=by decide+kernel
theorem zv2 (x:Int) (h0:0<=x) (h1:x<=255):bits .and .u8 x 3=x%4:=by
 have:=zra ⟨x.toNat,by omega⟩
 rw[show((⟨x.toNat,by omega⟩:Fin 256).val:Int)=x by simp;omega]at this
 rw[this]
 simp only
 omega
theorem zrb:∀a:Fin 256,bits .and .u8 (a.val:Int) 7=((a.val%8:Nat):Int):=by decide+kernel
theorem zv3 (x:Int) (h0:0<=x) (h1:x<=255):bits .and .u8 x 7=x%8:=by
 have:=zrb ⟨x.toNat,by omega⟩
 rw[show((⟨x.toNat,by omega⟩:Fin 256).val:Int)=x by simp;omega]at this
 rw[this]
 simp only
 omega
theorem zrc:∀a:Fin 256,bits .and .u8 (a.val:Int) 15=((a.val%16:Nat):Int):=by decide+kernel
theorem zv4 (x:Int) (h0:0<=x) (h1:x<=255):bits .and .u8 x 15=x%16:=by
 have:=zrc ⟨x.toNat,by omega⟩
 rw[show((⟨x.toNat,by omega⟩:Fin 256).val:Int)=x by simp;omega]at this
 rw[this]
 simp only
 omega
theorem zrd:∀a:Fin 256,bits .and .u8 (a.val:Int) 31=((a.val%32:Nat):Int):=by decide+kernel
theorem zv5 (x:Int) (h0:0<=x) (h1:x<=255):bits .and .u8 x 31=x%32:=by
 have:=zrd ⟨x.toNat,by omega⟩
 rw[show((⟨x.toNat,by omega⟩:Fin 256).val:Int)=x by simp;omega]at this
 rw[this]
 simp only
 omega
theorem zre:∀a:Fin 256,bits .and .u8 (a.val:Int) 63=((a.val%64:Nat):Int):=by decide+kernel
theorem zv6 (x:Int) (h0:0<=x) (h1:x<=255):bits .and .u8 x 63=x%64:=by
 have:=zre ⟨x.toNat,by omega⟩
 rw[show((⟨x.toNat,by omega⟩:Fin 256).val:Int)=x by simp;omega]at this
 rw[this]
 simp only
 omega
theorem zrf:∀a:Fin 256,bits .and .u8 (a.val:Int) 127=((a.val%128:Nat):Int):=by decide+kernel
theorem zv7 (x:Int) (h0:0<=x) (h1:x<=255):bits .and .u8 x 127=x%128:=by
 have:=zrf ⟨x.toNat,by omega⟩
 rw[show((⟨x.toNat,by omega⟩:Fin 256).val:Int)=x by simp;omega]at this
 rw[this]
 simp only
 omega
theorem znE (a:Option Addr) (n ca:Nat) (zs:List Int) (many:Int) (w:World) (hr:Row w a n zs) (hn:n<=100000) (hnil:a=none->ca=0) (hwf:(Lit.int .i64 many).wf=true):Calls Tryz.prog 135 #[.slice a n ca,.int .i64 many] w (zaQ (zaG zs many) w):=by
 have S0:=zwd (RB.start w)
 have R0:=zwd (hr.below S0.out.below)
 have HL:=zwd hr.1
 have HB:=zwd hr.2.1
 have NI:=zwd hnil
 have hm64:=bounds_i64 hwf
 clear hr hnil hwf
 have FB:zcC zs many↔(¬many<0/\ ¬8*(n:Int)<many/\ (n:Int)=(many+7)/8):=by unfold zcC;rw[HL.out]
 go_enter Tryz.func135,Tryz.ntmps135
 by_cases hfit:zcC zs many
 rotate_left
 · have F:Hid (zaG zs many=(.node 0 [] [],1)):=if_neg hfit
   rw[FB]at hfit
   have RN:=zwd (Row.nil (w.alloc (.cells #[.int .i64 0,.slice none 0 0,.slice none 0 0] 30)))
   by_cases h1:many<0
   · go_wp2_with fail
     exact zbp (zs:=[]) (c:=0) F.out rfl rfl rfl S0.out.box S0.out.below (RN.out _) (fun h=>absurd h (by simp)) ⟨fun _=>rfl,Nat.le_refl _⟩ rfl (by simp)
   have h3:¬(n:Int)=(many+7)/8:=fun h=>hfit ⟨h1,by omega,h⟩
   have t3:((n:Int) !=(many+7)/8)=true:=by simpa using h3
   clear hfit h3
   go_wp2_with fail
   refine(zdY many _ (by omega) (by omega)).mono ?_
   rintro e w1 ⟨rfl,rfl⟩
   go_wp2_with fail
   exact zbp (zs:=[]) (c:=0) F.out rfl rfl rfl S0.out.box S0.out.below (RN.out _) (fun h=>absurd h (by simp)) ⟨fun _=>rfl,Nat.le_refl _⟩ rfl (by simp)
 have BZ:Hid (zaG zs many=if 0<ze6 zs many/\ (zs[zs.length-1]?.getD 0)%2^(ze6 zs many).toNat≠0 then(zbz,1)else(.node 3 (ze6 zs many::zs) [],0)):=if_pos hfit
 rw[FB]at hfit
 clear FB
 obtain⟨h1,h2,h3⟩:=hfit
 have t3:((n:Int) !=(many+7)/8)=false:=by simpa using h3
 have LZ:Hid (ze6 zs many=8*(n:Int)-many):=by unfold ze6;rw[HL.out];exact zwd rfl
 have hq:8*(n:Int)-many=0 \/8*(n:Int)-many=1 \/8*(n:Int)-many=2 \/8*(n:Int)-many=3 \/8*(n:Int)-many=4 \/8*(n:Int)-many=5 \/8*(n:Int)-many=6 \/8*(n:Int)-many=7:=by omega
 have H3:=zwd h3
 clear h3
 rcases hq with hq|hq|hq|hq|hq|hq|hq|hq
 · have F:Hid (zaG zs many=(.node 3 (0::zs) [],0)):=by rw[BZ.out,LZ.out,hq];simp[Hid]
   clear BZ LZ
   go_wp2_with fail
   refine(zdY many _ (by omega) (by omega)).mono ?_
   rintro e w1 ⟨rfl,rfl⟩
   go_wp2_with fail
   generalize hw0:w.alloc (.cells #[.int .i64 0,.slice none 0 0,.slice none 0 0] 30)=w0 at*
   have hlt0:w.heap.size<w0.heap.size:=S0.out.box.lt
   clear hw0
   refine zaa Ext Ext.refl (fun _ _ _=>Ext.trans) ((0,false)::(1,false)::(2,false)::(3,false)::(4,false)::(5,false)::(6,false)::(7,false)::(8,false)::(9,false)::(10,false)::(11,false)::(12,false)::(13,false)::(14,false)::[]) (by kernel_rfl) (by kernel_rfl) rfl (by kernel_rfl) (fun _ _ _ _ _ h=>h) ?_
   repeat(first|(refine zab _ rfl (by rfl) (fun W hW=>by go_simp;first|done|rfl) ?_;simp only[Act.put,zwe,zwg,zwf])|(refine zaw rfl (by rfl) ?_;simp only[Act.put,zwe,zwg,zwf]))
   refine zai ?_
   have E1:Hid (Ext w0 w0.drew):=Ext.drew (Ext.refl w0)
   generalize w0.drew=w1 at E1⊢
   have R1:=zwd (R0.out.below E1.out)
   have S1:=zwd (S0.out.go E1.out)
   have hlt1:w.heap.size<w1.heap.size:=S1.out.box.lt
   clear R0 S0 E1 hlt0
   have O3:=zwd (zbd w1 0)
   have R3:=zwd (R1.out.below ((Below.refl w1.heap.size w1).alloc (Nat.le_refl _) (.cells #[.int .u8 0] 5)))
   go_wp2_with (at_builtin;go_must (refine zag (W0:=w1) (L:=[0]) (zs:=zs) rfl _ _ rfl rfl O3.out rfl R3.out NI.out (by simp;omega) ?_;intro V4 w4 ho4;have O4:=zwd ho4;have S4:=zwd (S1.out.go ho4.2);obtain⟨p0,p1,p2,f0,f1,f2⟩:=S4.out.box.six;obtain⟨b4,c4,rfl,hr4⟩:=ho4.row (by intro y hy;rcases List.mem_cons.1 hy with rfl|hy;omega;exact HB.out y hy);have R4:=zwd hr4;clear ho4 hr4))
   exact zah (zs:=0::zs) (c:=c4) F.out rfl rfl rfl S4.out R4.out (fun h0=>by obtain⟨b,off,e,hb⟩:=zbn O4.out h0;exact⟨b,off,e,Nat.lt_of_lt_of_le hlt1 hb⟩) ⟨O4.out.nilc,zaJ O4.out.1⟩ rfl (by have:=HL.out;simp;omega)
 · obtain⟨k,rfl⟩:∃k,n=k+1:=⟨n-1,by have:=H3.out;omega⟩
   obtain⟨b,off,rfl,hbl,hc⟩:=R0.out.2.2 (by omega)
   have l0:=zaf (hc k (by omega))
   have z0:=R0.out.byte k
   have BQ:Hid (zaG zs many=if zs[k]?.getD 0%2≠0 then(zbz,1)else(.node 3 (1::zs) [],0)):=by rw[BZ.out,LZ.out,hq,HL.out];simp[Hid]
   clear BZ LZ hc hbl
   generalize zs[k]?.getD 0=x at*
   have hq2:8*((k:Int)+1)-many=1:=by omega
   have h22:¬8*((k:Int)+1)<many:=by omega
   have t33:((k:Int)+1 !=(many+7)/8)=false:=t3
   have wk:IntKind.i64.wrap (k:Int)=k:=IntWalk.i64_in _ (by omega)
   have kk:(k:Int)<(k:Int)+1:=by omega
   have w8:IntKind.u8.wrap 2=2:=IntWalk.u8_in _ (by omega)
   have w7:IntKind.u8.wrap 1=1:=IntWalk.u8_in _ (by omega)
   have bm:bits .and .u8 x 1=x%2:=zv1 x z0.1 z0.2
   clear hq h2 t3
   go_wp2_with fail
   refine(zdY many _ (by omega) (by omega)).mono ?_
   rintro e w1 ⟨rfl,rfl⟩
   go_wp2_with fail
   generalize hw0:w.alloc (.cells #[.int .i64 0,.slice none 0 0,.slice none 0 0] 30)=w0 at*
   have hlt0:w.heap.size<w0.heap.size:=S0.out.box.lt
   clear hw0
   by_cases hx:x%2=0
   · have F:Hid (zaG zs many=(.node 3 (1::zs) [],0)):=by rw[BQ.out,if_neg (by simpa using hx)];exact zwd rfl
     clear BQ
     refine zaa Ext Ext.refl (fun _ _ _=>Ext.trans) ((0,false)::(1,false)::(2,false)::(3,false)::(4,false)::(5,false)::(6,false)::(7,false)::(8,false)::(9,false)::(10,false)::(11,false)::(12,false)::(13,false)::(14,false)::[]) (by kernel_rfl) (by kernel_rfl) rfl (by kernel_rfl) (fun _ _ _ _ _ h=>h) ?_
     repeat(first|(refine zab _ rfl (by rfl) (fun W hW=>by go_simp;first|done|rfl) ?_;simp only[Act.put,zwe,zwg,zwf])|(refine zaw rfl (by rfl) ?_;simp only[Act.put,zwe,zwg,zwf]))
     refine zai ?_
     clear l0
     have E1:Hid (Ext w0 w0.drew):=Ext.drew (Ext.refl w0)
     generalize w0.drew=w1 at E1⊢
     have R1:=zwd (R0.out.below E1.out)
     have S1:=zwd (S0.out.go E1.out)
     have hlt1:w.heap.size<w1.heap.size:=S1.out.box.lt
     clear R0 S0 E1 hlt0
     have O3:=zwd (zbd w1 1)
     have R3:=zwd (R1.out.below ((Below.refl w1.heap.size w1).alloc (Nat.le_refl _) (.cells #[.int .u8 1] 5)))
     go_wp2_with (at_builtin;go_must (refine zag (W0:=w1) (L:=[1]) (zs:=zs) rfl _ _ rfl rfl O3.out rfl R3.out NI.out (by simp;omega) ?_;intro V4 w4 ho4;have O4:=zwd ho4;have S4:=zwd (S1.out.go ho4.2);obtain⟨p0,p1,p2,f0,f1,f2⟩:=S4.out.box.six;obtain⟨b4,c4,rfl,hr4⟩:=ho4.row (by intro y hy;rcases List.mem_cons.1 hy with rfl|hy;omega;exact HB.out y hy);have R4:=zwd hr4;clear ho4 hr4))
     exact zah (zs:=1::zs) (c:=c4) F.out rfl rfl rfl S4.out R4.out (fun h0=>by obtain⟨b,off,e,hb⟩:=zbn O4.out h0;exact⟨b,off,e,Nat.lt_of_lt_of_le hlt1 hb⟩) ⟨O4.out.nilc,zaJ O4.out.1⟩ rfl (by have:=HL.out;simp;omega)
   · have F:Hid (zaG zs many=(.node 0 [] [],1)):=by rw[BQ.out,if_pos (by simpa using hx)];exact zwd rfl
     have tx:(x%2 !=0)=true:=by simpa using hx
     clear BQ
     have RN:=zwd (Row.nil w0.drew)
     have S4:=zwd (S0.out.go (Ext.drew (Ext.refl w0)))
     refine zaa Ext Ext.refl (fun _ _ _=>Ext.trans) ((0,false)::(1,false)::(2,false)::(3,false)::(4,false)::(5,false)::(6,false)::(7,false)::(8,false)::(9,false)::(10,false)::(11,false)::(12,false)::(13,false)::(14,false)::[]) (by kernel_rfl) (by kernel_rfl) rfl (by kernel_rfl) (fun _ _ _ _ _ h=>h) ?_
     repeat(first|(refine zab _ rfl (by rfl) (fun W hW=>by go_simp;first|done|rfl) ?_;simp only[Act.put,zwe,zwg,zwf])|(refine zaw rfl (by rfl) ?_;simp only[Act.put,zwe,zwg,zwf]))
     refine zai ?_
     clear l0
     generalize w0.drew=w1 at S4 RN⊢
     obtain⟨p0,p1,p2,f0,f1,f2⟩:=S4.out.box.six
     go_wp2_with fail
     exact zah (zs:=[]) (c:=0) F.out rfl rfl rfl S4.out (RN.out _) (fun h=>absurd h (by simp)) ⟨fun _=>rfl,Nat.le_refl _⟩ rfl (by simp)
 · obtain⟨k,rfl⟩:∃k,n=k+1:=⟨n-1,by have:=H3.out;omega⟩
   obtain⟨b,off,rfl,hbl,hc⟩:=R0.out.2.2 (by omega)
   have l0:=zaf (hc k (by omega))
   have z0:=R0.out.byte k
   have BQ:Hid (zaG zs many=if zs[k]?.getD 0%4≠0 then(zbz,1)else(.node 3 (2::zs) [],0)):=by rw[BZ.out,LZ.out,hq,HL.out];simp[Hid]
   clear BZ LZ hc hbl
   generalize zs[k]?.getD 0=x at*
   have hq2:8*((k:Int)+1)-many=2:=by omega
   have h22:¬8*((k:Int)+1)<many:=by omega
   have t33:((k:Int)+1 !=(many+7)/8)=false:=t3
   have wk:IntKind.i64.wrap (k:Int)=k:=IntWalk.i64_in _ (by omega)
   have kk:(k:Int)<(k:Int)+1:=by omega
   have w8:IntKind.u8.wrap 4=4:=IntWalk.u8_in _ (by omega)
   have w7:IntKind.u8.wrap 3=3:=IntWalk.u8_in _ (by omega)
   have bm:bits .and .u8 x 3=x%4:=zv2 x z0.1 z0.2
   clear hq h2 t3
   go_wp2_with fail
   refine(zdY many _ (by omega) (by omega)).mono ?_
   rintro e w1 ⟨rfl,rfl⟩
   go_wp2_with fail
   generalize hw0:w.alloc (.cells #[.int .i64 0,.slice none 0 0,.slice none 0 0] 30)=w0 at*
   have hlt0:w.heap.size<w0.heap.size:=S0.out.box.lt
   clear hw0
   by_cases hx:x%4=0
   · have F:Hid (zaG zs many=(.node 3 (2::zs) [],0)):=by rw[BQ.out,if_neg (by simpa using hx)];exact zwd rfl
     clear BQ
     refine zaa Ext Ext.refl (fun _ _ _=>Ext.trans) ((0,false)::(1,false)::(2,false)::(3,false)::(4,false)::(5,false)::(6,false)::(7,false)::(8,false)::(9,false)::(10,false)::(11,false)::(12,false)::(13,false)::(14,false)::[]) (by kernel_rfl) (by kernel_rfl) rfl (by kernel_rfl) (fun _ _ _ _ _ h=>h) ?_
     repeat(first|(refine zab _ rfl (by rfl) (fun W hW=>by go_simp;first|done|rfl) ?_;simp only[Act.put,zwe,zwg,zwf])|(refine zaw rfl (by rfl) ?_;simp only[Act.put,zwe,zwg,zwf]))
     refine zai ?_
     clear l0
     have E1:Hid (Ext w0 w0.drew):=Ext.drew (Ext.refl w0)
     generalize w0.drew=w1 at E1⊢
     have R1:=zwd (R0.out.below E1.out)
     have S1:=zwd (S0.out.go E1.out)
     have hlt1:w.heap.size<w1.heap.size:=S1.out.box.lt
     clear R0 S0 E1 hlt0
     have O3:=zwd (zbd w1 2)
     have R3:=zwd (R1.out.below ((Below.refl w1.heap.size w1).alloc (Nat.le_refl _) (.cells #[.int .u8 2] 5)))
     go_wp2_with (at_builtin;go_must (refine zag (W0:=w1) (L:=[2]) (zs:=zs) rfl _ _ rfl rfl O3.out rfl R3.out NI.out (by simp;omega) ?_;intro V4 w4 ho4;have O4:=zwd ho4;have S4:=zwd (S1.out.go ho4.2);obtain⟨p0,p1,p2,f0,f1,f2⟩:=S4.out.box.six;obtain⟨b4,c4,rfl,hr4⟩:=ho4.row (by intro y hy;rcases List.mem_cons.1 hy with rfl|hy;omega;exact HB.out y hy);have R4:=zwd hr4;clear ho4 hr4))
     exact zah (zs:=2::zs) (c:=c4) F.out rfl rfl rfl S4.out R4.out (fun h0=>by obtain⟨b,off,e,hb⟩:=zbn O4.out h0;exact⟨b,off,e,Nat.lt_of_lt_of_le hlt1 hb⟩) ⟨O4.out.nilc,zaJ O4.out.1⟩ rfl (by have:=HL.out;simp;omega)
   · have F:Hid (zaG zs many=(.node 0 [] [],1)):=by rw[BQ.out,if_pos (by simpa using hx)];exact zwd rfl
     have tx:(x%4 !=0)=true:=by simpa using hx
     clear BQ
     have RN:=zwd (Row.nil w0.drew)
     have S4:=zwd (S0.out.go (Ext.drew (Ext.refl w0)))
     refine zaa Ext Ext.refl (fun _ _ _=>Ext.trans) ((0,false)::(1,false)::(2,false)::(3,false)::(4,false)::(5,false)::(6,false)::(7,false)::(8,false)::(9,false)::(10,false)::(11,false)::(12,false)::(13,false)::(14,false)::[]) (by kernel_rfl) (by kernel_rfl) rfl (by kernel_rfl) (fun _ _ _ _ _ h=>h) ?_
     repeat(first|(refine zab _ rfl (by rfl) (fun W hW=>by go_simp;first|done|rfl) ?_;simp only[Act.put,zwe,zwg,zwf])|(refine zaw rfl (by rfl) ?_;simp only[Act.put,zwe,zwg,zwf]))
     refine zai ?_
     clear l0
     generalize w0.drew=w1 at S4 RN⊢
     obtain⟨p0,p1,p2,f0,f1,f2⟩:=S4.out.box.six
     go_wp2_with fail
     exact zah (zs:=[]) (c:=0) F.out rfl rfl rfl S4.out (RN.out _) (fun h=>absurd h (by simp)) ⟨fun _=>rfl,Nat.le_refl _⟩ rfl (by simp)
 · obtain⟨k,rfl⟩:∃k,n=k+1:=⟨n-1,by have:=H3.out;omega⟩
   obtain⟨b,off,rfl,hbl,hc⟩:=R0.out.2.2 (by omega)
   have l0:=zaf (hc k (by omega))
   have z0:=R0.out.byte k
   have BQ:Hid (zaG zs many=if zs[k]?.getD 0%8≠0 then(zbz,1)else(.node 3 (3::zs) [],0)):=by rw[BZ.out,LZ.out,hq,HL.out];simp[Hid]
   clear BZ LZ hc hbl
   generalize zs[k]?.getD 0=x at*
   have hq2:8*((k:Int)+1)-many=3:=by omega
   have h22:¬8*((k:Int)+1)<many:=by omega
   have t33:((k:Int)+1 !=(many+7)/8)=false:=t3
   have wk:IntKind.i64.wrap (k:Int)=k:=IntWalk.i64_in _ (by omega)
   have kk:(k:Int)<(k:Int)+1:=by omega
   have w8:IntKind.u8.wrap 8=8:=IntWalk.u8_in _ (by omega)
   have w7:IntKind.u8.wrap 7=7:=IntWalk.u8_in _ (by omega)
   have bm:bits .and .u8 x 7=x%8:=zv3 x z0.1 z0.2
   clear hq h2 t3
   go_wp2_with fail
   refine(zdY many _ (by omega) (by omega)).mono ?_
   rintro e w1 ⟨rfl,rfl⟩
   go_wp2_with fail
   generalize hw0:w.alloc (.cells #[.int .i64 0,.slice none 0 0,.slice none 0 0] 30)=w0 at*
   have hlt0:w.heap.size<w0.heap.size:=S0.out.box.lt
   clear hw0
   by_cases hx:x%8=0
   · have F:Hid (zaG zs many=(.node 3 (3::zs) [],0)):=by rw[BQ.out,if_neg (by simpa using hx)];exact zwd rfl
     clear BQ
     refine zaa Ext Ext.refl (fun _ _ _=>Ext.trans) ((0,false)::(1,false)::(2,false)::(3,false)::(4,false)::(5,false)::(6,false)::(7,false)::(8,false)::(9,false)::(10,false)::(11,false)::(12,false)::(13,false)::(14,false)::[]) (by kernel_rfl) (by kernel_rfl) rfl (by kernel_rfl) (fun _ _ _ _ _ h=>h) ?_
     repeat(first|(refine zab _ rfl (by rfl) (fun W hW=>by go_simp;first|done|rfl) ?_;simp only[Act.put,zwe,zwg,zwf])|(refine zaw rfl (by rfl) ?_;simp only[Act.put,zwe,zwg,zwf]))
     refine zai ?_
     clear l0
     have E1:Hid (Ext w0 w0.drew):=Ext.drew (Ext.refl w0)
     generalize w0.drew=w1 at E1⊢
     have R1:=zwd (R0.out.below E1.out)
     have S1:=zwd (S0.out.go E1.out)
     have hlt1:w.heap.size<w1.heap.size:=S1.out.box.lt
     clear R0 S0 E1 hlt0
     have O3:=zwd (zbd w1 3)
     have R3:=zwd (R1.out.below ((Below.refl w1.heap.size w1).alloc (Nat.le_refl _) (.cells #[.int .u8 3] 5)))
     go_wp2_with (at_builtin;go_must (refine zag (W0:=w1) (L:=[3]) (zs:=zs) rfl _ _ rfl rfl O3.out rfl R3.out NI.out (by simp;omega) ?_;intro V4 w4 ho4;have O4:=zwd ho4;have S4:=zwd (S1.out.go ho4.2);obtain⟨p0,p1,p2,f0,f1,f2⟩:=S4.out.box.six;obtain⟨b4,c4,rfl,hr4⟩:=ho4.row (by intro y hy;rcases List.mem_cons.1 hy with rfl|hy;omega;exact HB.out y hy);have R4:=zwd hr4;clear ho4 hr4))
     exact zah (zs:=3::zs) (c:=c4) F.out rfl rfl rfl S4.out R4.out (fun h0=>by obtain⟨b,off,e,hb⟩:=zbn O4.out h0;exact⟨b,off,e,Nat.lt_of_lt_of_le hlt1 hb⟩) ⟨O4.out.nilc,zaJ O4.out.1⟩ rfl (by have:=HL.out;simp;omega)
   · have F:Hid (zaG zs many=(.node 0 [] [],1)):=by rw[BQ.out,if_pos (by simpa using hx)];exact zwd rfl
     have tx:(x%8 !=0)=true:=by simpa using hx
     clear BQ
     have RN:=zwd (Row.nil w0.drew)
     have S4:=zwd (S0.out.go (Ext.drew (Ext.refl w0)))
     refine zaa Ext Ext.refl (fun _ _ _=>Ext.trans) ((0,false)::(1,false)::(2,false)::(3,false)::(4,false)::(5,false)::(6,false)::(7,false)::(8,false)::(9,false)::(10,false)::(11,false)::(12,false)::(13,false)::(14,false)::[]) (by kernel_rfl) (by kernel_rfl) rfl (by kernel_rfl) (fun _ _ _ _ _ h=>h) ?_
     repeat(first|(refine zab _ rfl (by rfl) (fun W hW=>by go_simp;first|done|rfl) ?_;simp only[Act.put,zwe,zwg,zwf])|(refine zaw rfl (by rfl) ?_;simp only[Act.put,zwe,zwg,zwf]))
     refine zai ?_
     clear l0
     generalize w0.drew=w1 at S4 RN⊢
     obtain⟨p0,p1,p2,f0,f1,f2⟩:=S4.out.box.six
     go_wp2_with fail
     exact zah (zs:=[]) (c:=0) F.out rfl rfl rfl S4.out (RN.out _) (fun h=>absurd h (by simp)) ⟨fun _=>rfl,Nat.le_refl _⟩ rfl (by simp)
 · obtain⟨k,rfl⟩:∃k,n=k+1:=⟨n-1,by have:=H3.out;omega⟩
   obtain⟨b,off,rfl,hbl,hc⟩:=R0.out.2.2 (by omega)
   have l0:=zaf (hc k (by omega))
   have z0:=R0.out.byte k
   have BQ:Hid (zaG zs many=if zs[k]?.getD 0%16≠0 then(zbz,1)else(.node 3 (4::zs) [],0)):=by rw[BZ.out,LZ.out,hq,HL.out];simp[Hid]
   clear BZ LZ hc hbl
   generalize zs[k]?.getD 0=x at*
   have hq2:8*((k:Int)+1)-many=4:=by omega
   have h22:¬8*((k:Int)+1)<many:=by omega
   have t33:((k:Int)+1 !=(many+7)/8)=false:=t3
   have wk:IntKind.i64.wrap (k:Int)=k:=IntWalk.i64_in _ (by omega)
   have kk:(k:Int)<(k:Int)+1:=by omega
   have w8:IntKind.u8.wrap 16=16:=IntWalk.u8_in _ (by omega)
   have w7:IntKind.u8.wrap 15=15:=IntWalk.u8_in _ (by omega)
   have bm:bits .and .u8 x 15=x%16:=zv4 x z0.1 z0.2
   clear hq h2 t3
   go_wp2_with fail
   refine(zdY many _ (by omega) (by omega)).mono ?_
   rintro e w1 ⟨rfl,rfl⟩
   go_wp2_with fail
   generalize hw0:w.alloc (.cells #[.int .i64 0,.slice none 0 0,.slice none 0 0] 30)=w0 at*
   have hlt0:w.heap.size<w0.heap.size:=S0.out.box.lt
   clear hw0
   by_cases hx:x%16=0
   · have F:Hid (zaG zs many=(.node 3 (4::zs) [],0)):=by rw[BQ.out,if_neg (by simpa using hx)];exact zwd rfl
     clear BQ
     refine zaa Ext Ext.refl (fun _ _ _=>Ext.trans) ((0,false)::(1,false)::(2,false)::(3,false)::(4,false)::(5,false)::(6,false)::(7,false)::(8,false)::(9,false)::(10,false)::(11,false)::(12,false)::(13,false)::(14,false)::[]) (by kernel_rfl) (by kernel_rfl) rfl (by kernel_rfl) (fun _ _ _ _ _ h=>h) ?_
     repeat(first|(refine zab _ rfl (by rfl) (fun W hW=>by go_simp;first|done|rfl) ?_;simp only[Act.put,zwe,zwg,zwf])|(refine zaw rfl (by rfl) ?_;simp only[Act.put,zwe,zwg,zwf]))
     refine zai ?_
     clear l0
     have E1:Hid (Ext w0 w0.drew):=Ext.drew (Ext.refl w0)
     generalize w0.drew=w1 at E1⊢
     have R1:=zwd (R0.out.below E1.out)
     have S1:=zwd (S0.out.go E1.out)
     have hlt1:w.heap.size<w1.heap.size:=S1.out.box.lt
     clear R0 S0 E1 hlt0
     have O3:=zwd (zbd w1 4)
     have R3:=zwd (R1.out.below ((Below.refl w1.heap.size w1).alloc (Nat.le_refl _) (.cells #[.int .u8 4] 5)))
     go_wp2_with (at_builtin;go_must (refine zag (W0:=w1) (L:=[4]) (zs:=zs) rfl _ _ rfl rfl O3.out rfl R3.out NI.out (by simp;omega) ?_;intro V4 w4 ho4;have O4:=zwd ho4;have S4:=zwd (S1.out.go ho4.2);obtain⟨p0,p1,p2,f0,f1,f2⟩:=S4.out.box.six;obtain⟨b4,c4,rfl,hr4⟩:=ho4.row (by intro y hy;rcases List.mem_cons.1 hy with rfl|hy;omega;exact HB.out y hy);have R4:=zwd hr4;clear ho4 hr4))
     exact zah (zs:=4::zs) (c:=c4) F.out rfl rfl rfl S4.out R4.out (fun h0=>by obtain⟨b,off,e,hb⟩:=zbn O4.out h0;exact⟨b,off,e,Nat.lt_of_lt_of_le hlt1 hb⟩) ⟨O4.out.nilc,zaJ O4.out.1⟩ rfl (by have:=HL.out;simp;omega)
   · have F:Hid (zaG zs many=(.node 0 [] [],1)):=by rw[BQ.out,if_pos (by simpa using hx)];exact zwd rfl
     have tx:(x%16 !=0)=true:=by simpa using hx
     clear BQ
     have RN:=zwd (Row.nil w0.drew)
     have S4:=zwd (S0.out.go (Ext.drew (Ext.refl w0)))
     refine zaa Ext Ext.refl (fun _ _ _=>Ext.trans) ((0,false)::(1,false)::(2,false)::(3,false)::(4,false)::(5,false)::(6,false)::(7,false)::(8,false)::(9,false)::(10,false)::(11,false)::(12,false)::(13,false)::(14,false)::[]) (by kernel_rfl) (by kernel_rfl) rfl (by kernel_rfl) (fun _ _ _ _ _ h=>h) ?_
     repeat(first|(refine zab _ rfl (by rfl) (fun W hW=>by go_simp;first|done|rfl) ?_;simp only[Act.put,zwe,zwg,zwf])|(refine zaw rfl (by rfl) ?_;simp only[Act.put,zwe,zwg,zwf]))
     refine zai ?_
     clear l0
     generalize w0.drew=w1 at S4 RN⊢
     obtain⟨p0,p1,p2,f0,f1,f2⟩:=S4.out.box.six
     go_wp2_with fail
     exact zah (zs:=[]) (c:=0) F.out rfl rfl rfl S4.out (RN.out _) (fun h=>absurd h (by simp)) ⟨fun _=>rfl,Nat.le_refl _⟩ rfl (by simp)
 · obtain⟨k,rfl⟩:∃k,n=k+1:=⟨n-1,by have:=H3.out;omega⟩
   obtain⟨b,off,rfl,hbl,hc⟩:=R0.out.2.2 (by omega)
   have l0:=zaf (hc k (by omega))
   have z0:=R0.out.byte k
   have BQ:Hid (zaG zs many=if zs[k]?.getD 0%32≠0 then(zbz,1)else(.node 3 (5::zs) [],0)):=by rw[BZ.out,LZ.out,hq,HL.out];simp[Hid]
   clear BZ LZ hc hbl
   generalize zs[k]?.getD 0=x at*
   have hq2:8*((k:Int)+1)-many=5:=by omega
   have h22:¬8*((k:Int)+1)<many:=by omega
   have t33:((k:Int)+1 !=(many+7)/8)=false:=t3
   have wk:IntKind.i64.wrap (k:Int)=k:=IntWalk.i64_in _ (by omega)
   have kk:(k:Int)<(k:Int)+1:=by omega
   have w8:IntKind.u8.wrap 32=32:=IntWalk.u8_in _ (by omega)
   have w7:IntKind.u8.wrap 31=31:=IntWalk.u8_in _ (by omega)
   have bm:bits .and .u8 x 31=x%32:=zv5 x z0.1 z0.2
   clear hq h2 t3
   go_wp2_with fail
   refine(zdY many _ (by omega) (by omega)).mono ?_
   rintro e w1 ⟨rfl,rfl⟩
   go_wp2_with fail
   generalize hw0:w.alloc (.cells #[.int .i64 0,.slice none 0 0,.slice none 0 0] 30)=w0 at*
   have hlt0:w.heap.size<w0.heap.size:=S0.out.box.lt
   clear hw0
   by_cases hx:x%32=0
   · have F:Hid (zaG zs many=(.node 3 (5::zs) [],0)):=by rw[BQ.out,if_neg (by simpa using hx)];exact zwd rfl
     clear BQ
     refine zaa Ext Ext.refl (fun _ _ _=>Ext.trans) ((0,false)::(1,false)::(2,false)::(3,false)::(4,false)::(5,false)::(6,false)::(7,false)::(8,false)::(9,false)::(10,false)::(11,false)::(12,false)::(13,false)::(14,false)::[]) (by kernel_rfl) (by kernel_rfl) rfl (by kernel_rfl) (fun _ _ _ _ _ h=>h) ?_
     repeat(first|(refine zab _ rfl (by rfl) (fun W hW=>by go_simp;first|done|rfl) ?_;simp only[Act.put,zwe,zwg,zwf])|(refine zaw rfl (by rfl) ?_;simp only[Act.put,zwe,zwg,zwf]))
     refine zai ?_
     clear l0
     have E1:Hid (Ext w0 w0.drew):=Ext.drew (Ext.refl w0)
     generalize w0.drew=w1 at E1⊢
     have R1:=zwd (R0.out.below E1.out)
     have S1:=zwd (S0.out.go E1.out)
     have hlt1:w.heap.size<w1.heap.size:=S1.out.box.lt
     clear R0 S0 E1 hlt0
     have O3:=zwd (zbd w1 5)
     have R3:=zwd (R1.out.below ((Below.refl w1.heap.size w1).alloc (Nat.le_refl _) (.cells #[.int .u8 5] 5)))
     go_wp2_with (at_builtin;go_must (refine zag (W0:=w1) (L:=[5]) (zs:=zs) rfl _ _ rfl rfl O3.out rfl R3.out NI.out (by simp;omega) ?_;intro V4 w4 ho4;have O4:=zwd ho4;have S4:=zwd (S1.out.go ho4.2);obtain⟨p0,p1,p2,f0,f1,f2⟩:=S4.out.box.six;obtain⟨b4,c4,rfl,hr4⟩:=ho4.row (by intro y hy;rcases List.mem_cons.1 hy with rfl|hy;omega;exact HB.out y hy);have R4:=zwd hr4;clear ho4 hr4))
     exact zah (zs:=5::zs) (c:=c4) F.out rfl rfl rfl S4.out R4.out (fun h0=>by obtain⟨b,off,e,hb⟩:=zbn O4.out h0;exact⟨b,off,e,Nat.lt_of_lt_of_le hlt1 hb⟩) ⟨O4.out.nilc,zaJ O4.out.1⟩ rfl (by have:=HL.out;simp;omega)
   · have F:Hid (zaG zs many=(.node 0 [] [],1)):=by rw[BQ.out,if_pos (by simpa using hx)];exact zwd rfl
     have tx:(x%32 !=0)=true:=by simpa using hx
     clear BQ
     have RN:=zwd (Row.nil w0.drew)
     have S4:=zwd (S0.out.go (Ext.drew (Ext.refl w0)))
     refine zaa Ext Ext.refl (fun _ _ _=>Ext.trans) ((0,false)::(1,false)::(2,false)::(3,false)::(4,false)::(5,false)::(6,false)::(7,false)::(8,false)::(9,false)::(10,false)::(11,false)::(12,false)::(13,false)::(14,false)::[]) (by kernel_rfl) (by kernel_rfl) rfl (by kernel_rfl) (fun _ _ _ _ _ h=>h) ?_
     repeat(first|(refine zab _ rfl (by rfl) (fun W hW=>by go_simp;first|done|rfl) ?_;simp only[Act.put,zwe,zwg,zwf])|(refine zaw rfl (by rfl) ?_;simp only[Act.put,zwe,zwg,zwf]))
     refine zai ?_
     clear l0
     generalize w0.drew=w1 at S4 RN⊢
     obtain⟨p0,p1,p2,f0,f1,f2⟩:=S4.out.box.six
     go_wp2_with fail
     exact zah (zs:=[]) (c:=0) F.out rfl rfl rfl S4.out (RN.out _) (fun h=>absurd h (by simp)) ⟨fun _=>rfl,Nat.le_refl _⟩ rfl (by simp)
 · obtain⟨k,rfl⟩:∃k,n=k+1:=⟨n-1,by have:=H3.out;omega⟩
   obtain⟨b,off,rfl,hbl,hc⟩:=R0.out.2.2 (by omega)
   have l0:=zaf (hc k (by omega))
   have z0:=R0.out.byte k
   have BQ:Hid (zaG zs many=if zs[k]?.getD 0%64≠0 then(zbz,1)else(.node 3 (6::zs) [],0)):=by rw[BZ.out,LZ.out,hq,HL.out];simp[Hid]
   clear BZ LZ hc hbl
   generalize zs[k]?.getD 0=x at*
   have hq2:8*((k:Int)+1)-many=6:=by omega
   have h22:¬8*((k:Int)+1)<many:=by omega
   have t33:((k:Int)+1 !=(many+7)/8)=false:=t3
   have wk:IntKind.i64.wrap (k:Int)=k:=IntWalk.i64_in _ (by omega)
   have kk:(k:Int)<(k:Int)+1:=by omega
   have w8:IntKind.u8.wrap 64=64:=IntWalk.u8_in _ (by omega)
   have w7:IntKind.u8.wrap 63=63:=IntWalk.u8_in _ (by omega)
   have bm:bits .and .u8 x 63=x%64:=zv6 x z0.1 z0.2
   clear hq h2 t3
   go_wp2_with fail
   refine(zdY many _ (by omega) (by omega)).mono ?_
   rintro e w1 ⟨rfl,rfl⟩
   go_wp2_with fail
   generalize hw0:w.alloc (.cells #[.int .i64 0,.slice none 0 0,.slice none 0 0] 30)=w0 at*
   have hlt0:w.heap.size<w0.heap.size:=S0.out.box.lt
   clear hw0
   by_cases hx:x%64=0
   · have F:Hid (zaG zs many=(.node 3 (6::zs) [],0)):=by rw[BQ.out,if_neg (by simpa using hx)];exact zwd rfl
     clear BQ
     refine zaa Ext Ext.refl (fun _ _ _=>Ext.trans) ((0,false)::(1,false)::(2,false)::(3,false)::(4,false)::(5,false)::(6,false)::(7,false)::(8,false)::(9,false)::(10,false)::(11,false)::(12,false)::(13,false)::(14,false)::[]) (by kernel_rfl) (by kernel_rfl) rfl (by kernel_rfl) (fun _ _ _ _ _ h=>h) ?_
     repeat(first|(refine zab _ rfl (by rfl) (fun W hW=>by go_simp;first|done|rfl) ?_;simp only[Act.put,zwe,zwg,zwf])|(refine zaw rfl (by rfl) ?_;simp only[Act.put,zwe,zwg,zwf]))
     refine zai ?_
     clear l0
     have E1:Hid (Ext w0 w0.drew):=Ext.drew (Ext.refl w0)
     generalize w0.drew=w1 at E1⊢
     have R1:=zwd (R0.out.below E1.out)
     have S1:=zwd (S0.out.go E1.out)
     have hlt1:w.heap.size<w1.heap.size:=S1.out.box.lt
     clear R0 S0 E1 hlt0
     have O3:=zwd (zbd w1 6)
     have R3:=zwd (R1.out.below ((Below.refl w1.heap.size w1).alloc (Nat.le_refl _) (.cells #[.int .u8 6] 5)))
     go_wp2_with (at_builtin;go_must (refine zag (W0:=w1) (L:=[6]) (zs:=zs) rfl _ _ rfl rfl O3.out rfl R3.out NI.out (by simp;omega) ?_;intro V4 w4 ho4;have O4:=zwd ho4;have S4:=zwd (S1.out.go ho4.2);obtain⟨p0,p1,p2,f0,f1,f2⟩:=S4.out.box.six;obtain⟨b4,c4,rfl,hr4⟩:=ho4.row (by intro y hy;rcases List.mem_cons.1 hy with rfl|hy;omega;exact HB.out y hy);have R4:=zwd hr4;clear ho4 hr4))
     exact zah (zs:=6::zs) (c:=c4) F.out rfl rfl rfl S4.out R4.out (fun h0=>by obtain⟨b,off,e,hb⟩:=zbn O4.out h0;exact⟨b,off,e,Nat.lt_of_lt_of_le hlt1 hb⟩) ⟨O4.out.nilc,zaJ O4.out.1⟩ rfl (by have:=HL.out;simp;omega)
   · have F:Hid (zaG zs many=(.node 0 [] [],1)):=by rw[BQ.out,if_pos (by simpa using hx)];exact zwd rfl
     have tx:(x%64 !=0)=true:=by simpa using hx
     clear BQ
     have RN:=zwd (Row.nil w0.drew)
     have S4:=zwd (S0.out.go (Ext.drew (Ext.refl w0)))
     refine zaa Ext Ext.refl (fun _ _ _=>Ext.trans) ((0,false)::(1,false)::(2,false)::(3,false)::(4,false)::(5,false)::(6,false)::(7,false)::(8,false)::(9,false)::(10,false)::(11,false)::(12,false)::(13,false)::(14,false)::[]) (by kernel_rfl) (by kernel_rfl) rfl (by kernel_rfl) (fun _ _ _ _ _ h=>h) ?_
     repeat(first|(refine zab _ rfl (by rfl) (fun W hW=>by go_simp;first|done|rfl) ?_;simp only[Act.put,zwe,zwg,zwf])|(refine zaw rfl (by rfl) ?_;simp only[Act.put,zwe,zwg,zwf]))
     refine zai ?_
     clear l0
     generalize w0.drew=w1 at S4 RN⊢
     obtain⟨p0,p1,p2,f0,f1,f2⟩:=S4.out.box.six
     go_wp2_with fail
     exact zah (zs:=[]) (c:=0) F.out rfl rfl rfl S4.out (RN.out _) (fun h=>absurd h (by simp)) ⟨fun _=>rfl,Nat.le_refl _⟩ rfl (by simp)
 · obtain⟨k,rfl⟩:∃k,n=k+1:=⟨n-1,by have:=H3.out;omega⟩
   obtain⟨b,off,rfl,hbl,hc⟩:=R0.out.2.2 (by omega)
   have l0:=zaf (hc k (by omega))
   have z0:=R0.out.byte k
   have BQ:Hid (zaG zs many=if zs[k]?.getD 0%128≠0 then(zbz,1)else(.node 3 (7::zs) [],0)):=by rw[BZ.out,LZ.out,hq,HL.out];simp[Hid]
   clear BZ LZ hc hbl
   generalize zs[k]?.getD 0=x at*
   have hq2:8*((k:Int)+1)-many=7:=by omega
   have h22:¬8*((k:Int)+1)<many:=by omega
   have t33:((k:Int)+1 !=(many+7)/8)=false:=t3
   have wk:IntKind.i64.wrap (k:Int)=k:=IntWalk.i64_in _ (by omega)
   have kk:(k:Int)<(k:Int)+1:=by omega
   have w8:IntKind.u8.wrap 128=128:=IntWalk.u8_in _ (by omega)
   have w7:IntKind.u8.wrap 127=127:=IntWalk.u8_in _ (by omega)
   have bm:bits .and .u8 x 127=x%128:=zv7 x z0.1 z0.2
   clear hq h2 t3
   go_wp2_with fail
   refine(zdY many _ (by omega) (by omega)).mono ?_
   rintro e w1 ⟨rfl,rfl⟩
   go_wp2_with fail
   generalize hw0:w.alloc (.cells #[.int .i64 0,.slice none 0 0,.slice none 0 0] 30)=w0 at*
   have hlt0:w.heap.size<w0.heap.size:=S0.out.box.lt
   clear hw0
   by_cases hx:x%128=0
   · have F:Hid (zaG zs many=(.node 3 (7::zs) [],0)):=by rw[BQ.out,if_neg (by simpa using hx)];exact zwd rfl
     clear BQ
     refine zaa Ext Ext.refl (fun _ _ _=>Ext.trans) ((0,false)::(1,false)::(2,false)::(3,false)::(4,false)::(5,false)::(6,false)::(7,false)::(8,false)::(9,false)::(10,false)::(11,false)::(12,false)::(13,false)::(14,false)::[]) (by kernel_rfl) (by kernel_rfl) rfl (by kernel_rfl) (fun _ _ _ _ _ h=>h) ?_
     repeat(first|(refine zab _ rfl (by rfl) (fun W hW=>by go_simp;first|done|rfl) ?_;simp only[Act.put,zwe,zwg,zwf])|(refine zaw rfl (by rfl) ?_;simp only[Act.put,zwe,zwg,zwf]))
     refine zai ?_
     clear l0
     have E1:Hid (Ext w0 w0.drew):=Ext.drew (Ext.refl w0)
     generalize w0.drew=w1 at E1⊢
     have R1:=zwd (R0.out.below E1.out)
     have S1:=zwd (S0.out.go E1.out)
     have hlt1:w.heap.size<w1.heap.size:=S1.out.box.lt
     clear R0 S0 E1 hlt0
     have O3:=zwd (zbd w1 7)
     have R3:=zwd (R1.out.below ((Below.refl w1.heap.size w1).alloc (Nat.le_refl _) (.cells #[.int .u8 7] 5)))
     go_wp2_with (at_builtin;go_must (refine zag (W0:=w1) (L:=[7]) (zs:=zs) rfl _ _ rfl rfl O3.out rfl R3.out NI.out (by simp;omega) ?_;intro V4 w4 ho4;have O4:=zwd ho4;have S4:=zwd (S1.out.go ho4.2);obtain⟨p0,p1,p2,f0,f1,f2⟩:=S4.out.box.six;obtain⟨b4,c4,rfl,hr4⟩:=ho4.row (by intro y hy;rcases List.mem_cons.1 hy with rfl|hy;omega;exact HB.out y hy);have R4:=zwd hr4;clear ho4 hr4))
     exact zah (zs:=7::zs) (c:=c4) F.out rfl rfl rfl S4.out R4.out (fun h0=>by obtain⟨b,off,e,hb⟩:=zbn O4.out h0;exact⟨b,off,e,Nat.lt_of_lt_of_le hlt1 hb⟩) ⟨O4.out.nilc,zaJ O4.out.1⟩ rfl (by have:=HL.out;simp;omega)
   · have F:Hid (zaG zs many=(.node 0 [] [],1)):=by rw[BQ.out,if_pos (by simpa using hx)];exact zwd rfl
     have tx:(x%128 !=0)=true:=by simpa using hx
     clear BQ
     have RN:=zwd (Row.nil w0.drew)
     have S4:=zwd (S0.out.go (Ext.drew (Ext.refl w0)))
     refine zaa Ext Ext.refl (fun _ _ _=>Ext.trans) ((0,false)::(1,false)::(2,false)::(3,false)::(4,false)::(5,false)::(6,false)::(7,false)::(8,false)::(9,false)::(10,false)::(11,false)::(12,false)::(13,false)::(14,false)::[]) (by kernel_rfl) (by kernel_rfl) rfl (by kernel_rfl) (fun _ _ _ _ _ h=>h) ?_
     repeat(first|(refine zab _ rfl (by rfl) (fun W hW=>by go_simp;first|done|rfl) ?_;simp only[Act.put,zwe,zwg,zwf])|(refine zaw rfl (by rfl) ?_;simp only[Act.put,zwe,zwg,zwf]))
     refine zai ?_
     clear l0
     generalize w0.drew=w1 at S4 RN⊢
     obtain⟨p0,p1,p2,f0,f1,f2⟩:=S4.out.box.six
     go_wp2_with fail
     exact zah (zs:=[]) (c:=0) F.out rfl rfl rfl S4.out (RN.out _) (fun h=>absurd h (by simp)) ⟨fun _=>rfl,Nat.le_refl _⟩ rfl (by simp)
theorem zge (n:Int) (h₀:0<=n) (h₁:n<2^63):IntKind.i64.wrap n=n:=by rw[IntKind.wrap_i64];omega
theorem zv8 {z:Int} (h0:0<=z) (h1:z<=255):bits .and .i64 z 31=z%32:=bits_mask .i64 63 (by decide) zge 5 (by decide) z h0 (by omega)
theorem zv9 {z:Int} (h0:0<=z) (h1:z<=9223372036854775807):bits .and .i64 z 32=z/32%2*32:=by
 obtain⟨a,rfl⟩:=Int.eq_ofNat_of_zero_le h0
 have ha:a<2^63:=by omega
 rw[show(32:Int)=((32:Nat):Int)from rfl,(bits_nat .i64 63 (by decide) zge a 32 ha (by decide)).1]
 have e:a&&&32=a/32%2*32:=by
  refine Nat.eq_of_testBit_eq fun i=> ?_
  rw[Nat.testBit_and,show(32:Nat)=2^5 from rfl,Nat.testBit_two_pow]
  rcases Nat.mod_two_eq_zero_or_one (a/2^5)with h|h
  · rw[h,Nat.zero_mul,Nat.zero_testBit]
    by_cases hi:5=i
    · subst hi
      rw[Nat.testBit_eq_decide_div_mod_eq,h]
      rfl
    · simp[hi]
  · rw[h,Nat.one_mul,Nat.testBit_two_pow]
    by_cases hi:5=i
    · subst hi
      rw[Nat.testBit_eq_decide_div_mod_eq,h]
      rfl
    · simp[hi]
 rw[e]
 omega
theorem zeN (z:Int) (w:World) (hz:(Lit.int .i64 z).wf=true):Calls Tryz.prog 129 #[.int .i64 z] w fun e w'=>e= .returned (.bool (tagB z))/\ w=w':=by
 have hb:=bounds_i64 hz
 by_cases h0:0<=z
 · by_cases h1:z<=255
   · have F:Hid (tagB z=(z%32 !=31)):=by
      have h2:z<256:=by omega
      simp[tagB,h0,h2,Hid]
     have A:=zv8 h0 h1
     go_enter Tryz.func129,Tryz.ntmps129
     go_wp2_with fail
     go_ret
     exact⟨zaj F.out.symm,rfl⟩
   · have F:Hid (tagB z=false):=by
      have h2:¬z<256:=by omega
      simp[tagB,h2,Hid]
     go_enter Tryz.func129,Tryz.ntmps129
     go_wp2_with fail
     go_ret
     exact⟨zaj F.out.symm,rfl⟩
 · have F:Hid (tagB z=false):=by simp[tagB,h0,Hid]
   go_enter Tryz.func129,Tryz.ntmps129
   go_wp2_with fail
   go_ret
   exact⟨zaj F.out.symm,rfl⟩
theorem zoH {z:Int} (h0:0<=z):zav z=(z/32%2*32 !=0):=by
 unfold zav
 rw[Int.tdiv_eq_ediv_of_nonneg h0,Int.tmod_eq_emod_of_nonneg (by omega)]
 rcases(show z/32%2=0 \/z/32%2=1 by omega)with h|h<;>rw[h]<;>rfl
theorem zoI {z:Int} (h0:¬0<=z):zav z=false:=by
 unfold zav
 have h1:z.tdiv 32<=0:=by
  have:=Int.neg_tdiv (-z) 32
  rw[show z= -(-z)by omega,Int.neg_tdiv,Int.tdiv_eq_ediv_of_nonneg (by omega)]
  omega
 have h2:(z.tdiv 32).tmod 2<=0:=by
  rw[show z.tdiv 32= -(-(z.tdiv 32))by omega,Int.neg_tmod,Int.tmod_eq_emod_of_nonneg (by omega)]
  omega
 simp
 omega
theorem zcj (z:Int) (w:World) (hz:(Lit.int .i64 z).wf=true):Calls Tryz.prog 130 #[.int .i64 z] w fun e w'=>e= .returned (.bool (zav z))/\ w=w':=by
 have hb:=bounds_i64 hz
 by_cases h0:0<=z
 · have F:=zwd (zoH h0)
   have A:=zv9 h0 (by omega)
   go_enter Tryz.func130,Tryz.ntmps130
   go_wp2_with fail
   go_ret
   exact⟨zaj F.out.symm,rfl⟩
 · have F:=zwd (zoI h0)
   go_enter Tryz.func130,Tryz.ntmps130
   go_wp2_with fail
   go_ret
   exact⟨zaj F.out.symm,rfl⟩
theorem zmh (z:Int) (w:World) (h0:0<=z) (h1:z<=100000000):Calls Tryz.prog 133 #[.int .i64 z] w (zju z w):=by
 by_cases c1:z<128
 · go_enter Tryz.func133,Tryz.ntmps133
   go_wp2_with fail
   go_ret
   exact zdv (zs:=[z]) (by simp[lenB,c1]) h0 rfl
 by_cases c2:z<256
 · go_enter Tryz.func133,Tryz.ntmps133
   go_wp2_with fail
   go_ret
   exact zdv (zs:=[129,z]) (by rw[lenB,if_neg (by omega),if_pos c2]) h0 rfl
 · have F:Hid (lenB z=[130,z/256%256,z%256]):=by simp[lenB,c1,c2,Hid]
   go_enter Tryz.func133,Tryz.ntmps133
   go_wp2_with fail
   go_ret
   exact zdv (zs:=[130,z/256%256,z%256]) F.out h0 rfl
theorem zfG (z:Int) (w:World) (h0:0<=z) (h1:z<=100000000):Calls Tryz.prog 131 #[.int .i64 z] w fun e w'=>e= .returned (.int .i64 (z+1+zfw z))/\ Below w.heap.size w w':=by
 go_enter Tryz.func131,Tryz.ntmps131
 go_wp2_with fail
 refine(zmh _ _ h0 h1).mono ?_
 rintro e w2 ⟨a2,cc2,rfl,hrow,hb2⟩
 have B2:=zwd hb2
 have LL:=zwd (zch z)
 have hl3:=zcB z
 clear hrow hb2
 generalize(lenB z).length=L at LL hl3
 go_wp2_with fail
 go_ret
 exact⟨zl3 (by rw[<-LL.out];omega),B2.out⟩
theorem Tryz.sizeU8:(Tryz.prog.info? 5).map (·.size)=some 1:=by kernel_rfl
theorem Blk.shape {w:World} {b:Nat} {t:TypeId} {cs:Array Value} (h:Blk w b t cs):w.shape? b=some (t,cs.size):=by
 unfold Blk at h
 simp[World.shape?,h]
theorem zrg {α:Type} (h1:Option Addr->Nat->Nat->Option Addr->Nat->Nat->α) (h2:Array Value->α) (a:Option Addr) (n c:Nat) (b:Option Addr) (m d:Nat):
 Extern.SlicesOverlaps.overlaps.match_4 (motive:=fun _=>α) #[.slice a n c,.slice b m d] h1 h2=h1 a n c b m d:=rfl
theorem zuW {w:World} {b g:Nat} {cs cur:Array Value} (h1:Blk w b 5 cs) (h2:Blk w g 5 cur) (hne:b≠g) (off lb cb lg cg:Nat):
 (callFunc 180 #[.slice (some ⟨b,0,none⟩) lb cb,.slice (some ⟨g,off,none⟩) lg cg]).run Tryz.prog w= .ok (.value (.bool false)) w:=by
 rw[run_callFunc_extern (e:=Extern.SlicesOverlaps.overlaps Tryz.f180.params Tryz.f180.resultTypes) Tryz.func180 (by kernel_rfl) (by kernel_rfl) (by kernel_rfl) (by kernel_rfl)]
 have s1:=h1.shape
 have s2:=h2.shape
 have f1:=fun j=>h1.free j
 have f2:=fun j=>h2.free j
 cases hq:Tryz.prog.info? 5 with
 |none=>have:=Tryz.sizeU8;simp[hq]at this
 |some i=>
   have hi:i.size=1:=by have:=Tryz.sizeU8;simpa[hq]using this
   unfold Extern.SlicesOverlaps.overlaps
   rw[zrg]
   by_cases hl:lb=0 \/lg=0
   · simp[run_underlying Tryz.underlying26,sizeOf,typeInfo,hq,hi,hl,Result.andThen]
   · simp[run_underlying Tryz.underlying26,sizeOf,typeInfo,hq,hi,hl,hne,noView,viewAt,mayBeOne,stringish,s1,s2,f1,f2,Result.andThen]
def Buf (B:Nat) (w:World) (g cap:Nat) (L:List Int):Prop:=w.ownsRow B 5 1 (.slice (some ⟨g,0,none⟩) L.length cap) L.length (L.map (Value.int .u8))
theorem Buf.open {B:Nat} {w:World} {g cap:Nat} {L:List Int} (h:Buf B w g cap L):∃cur:Array Value,B<=g/\ Blk w g 5 cur/\ L.length<=cap/\ cap<=maxLen/\ cur.size=cap/\ cur.toList.take L.length=L.map (Value.int .u8):=by
 rcases h.2 with⟨e,_⟩|⟨g',cap',cur,e,h1,h2,h3,h4,h5,h6⟩
 · cases e
 · obtain⟨rfl,rfl⟩:g=g'/\ cap=cap':=by simpa using e
   exact⟨cur,h1,h2,h3,h4,by omega,by simpa using h6⟩
theorem Buf.of {B:Nat} {w:World} {g cap:Nat} {L:List Int} {cur:Array Value} (h1:B<=g) (h2:Blk w g 5 cur) (h3:L.length<=cap) (h4:cap<=maxLen) (h5:cur.size=cap) (h6:cur.toList.take L.length=L.map (Value.int .u8)):Buf B w g cap L:=
 ⟨by simp,.inr ⟨g,cap,cur,rfl,h1,h2,h3,h4,by omega,by simpa using h6⟩⟩
theorem Buf.kept {B:Nat} {w w':World} {g cap:Nat} {L:List Int} (h:Buf B w g cap L) (hb:w'.heap[g]?=w.heap[g]?):Buf B w' g cap L:=by
 obtain⟨cur,h1,h2,h3,h4,h5,h6⟩:=h.open
 exact Buf.of h1 (hb.trans h2) h3 h4 h5 h6
theorem zuX {cur:List Value} {L zs:List Int} {i cap:Nat} (hi:i<=L.length) (hc:cur.length=cap) (hroom:L.length+zs.length<=cap) (h6:cur.take L.length=L.map (Value.int .u8)):
 (splice (splice cur (i+zs.length) ((L.drop i).map (Value.int .u8))) i (zs.map (Value.int .u8))).length=cap/\
 (splice (splice cur (i+zs.length) ((L.drop i).map (Value.int .u8))) i (zs.map (Value.int .u8))).take (L.length+zs.length)=(L.take i++(zs++L.drop i)).map (Value.int .u8):=by
 have hl:(L.drop i).length=L.length-i:=List.length_drop
 have h1:(splice cur (i+zs.length) ((L.drop i).map (Value.int .u8))).length=cap:=by
  rw[length_splice _ _ _ (by rw[List.length_map,hl];omega),hc]
 refine⟨by rw[length_splice _ _ _ (by rw[List.length_map,h1];omega),h1],?_⟩
 have e0:cur.take i=(L.take i).map (Value.int .u8):=by
  rw[List.map_take,<-h6,List.take_take]
  congr 1
  omega
 have e1:(splice cur (i+zs.length) ((L.drop i).map (Value.int .u8))).take i=(L.take i).map (Value.int .u8):=by
  unfold splice
  rw[List.take_append_of_le_length (by rw[List.length_take];omega),List.take_take,<-e0]
  congr 1
  omega
 have e2:(splice cur (i+zs.length) ((L.drop i).map (Value.int .u8))).drop (i+zs.length)=(L.drop i).map (Value.int .u8)++cur.drop (L.length+zs.length):=by
  unfold splice
  rw[List.drop_append_of_le_length (by rw[List.length_take];omega),List.drop_take,List.length_map,hl]
  rw[show i+zs.length-(i+zs.length)=0 by omega,List.take_zero,List.nil_append]
  congr 2
  omega
 unfold splice at e1 e2⊢
 rw[e1,List.length_map,e2,<-List.append_assoc,<-List.append_assoc,List.take_append_of_le_length (by simp;omega),List.take_of_length_le (by simp;omega)]
 simp
def zdZ (B g cap:Nat) (L:List Int) (w:World) (e:Ending) (w':World):Prop:=
 e= .returned (.slice (some ⟨g,0,none⟩) L.length cap)/\ Buf B w' g cap L/\ w.grownBy w' (some g)
theorem zoJ {w w':World} {r:Option Nat} (h:w.drew.grownBy w' r):w.grownBy w' r:=⟨h.os,h.tape,h.output,h.size,h.block⟩
theorem zoK (B g cap b:Nat) (L zs:List Int) (w:World) (hbuf:Buf B w g cap L) (hv:Blk w b 5 (zs.map (Value.int .u8)).toArray) (hz:0<zs.length) (hroom:L.length+zs.length<=cap):
 Calls Tryz.prog 132 #[.slice (some ⟨g,0,none⟩) L.length cap,.int .i64 (L.length:Int),.slice (some ⟨b,0,none⟩) zs.length zs.length] w (zdZ B g cap (L++zs) w):=by
 obtain⟨i0,hi5,hz0,hz1,hz2⟩:=info_parts Tryz.infoByte
 obtain⟨cur,h1,h2,h3,h4,h5,h6⟩:=hbuf.open
 unfold maxLen at h4
 have HB:=zwd hbuf
 have HV:=zwd hv
 clear hbuf hv h1 h2 h5 h6 hz0 hz2
 have CE:Hid (∀j u,(zs.map (Value.int .u8))[j]?=some u->w.cell? ((⟨b,0,none⟩:Addr).add j)=some u):=by
  intro j u hu
  rw[Addr.add_lit,Nat.zero_add,HV.out.cell j]
  simpa using hu
 have t0:((zs.length:Int)==0)=false:=by simp;intro h;rw[h]at hz;simp at hz
 go_enter Tryz.func132,Tryz.ntmps132
 go_wp2_with (at_builtin;refine wpList_append_own_spare _ rfl _ _ 26 rfl B 5 i0 1 Tryz.underlying26 hi5 hz1 g L.length cap (L.map (Value.int .u8)) rfl HB.out ⟨b,0,none⟩ zs.length zs.length (zs.map (Value.int .u8)) rfl (by simp) CE.out ?one hroom ?next)
 case one=>
  intro u hu
  obtain⟨_,_,rfl⟩:=List.mem_map.1 hu
  rfl
 case next=>
  intro w1 hown hg1
  have HO:=zwd hown
  have HG:=zwd hg1
  clear hown hg1
  go_wp2_with fail
  go_ret
  refine⟨by rw[List.length_append];rfl,?_,HG.out⟩
  unfold Buf
  rw[List.length_append,List.map_append]
  exact HO.out
theorem zrh {o:Oper} {a:Act} {K:Act->World->Prop} {Q:Exit->Act->World->Prop} {w:World} (d s:Operand) (hop:o.op= .call {callee:= .builtin .copy,args:=#[d,s],argTypes:=#[26,26]})
 (g off dLen dCap:Nat) (ad:Addr) (sLen sCap:Nat) (hd:a.eval d= .slice (some ⟨g,off,none⟩) dLen dCap) (hs:a.eval s= .slice (some ad) sLen sCap)
 (cur:List Value) (hg:Blk w g 5 cur.toArray) (cs:List Value) (hn:cs.length=Nat.min sLen dLen) (hsrc:∀j v,cs[j]?=some v->w.cell? (ad.add j)=some v) (hfit:off+cs.length<=cur.length) (h1:∀v∈cs,v.oneCell'=true)
 (h:∀w',Blk w' g 5 (splice cur off cs).toArray->w.grownBy w' (some g)->K (a.put o.dst (goInt cs.length)) w'):o.wp Tryz.prog a w K Q:=by
 have hrun:=run_copy_row (P:=Tryz.prog) w 26 26 o.type 5 g off dLen dCap ad sLen sCap cur.toArray 5 cs Tryz.underlying26 Tryz.sizeU8 hg hn hsrc (by simpa using hfit) h1
 unfold Oper.wp
 simp[execOp,hop,resolve,invoke,builtin,hd,hs,hrun,Result.andThen]
 refine h _ (show _=_ by simpa[splice]using setRow_heap w g _ _ _ _ hg) ⟨rfl,rfl,rfl,by simp[World.setRow],fun k _ hk=> ?_⟩
 exact setRow_other w g k _ (fun e=>hk (by simp[e]))
theorem zri {ops:Array Oper} {rest:List Oper} {o:Oper} {a:Act} {Q:Exit->Act->World->Prop} {w:World} (hgd:o.guard=none) (d s:Operand) (hop:o.op= .call {callee:= .builtin .copy,args:=#[d,s],argTypes:=#[26,26]})
 (g off dLen dCap:Nat) (ad:Addr) (sLen sCap:Nat) (hd:a.eval d= .slice (some ⟨g,off,none⟩) dLen dCap) (hs:a.eval s= .slice (some ad) sLen sCap)
 (cur:List Value) (hg:Blk w g 5 cur.toArray) (cs:List Value) (hn:cs.length=Nat.min sLen dLen) (hsrc:∀j v,cs[j]?=some v->w.cell? (ad.add j)=some v) (hfit:off+cs.length<=cur.length) (h1:∀v∈cs,v.oneCell'=true)
 (h:∀w',Blk w' g 5 (splice cur off cs).toArray->w.grownBy w' (some g)->wpList Tryz.prog ops Q rest (a.put o.dst (goInt cs.length)) w'):wpList Tryz.prog ops Q (o::rest) a w:=
 wpList_plain hgd fun _ hK=>zrh d s hop g off dLen dCap ad sLen sCap hd hs cur hg cs hn hsrc hfit h1 fun w' h1 h2=>hK _ _ (h w' h1 h2)
theorem zoL (B g cap b i:Nat) (L zs:List Int) (w:World) (hbuf:Buf B w g cap L) (hv:Blk w b 5 (zs.map (Value.int .u8)).toArray) (hbg:b≠g) (hz:0<zs.length) (hi:i<L.length) (hroom:L.length+zs.length<=cap):
 Calls Tryz.prog 132 #[.slice (some ⟨g,0,none⟩) L.length cap,.int .i64 (i:Int),.slice (some ⟨b,0,none⟩) zs.length zs.length] w (zdZ B g cap (L.take i++(zs++L.drop i)) w):=by
 obtain⟨cur,h1,h2,h3,h4,h5,h6⟩:=hbuf.open
 unfold maxLen at h4
 have HB:=zwd hbuf
 have HV:=zwd hv
 have HC:=zwd h2
 have HS:Hid (cur.toList.length=cap):=by simpa[Hid]using h5
 have HT:=zwd h6
 have HGB:=zwd h1
 have HR:=zwd (zuX (zs:=zs) (Nat.le_of_lt hi) HS.out hroom h6)
 clear hbuf hv h1 h2 h5 h6
 have t0:((zs.length:Int)==0)=false:=by simp;intro h;rw[h]at hz;simp at hz
 have t1:((i:Int)==(L.length:Int))=false:=by simp;omega
 have ov:=fun(off lb cb lg cg:Nat)=>zuW HV.out HC.out hbg off lb cb lg cg
 have e0:¬cap=i:=by omega
 have e1:¬cap=i+zs.length:=by omega
 go_enter Tryz.func132,Tryz.ntmps132
 go_wp2_with fail
 clear ov
 have wr:IntKind.i64.wrap ((i:Int)+(zs.length:Int))=(i:Int)+(zs.length:Int):=IntWalk.i64_in _ (by omega)
 have tn:((i:Int)+(zs.length:Int)).toNat=i+zs.length:=by omega
 have nn:0<=(i:Int)+(zs.length:Int):=by omega
 have ll:(i:Int)+(zs.length:Int)<=(L.length:Int)+(zs.length:Int):=by omega
 have l2:(i:Int)<=(L.length:Int)+(zs.length:Int):=by omega
 have n0:L.length+zs.length-(i+zs.length)=L.length-i:=by omega
 refine zaa (Past B) (Past.refl B) (fun _ _ _=>Past.trans) [(0,false),(1,false),(2,false),(3,false),(4,false),(5,false),(6,false),(7,false),(8,true)] (by kernel_rfl) (by kernel_rfl) rfl (by kernel_rfl) (fun _ _ _ _ _ h=>h) ?_
 repeat(refine zab _ rfl (by rfl) (fun W hW=>by go_simp;first|done|rfl) ?_;simp only[Act.put,zwe,zwg,zwf])
 refine zad rfl (by rfl) (fun K1 hK1=> ?_)
 refine zrh (.tmp 73) (.tmp 76) rfl g (i+zs.length) (L.length-i) (cap-(i+zs.length)) ⟨g,i,none⟩ (L.length+zs.length-i) (cap-i) rfl rfl cur.toList (by have h:Blk w.drew g 5 cur:=HC.out;simpa using h) ((L.drop i).map (Value.int .u8)) (by rw[List.length_map,List.length_drop];exact(Nat.min_eq_right (by omega)).symm) ?src (by rw[List.length_map,List.length_drop,HS.out];omega) ?one ?next
 case src=>
  intro j v hv
  rw[Addr.add_lit]
  refine((show Blk w.drew g _ _ from HC.out).cell (i+j)).trans ?_
  rw[List.getElem?_map,List.getElem?_drop]at hv
  have h:=congrArg (fun l=>l[i+j]?) HT.out
  simp only[List.getElem?_take,List.getElem?_map]at h
  rcases Nat.lt_or_ge (i+j) L.length with hl|hl
  · rw[if_pos hl,hv]at h
    simpa using h
  · rw[List.getElem?_eq_none hl]at hv
    cases hv
 case one=>
  intro u hu
  obtain⟨_,_,rfl⟩:=List.mem_map.1 hu
  rfl
 case next=>
  intro w1 hb1 hg1
  have HB1:=zwd hb1
  have HG1:=zwd (zoJ hg1)
  have HV1:Hid (Blk w1 b 5 (zs.map (Value.int .u8)).toArray):=(hg1.block b HV.out.lt (by simpa using hbg)).trans HV.out
  have HP1:Hid (Past B w.drew w1):=(Below.refl B w.drew).grown hg1 (by have:=HC.out.lt;have:=HGB.out;simp;omega) (fun k hk=>by injection hk with hk;rw[<-hk];exact HGB.out)
  refine hK1 _ _ HP1.out ?_
  clear hK1 K1 hb1 hg1 HC HT HV HP1
  simp only[Act.put,zwe,zwg,zwf]
  refine zai ?_
  have HL:Hid ((splice cur.toList (i+zs.length) ((L.drop i).map (Value.int .u8))).length=cap):=by
   rw[length_splice _ _ _ (by rw[List.length_map,List.length_drop,HS.out];omega)]
   exact HS
  generalize splice cur.toList (i+zs.length) ((L.drop i).map (Value.int .u8))=cur2 at HB1 HR HL
  go_wp2_with (refine zri rfl (.tmp 80) (.tmp 81) rfl g i (L.length+zs.length-i) (cap-i) ⟨b,0,none⟩ zs.length zs.length rfl rfl cur2 HB1.out (zs.map (Value.int .u8)) ?n2 ?src2 ?fit2 ?one2 ?next2)
  case n2=>rw[List.length_map];exact(Nat.min_eq_left (by omega)).symm
  case src2=>
   intro j u hu
   rw[Addr.add_lit,Nat.zero_add,HV1.out.cell j]
   simpa using hu
  case fit2=>rw[List.length_map,HL.out];omega
  case one2=>
   intro u hu
   obtain⟨_,_,rfl⟩:=List.mem_map.1 hu
   rfl
  case next2=>
   intro w2 hb2 hg2
   have HB2:=zwd hb2
   have HG2:Hid (w.grownBy w2 (some g)):=⟨hg2.os.trans HG1.out.os,hg2.tape.trans HG1.out.tape,hg2.output.trans HG1.out.output,Nat.le_trans HG1.out.size hg2.size,fun k hk hne=>(hg2.block k (Nat.lt_of_lt_of_le hk HG1.out.size) hne).trans (HG1.out.block k hk hne)⟩
   clear hb2 hg2
   have LE:Hid ((L.take i++(zs++L.drop i)).length=L.length+zs.length):=by simp[Hid];omega
   go_wp2_with fail
   go_ret
   refine⟨by rw[LE.out];rfl,Buf.of HGB.out HB2.out (by rw[LE.out];exact hroom) (by unfold maxLen;omega) (by rw[List.size_toArray];exact HR.out.1) (by rw[LE.out];exact HR.out.2),HG2.out⟩
def boxW (w:World) (z:Int) (A:Option Addr) (n c:Nat) (K:Option Addr) (m d:Nat):World:=w.alloc (.cells #[.int .i64 z,.slice A n c,.slice K m d] 30)
theorem zeO (w:World) (z:Int) (A:Option Addr) (n c:Nat) (K:Option Addr) (m d:Nat):Below w.heap.size w (boxW w z A n c K m d):=(Below.refl _ _).alloc (Nat.le_refl _) _
theorem zvJ {t:T} {k:Nat} {a b z:Int} (h:zdd t k a b z) (hw:wt t<1000000):a<=5000000/\ b<=1000000/\ z<=1000000/\ 0<=a/\ 0<=b/\ 0<=z:=by
 obtain⟨h1,h2,h3,h4,h5,h6,h7⟩:=h
 have hr:=zeI t k
 have h8:=zbJ t.kids
 have:=zdc t
 omega
theorem zrj (t:T):∀(v:Value) (w:World),t.In w v->wt t<1000000->Calls Tryz.prog 83 #[v] w (zee t w):=by
 refine T.each (p:=fun t=>∀(v:Value) (w:World),t.In w v->wt t<1000000->Calls Tryz.prog 83 #[v] w (zee t w)) ?_ t
 clear t
 intro t ih v w hin hwt
 obtain⟨A,n,c,K,m,d,rfl,hw,hr,hn,hc,hm,hm',hks⟩:=hin.open
 have BX:=zwd (Box.start hin)
 have IH:=zwd ih
 have HM:=zwd hm
 have BL:=zwd hr.1
 have EB:=zwd (zcK t)
 have EM:=zwd (zjs t)
 have ED:=zwd (zfx t)
 have hir:=zkS t
 clear hin ih hr hc hm hks
 unfold maxLen at hn hm'
 cases hwi:zav t.tag
 · have HI:Hid (inT t=n):=by rw[inT,hwi,BL.out];simp[Hid]
   rw[HI.out]at hir EB
   rw[hwi]at EM ED
   have WI:=zwd hwi
   clear hwi
   go_enter Tryz.func83,Tryz.ntmps83
   go_wp2_with fail
   refine(zcj t.tag _ hw).mono ?_
   rintro e w2 ⟨rfl,rfl⟩
   rw[WI.out]
   go_wp2_with fail
   refine(zfG _ _ (by omega) (by omega)).mono ?_
   rintro e w2 ⟨rfl,hb2⟩
   have B2:=zwd (Below.step BX.out.below hb2)
   clear hb2
   go_wp2_with fail
   go_ret3
   exact zeJ (by rw[EB.out]) (by rw[EM.out];rfl) (by rw[ED.out];rfl) B2.out
 · have HI:Hid (inT t=zaq t.kids):=by rw[inT,hwi];simp[Hid]
   rw[HI.out]at hir EB
   rw[hwi]at EM ED
   have WI:=zwd hwi
   clear hwi
   go_enter Tryz.func83,Tryz.ntmps83
   go_wp2_with fail
   refine(zcj t.tag _ hw).mono ?_
   rintro e w2 ⟨rfl,rfl⟩
   rw[WI.out]
   go_wp2_with fail
   go_loopw [3,4,5,22] (fun b z a i wr=>∃(k:Nat) (a' b' z':Int),k<=m/\ i= .int .i64 (k:Int)/\ a= .int .i64 a'/\ b= .int .i64 b'/\ z= .int .i64 z'/\ zdd t k a' (b'+1) z'/\ Box w wr w.heap.size t A n c K m d) (fun _ _ _ i _=>m-(intOf i).toNat)
   case atStart=>exact⟨0,_,_,_,by omega,rfl,rfl,rfl,rfl,zni t,BX.out⟩
   case round=>
    obtain⟨k,a,b,z,hk,rfl,rfl,rfl,rfl,hsr,hbox⟩:=hrel
    have SR:=zwd hsr
    have HB:=zwd hbox
    have hbd:=zvJ hsr hwt
    have hb0:0<=b:=by
     have h:=hsr.2.1
     have h2:=(zeI t k).2.1
     have h3:=zbJ (t.kids.take k)
     have h4:za7 (t.kids.drop k)<=za7 t.kids:=by
      have:∀(l:List T) (j:Nat),za7 (l.drop j)<=za7 l:=by
       intro l
       induction l with
       |nil=>intro j;simp
       |cons x r ih=>
         intro j
         cases j with
         |zero=>exact Int.le_refl _
         |succ j=>
           rw[List.drop_succ_cons]
           have h1:=ih j
           have h2:=zci x
           rw[za7]
           omega
      exact this _ _
     omega
    obtain⟨g0,g1,g2⟩:=hbox.cells
    clear hsr hbox BX
    by_cases hlt:k<m
    · obtain⟨x,bb,off,zz,A',n',c',K',m',d',hx,rfl,c0,c1,c2,hxin⟩:=HB.out.kid k hlt
      have hxm:=List.mem_of_getElem? hx
      have hwx:=zcx hxm
      have hsx:=zci x
      have ST:Hid (∀z',((z'=z/\ zaP x<=z) \/(z'=zaP x/\ z<=zaP x))->zdd t (k+1) (a+zaT x) (b+zeS x+1) z'):=by
       intro z' hz'
       have h:=zqr SR.out hx hz'
       rw[show b+1+zeS x=b+zeS x+1 by omega]at h
       exact h
      have HB1:=zwd (HB.out.go (zeO wr zz A' n' c' K' m' d'))
      have CI:=zwd (IH.out x hxm _ (boxW wr zz A' n' c' K' m' d') (T.In.below (zeO wr zz A' n' c' K' m' d') _ hxin) (by omega))
      unfold boxW at HB1 CI
      clear hx hxin hxm
      go_wp2_with fail
      refine CI.out.mono ?_
      rintro e w2 ⟨rfl,hb2⟩
      have HB2:=zwd (HB1.out.go hb2)
      clear hb2
      go_wp2_with fail
      all_goals
       go_roundw
       case rel=>exact⟨k+1,_,_,_,by omega,by go_num,rfl,rfl,rfl,ST.out _ (by omega),HB2.out⟩
       case measure=>simp[intOf];omega
    · have SE:=zwd (zt7 SR.out (by rw[HM.out];omega))
      have hle:=SE.out
      obtain⟨rfl,hbm,rfl⟩:=hle
      obtain rfl:b=za7 t.kids:=by omega
      clear SR SE hbm
      go_wp2_with fail
      refine(zfG _ _ (by omega) (by omega)).mono ?_
      rintro e w2 ⟨rfl,hb2⟩
      have B2:=zwd (Below.step HB.out.below hb2)
      clear hb2
      go_wp2_with fail
      go_ret3
      exact zeJ (by rw[EB.out]) (by have h:=EM.out;simp only[if_true]at h;omega) (by rw[ED.out];rfl) B2.out
theorem ziT (t:T):∀(v:Value) (w:World),t.In w v->Calls Tryz.prog 82 #[v] w fun e w'=>e= .returned (.bool (zar t))/\ Below w.heap.size w w':=by
 refine T.each (p:=fun t=>∀(v:Value) (w:World),t.In w v->Calls Tryz.prog 82 #[v] w fun e w'=>e= .returned (.bool (zar t))/\ Below w.heap.size w w') ?_ t
 clear t
 intro t ih v w hin
 obtain⟨A,n,c,K,m,d,rfl,hw,hr,hn,hc,hm,hm',hks⟩:=hin.open
 have BX:=zwd (Box.start hin)
 have IH:=zwd ih
 have HM:=zwd hm
 have BL:=zwd hr.1
 have ER:=zwd (zhw t)
 clear hin ih hr hc hm hks
 unfold maxLen at hn hm'
 cases htg:tagB t.tag
 · have TG:=zwd htg
   have F:Hid (zar t=false):=by rw[ER.out,htg];rfl
   clear htg
   go_enter Tryz.func82,Tryz.ntmps82
   go_wp2_with fail
   refine(zeN t.tag _ hw).mono ?_
   rintro e w2 ⟨rfl,rfl⟩
   rw[TG.out]
   go_wp2_with fail
   go_ret
   exact⟨zaj F.out.symm,BX.out.below⟩
 have TG:=zwd htg
 cases hwi:zav t.tag
 · have F:Hid (zar t=decide (m=0)):=by
    rw[ER.out,hwi,htg,HM.out]
    rcases Nat.eq_zero_or_pos m with h|h
    · have:t.kids=[]:=List.eq_nil_of_length_eq_zero (by rw[HM.out];exact h)
      rw[this,zaF,h]
      simp[Hid]
    · have h2:¬m=0:=by omega
      simp[h,h2,Hid]
   have WI:=zwd hwi
   clear htg hwi
   have t0:((m:Int)==0)=decide (m=0):=by
    by_cases h:m=0<;>simp[h]
   go_enter Tryz.func82,Tryz.ntmps82
   go_wp2_with fail
   refine(zeN t.tag _ hw).mono ?_
   rintro e w2 ⟨rfl,rfl⟩
   rw[TG.out]
   go_wp2_with fail
   refine(zcj t.tag _ hw).mono ?_
   rintro e w2 ⟨rfl,rfl⟩
   rw[WI.out]
   go_wp2_with fail
   go_ret
   exact⟨zaj F.out.symm,BX.out.below⟩
 have key:0<n \/n=0:=by omega
 rcases key with h0|h0
 · have F:Hid (zar t=false):=by rw[ER.out,hwi,BL.out];simp[h0,Hid]
   have WI:=zwd hwi
   clear htg hwi
   go_enter Tryz.func82,Tryz.ntmps82
   go_wp2_with fail
   refine(zeN t.tag _ hw).mono ?_
   rintro e w2 ⟨rfl,rfl⟩
   rw[TG.out]
   go_wp2_with fail
   refine(zcj t.tag _ hw).mono ?_
   rintro e w2 ⟨rfl,rfl⟩
   rw[WI.out]
   go_wp2_with fail
   go_ret
   exact⟨zaj F.out.symm,BX.out.below⟩
 have SA:Hid (zar t=zaF t.kids):=by rw[ER.out,hwi,htg,BL.out,h0];simp[Hid]
 have WI:=zwd hwi
 clear htg hwi
 subst h0
 go_enter Tryz.func82,Tryz.ntmps82
 go_wp2_with fail
 refine(zeN t.tag _ hw).mono ?_
 rintro e w2 ⟨rfl,rfl⟩
 rw[TG.out]
 go_wp2_with fail
 refine(zcj t.tag _ hw).mono ?_
 rintro e w2 ⟨rfl,rfl⟩
 rw[WI.out]
 go_wp2_with fail
 go_loopw [24] (fun i wr=>∃k:Nat,k<=m/\ i= .int .i64 (k:Int)/\ zar t=zaF (t.kids.drop k)/\ Box w wr w.heap.size t A 0 c K m d) (fun i _=>m-(intOf i).toNat)
 case atStart=>exact⟨0,by omega,rfl,SA.out,BX.out⟩
 case round=>
  obtain⟨k,hk,rfl,hs,hbox⟩:=hrel
  have HS:=zwd hs
  have HB:=zwd hbox
  obtain⟨g0,g1,g2⟩:=hbox.cells
  clear hs hbox BX SA
  by_cases hlt:k<m
  · obtain⟨x,bb,off,zz,A',n',c',K',m',d',hx,rfl,c0,c1,c2,hxin⟩:=HB.out.kid k hlt
    have ST:=zwd (HS.out.trans (zkT hx))
    have HB1:=zwd (HB.out.go (zeO wr zz A' n' c' K' m' d'))
    have CI:=zwd (IH.out x (List.mem_of_getElem? hx) _ (boxW wr zz A' n' c' K' m' d') (T.In.below (zeO wr zz A' n' c' K' m' d') _ hxin))
    unfold boxW at HB1 CI
    clear hx hxin HS
    cases hxr:zar x
    · have F:Hid (zar t=false):=by rw[ST.out,hxr];rfl
      rw[hxr]at CI
      clear hxr ST
      go_wp2_with fail
      refine CI.out.mono ?_
      rintro e w2 ⟨rfl,hb2⟩
      have B2:=zwd (Below.step HB1.out.below hb2)
      clear hb2
      go_wp2_with fail
      go_ret
      exact⟨zaj F.out.symm,B2.out⟩
    · have N:Hid (zar t=zaF (t.kids.drop (k+1))):=by rw[ST.out,hxr];simp[Hid]
      rw[hxr]at CI
      clear hxr ST
      go_wp2_with fail
      refine CI.out.mono ?_
      rintro e w2 ⟨rfl,hb2⟩
      have HB2:=zwd (HB1.out.go hb2)
      clear hb2
      go_wp2_with fail
      go_roundw
      case rel=>exact⟨k+1,by omega,by go_num,N.out,HB2.out⟩
      case measure=>simp[intOf];omega
  · have F:Hid (zar t=true):=by rw[HS.out,zhx (by rw[HM.out];omega)];exact zwd rfl
    clear HS
    go_wp2_with fail
    go_ret
    exact⟨zaj F.out.symm,HB.out.below⟩
end Go.Proofs.YtpgahclpbdpbnaaGreatDoor
