/-
  Put together of: LC5.
-/
import Derived.Test.YtdjfpghgklkejaaGreatDoorYM
import Derived.Laws.IdiomStrings
import Derived.Deep.RegionWith
namespace Go.Proofs.YtdjfpghgklkejaaGreatDoor
open Go.RowKit Go.Sort
theorem dec_small (u:Nat) (h:u<10):Lib.decDigits u=[UInt8.ofNat (48+u)]:=by
 rw [Lib.decDigits,dif_pos h]
theorem dec_big (u:Nat) (h:¬u<10):Lib.decDigits u=Lib.decDigits (u / 10)++[UInt8.ofNat (48+u % 10)]:=by
 rw [Lib.decDigits,dif_neg h]
theorem dec_len (u:Nat) (h:u≤9223372036854775807):(Lib.decDigits u).length≤21:=by
 have:=Lib.itoa_length_le (u:Int) (by omega) (by omega)
 rwa [Lib.itoa_nonneg] at this
theorem bytes_app (a b:List UInt8):(⟨a.toArray⟩:ByteArray)++⟨b.toArray⟩=⟨(a++b).toArray⟩:=by
 apply ByteArray.ext
 simp
theorem conv_one (u:World) (g:Nat) (b:UInt8) (x:Int) (hb:(b.toNat:Int)=x) (hc:u.cell? ⟨g,0,none⟩=some (.int .u8 x)):(convert 143 9 (.slice (some ⟨g,0,none⟩) 1 1)).run Tryz.prog u=.ok (.string ⟨#[b]⟩) u:=by
 have:=run_convert_bytes_back (P:=Tryz.prog) u 143 9 5 ⟨g,0,none⟩ 1 [b] Tryz.underlying143 Tryz.underlying5 Tryz.underlying9 (fun j hj=>by
  have:j=0:=by simpa using hj
  subst this
  simp only [List.getElem_cons_zero,hb]
  exact hc)
 simpa only [List.length_singleton] using this
set_option maxRecDepth 20000 in
set_option maxHeartbeats 1000000 in
theorem decimal_digit (u:Nat) (b:UInt8) (w:World) (h:u<10) (hb:(b.toNat:Int)=48+(u:Int)) :
  Calls Tryz.prog 155 #[.int .i64 u] w fun e w'=>e=.returned (.string ⟨#[b]⟩)∧Below w.heap.size w w':=by
 have wr:IntKind.u8.wrap (48+(u:Int))=48+(u:Int):=by simp [IntKind.wrap,IntKind.signed,IntKind.bits];omega
 have CV':=conv_one (w.alloc (.cells #[.int .u8 (48+(u:Int))] 5)) w.heap.size b (48+(u:Int)) hb (World.cell?_alloc_at _ _ _ _ rfl)
 clear hb
 go_enter Tryz.func155,Tryz.ntmps155
 go_wp2
 go_ret
 exact ⟨rfl,bal (Below.refl _ _) _⟩
theorem decimal_small (u:Nat) (w:World) (h:u<10) :
  Calls Tryz.prog 155 #[.int .i64 u] w fun e w'=>e=.returned (.string ⟨#[UInt8.ofNat (48+u)]⟩)∧Below w.heap.size w w':=
 decimal_digit u _ w h (by
  have:(UInt8.ofNat (48+u)).toNat=(48+u) % 256:=by simp
  omega)
set_option maxRecDepth 20000 in
set_option maxHeartbeats 2000000 in
theorem decimal_nat:∀(n u:Nat) (w:World),u≤n→u≤9223372036854775807 →
  Calls Tryz.prog 155 #[.int .i64 u] w fun e w'=>e=.returned (.string ⟨(Lib.decDigits u).toArray⟩)∧Below w.heap.size w w'
 | n,u,w,hn,hu=>by
  by_cases h:u<10
  ·rw [dec_small u h]
   exact decimal_small u w h
  ·obtain ⟨m,rfl⟩:∃m,n=m+1:=⟨n-1,by omega⟩
   have IH:=fun w=>decimal_nat m (u / 10) w (by omega) (by omega)
   rw [dec_big u h,←bytes_app]
   have e5:IntKind.i64.wrap ((u:Int) / 10)=((u / 10:Nat):Int):=by rw [show (u:Int) / 10=((u / 10:Nat):Int) by omega];simp [IntKind.wrap,IntKind.signed,IntKind.bits];omega
   have e6:(u:Int).tmod 10=((u % 10:Nat):Int):=by rw [Int.tmod_eq_emod_of_nonneg (by omega)];omega
   have hm:u % 10<10:=Nat.mod_lt _ (by decide)
   have e7:IntKind.i64.wrap (48+((u % 10:Nat):Int))=48+((u % 10:Nat):Int):=by simp [IntKind.wrap,IntKind.signed,IntKind.bits];omega
   have wr:IntKind.u8.wrap (48+((u % 10:Nat):Int))=48+((u % 10:Nat):Int):=by simp [IntKind.wrap,IntKind.signed,IntKind.bits];omega
   clear hn
   have CV:=fun (v:World) (g:Nat) (hc:v.cell? ⟨g,0,none⟩=some (.int .u8 (48+((u % 10:Nat):Int))))=>conv_one v g (UInt8.ofNat (48+u % 10)) (48+((u % 10:Nat):Int)) (by
    have:(UInt8.ofNat (48+u % 10)).toNat=(48+u % 10) % 256:=by simp
    omega) hc
   have hl:=dec_len (u / 10) (by omega)
   generalize Lib.decDigits (u / 10)=l at *
   generalize UInt8.ofNat (48+u % 10)=b at *
   generalize u % 10=m at *
   generalize u / 10=q at *
   have AL:∀ {v:World},Below (w.drew.alloc (.cells #[.int .u8 (48+(m:Int))] 5)).heap.size (w.drew.alloc (.cells #[.int .u8 (48+(m:Int))] 5)) v→v.cell? ⟨w.heap.size,0,none⟩=some (.int .u8 (48+(m:Int)))∧Below w.heap.size w v:=fun {v} h=>by
    have b0:BK (w.drew.alloc (.cells #[.int .u8 (48+(m:Int))] 5)) w.heap.size _ _:=bk_new w.drew _ _
    have b1:BK v w.heap.size _ _:=(h.block _ b0.lt).trans b0
    exact ⟨b1.cell 0,btr (bal (below_drew (Below.refl _ _)) _) h⟩
   go_enter Tryz.func155,Tryz.ntmps155
   go_upto_region 3 with (fail)
   go_region_with (go_at_call 155;(with_reducible refine (IH _).mono ?_);rintro e w1 ⟨rfl,hB⟩;try (have k1:=(AL hB).1))
   all_goals go_wp2
   all_goals go_ret
   all_goals first | exact ⟨rfl,(AL hB).2⟩ | exact ⟨rfl,bal (btr (below_drew (Below.refl _ _)) hB) _⟩
theorem decimal_any (n:Int) (w:World) (h0:0≤n) (h1:n≤9223372036854775807) :
  Calls Tryz.prog 155 #[.int .i64 n] w fun e w'=>e=.returned (.string (numT n))∧Below w.heap.size w w':=by
 obtain ⟨u,rfl⟩:∃u:Nat,n=(u:Int):=⟨n.toNat,by omega⟩
 have:=decimal_nat u u w (Nat.le_refl _) (by omega)
 show Calls _ _ _ _ fun e w'=>e=.returned (.string ⟨(Lib.itoa (u:Int)).toArray⟩)∧_
 rw [Lib.itoa_nonneg]
 exact this
def shwB (a:Ar):List UInt8:=[32]++a.n.data.toList++(if a.x<0 then [] else [91]++Lib.itoa a.x++[93])
theorem ba_eta (s:ByteArray):s=⟨s.data.toList.toArray⟩:=by cases s;simp
theorem num_len (n:Int) (h0: -9223372036854775808≤n) (h1:n≤9223372036854775807):(numT n).size≤21:=by
 have:=Lib.itoa_length_le n h0 h1
 show (Lib.itoa n).toArray.size≤_
 rw [List.size_toArray]
 omega
set_option maxRecDepth 20000 in
set_option maxHeartbeats 2000000 in
theorem shown_any (an:ByteArray) (ax:Int) (w:World) (h:an.size≤1099511627776) (h1:ax≤9007199254740991) :
  Calls Tryz.prog 156 #[.agg #[.string an,.int .i64 ax]] w fun e w'=>e=.returned (.string ⟨(shwB ⟨an,ax⟩).toArray⟩)∧Below w.heap.size w w':=by
 by_cases hx:ax<0
 ·have E:Hid ((⟨(shwB ⟨an,ax⟩).toArray⟩:ByteArray)=⟨#[32]⟩++an):=by
   show _=_
   unfold shwB
   rw [if_pos hx,List.append_nil,←bytes_app,←ba_eta an]
  rw [E.out]
  have h63:¬9223372036854775807<(⟨#[32]⟩:ByteArray).size+an.size:=by show ¬9223372036854775807<1+an.size;omega
  have h64:¬9223372036854775807<1+an.size:=by omega
  go_enter Tryz.func156,Tryz.ntmps156
  go_wp2
  go_ret
  exact ⟨rfl,bal (Below.refl _ _) _⟩
 ·have DC:=fun w=>decimal_any ax w (by omega) (by omega)
  have hn:=num_len ax (by omega) (by omega)
  have E:Hid ((⟨(shwB ⟨an,ax⟩).toArray⟩:ByteArray)=⟨#[32]⟩++an++⟨#[91]⟩++numT ax++⟨#[93]⟩):=by
   show _=_
   unfold shwB
   rw [if_neg hx]
   apply ByteArray.ext
   simp
  rw [E.out]
  generalize numT ax=nt at *
  have k1:¬9223372036854775807<(⟨#[32]⟩:ByteArray).size+an.size:=by show ¬9223372036854775807<1+an.size;omega
  have k2:¬9223372036854775807<(⟨#[32]⟩++an:ByteArray).size+(⟨#[91]⟩:ByteArray).size:=by rw [ByteArray.size_append];show ¬9223372036854775807<1+an.size+1;omega
  have k3:¬9223372036854775807<(⟨#[32]⟩++an++⟨#[91]⟩:ByteArray).size+nt.size:=by rw [ByteArray.size_append,ByteArray.size_append];show ¬9223372036854775807<1+an.size+1+nt.size;omega
  have k4:¬9223372036854775807<(⟨#[32]⟩++an++⟨#[91]⟩++nt:ByteArray).size+(⟨#[93]⟩:ByteArray).size:=by rw [ByteArray.size_append,ByteArray.size_append,ByteArray.size_append];show ¬9223372036854775807<1+an.size+1+nt.size+1;omega
  have bx:=bk_new w #[.string an,.int .i64 ax] 100
  have HB:Hid (Below w.heap.size w (w.alloc (.cells #[.string an,.int .i64 ax] 100))):=bal (Below.refl _ _) _
  have c0:(w.alloc (.cells #[.string an,.int .i64 ax] 100)).cell? ⟨w.heap.size,0,none⟩=some (.string an):=bx.cell 0
  have c1:(w.alloc (.cells #[.string an,.int .i64 ax] 100)).cell? ⟨w.heap.size,1,none⟩=some (.int .i64 ax):=bx.cell 1
  have cl:=bx.lt
  obtain ⟨V,hV⟩:∃V,V=w.alloc (.cells #[.string an,.int .i64 ax] 100):=⟨_,rfl⟩
  have HV:Hid (V=w.alloc (.cells #[.string an,.int .i64 ax] 100)):=hV
  rw [←hV] at c0 c1 cl HB bx
  have BX:∀ {v:World},Below V.heap.size V v→v.cell? ⟨w.heap.size,0,none⟩=some (.string an)∧w.heap.size<v.heap.size:=fun {v} h=>by
   have b1:BK v w.heap.size _ _:=(h.block _ bx.lt).trans bx
   exact ⟨b1.cell 0,b1.lt⟩
  clear hV bx
  go_enter Tryz.func156,Tryz.ntmps156
  go_upto_region 3 with (fail)
  rw [←HV.out]
  clear HV
  go_region_with (go_at_call 155;(with_reducible refine (DC _).mono ?_);rintro e w1 ⟨rfl,hB⟩;have j0:=(BX (btr (below_drew (Below.refl _ _)) hB)).1;have j1:=(BX (btr (below_drew (Below.refl _ _)) hB)).2)
  all_goals go_wp2
  all_goals go_ret
  all_goals exact ⟨rfl,btr HB.out (btr (below_drew (Below.refl _ _)) hB)⟩
end Go.Proofs.YtdjfpghgklkejaaGreatDoor
