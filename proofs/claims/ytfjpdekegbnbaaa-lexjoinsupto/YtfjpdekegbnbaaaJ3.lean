/-
  Join of package lex.
-/
import Derived.Test.YtfjpdekegbnbaaaJ2
import Derived.Test.YtfjpdekegbnbaaaShelf2
namespace Go.Proofs.Ytfjpdekegbnbaaa
open Go.RowKit Go.Sort

/-- The bytes of the first k tokens, joined. -/
def jb (l : List Tk) : Nat → List UInt8
  | 0 => []
  | k + 1 => jb l k ++ (if k = 0 then [] else [32]) ++ ((l[k]?.map fun t => t.t.data.toList).getD [])
theorem jb_at (l : List Tk) (k : Nat) (h : k < l.length) : jb l (k + 1) = jb l k ++ (if k = 0 then [] else [32]) ++ l[k].t.data.toList := by
  show _ ++ _ ++ _ = _
  rw [List.getElem?_eq_getElem h]
  rfl
theorem jb_length (l : List Tk) (k : Nat) : (jb l k).length = jl l k := by
  induction k with
  | zero => rfl
  | succ k ih =>
    show (jb l k ++ _ ++ _).length = jl l k + _ + _
    rw [List.length_append, List.length_append, ih]
    congr 1
    · by_cases h : k = 0 <;> simp [h]
    · cases l[k]? with
      | none => rfl
      | some t => rfl
/-- All tokens are right. -/
def AllR (l : List Tk) : Prop := ∀ k (h : k < l.length), rightB l[k] = true
/-- What Join tells. -/
def JO (l : List Tk) (s : ByteArray) (e : Nat) : Prop :=
  ((∃ k, ∃ h : k < l.length, rightB l[k] = false) ∧ s = ⟨#[]⟩ ∧ e = 90) ∨ (AllR l ∧ 65536 < jl l l.length ∧ s = ⟨#[]⟩ ∧ e = 1) ∨ (AllR l ∧ jl l l.length ≤ 65536 ∧ s = ⟨(jb l l.length).toArray⟩ ∧ e = 0)
theorem jo_ex (l : List Tk) : ∃ s e, JO l s e := by
  by_cases h : ∃ k, ∃ h : k < l.length, rightB l[k] = false
  · exact ⟨_, _, .inl ⟨h, rfl, rfl⟩⟩
  · have ha : AllR l := fun k hk => by
      cases e : rightB l[k] with
      | true => rfl
      | false => exact absurd ⟨k, hk, e⟩ h
    by_cases h2 : 65536 < jl l l.length
    · exact ⟨_, _, .inr (.inl ⟨ha, h2, rfl, rfl⟩)⟩
    · exact ⟨_, _, .inr (.inr ⟨ha, by omega, rfl, rfl⟩)⟩
theorem JO.unique {l : List Tk} {s s' : ByteArray} {e e' : Nat} (h : JO l s e) (h' : JO l s' e') : s = s' ∧ e = e' := by
  rcases h with ⟨⟨k, hk, hr⟩, rfl, rfl⟩ | ⟨ha, hb, rfl, rfl⟩ | ⟨ha, hb, rfl, rfl⟩ <;> rcases h' with ⟨⟨k', hk', hr'⟩, rfl, rfl⟩ | ⟨ha', hb', rfl, rfl⟩ | ⟨ha', hb', rfl, rfl⟩
  · exact ⟨rfl, rfl⟩
  · have := ha' k hk; rw [hr] at this; exact absurd this (by decide)
  · have := ha' k hk; rw [hr] at this; exact absurd this (by decide)
  · have := ha k' hk'; rw [hr'] at this; exact absurd this (by decide)
  · exact ⟨rfl, rfl⟩
  · omega
  · have := ha k' hk'; rw [hr'] at this; exact absurd this (by decide)
  · omega
  · exact ⟨rfl, rfl⟩

/-- Within Join: the first k tokens are written. -/
structure JB (w W : World) (b : Nat) (bs : List UInt8) : Prop where
  below : Below w.heap.size w W
  bd : Lib.BuilderAtF 49 5 w.heap.size b (.pointer (some ⟨b, 0, none⟩)) (Lib.byteCells bs) W
theorem bd_below {B b : Nat} {p : Value} {bs : List Value} {W W' : World} (h : Lib.BuilderAtF 49 5 B b p bs W) (hb : Below W.heap.size W W') : Lib.BuilderAtF 49 5 B b p bs W' := by
  obtain ⟨h1, v, h2, h3, h4⟩ := h
  refine ⟨h1, v, ?_, h3.kept (grown_of hb) (by cases v.ownBlock <;> simp), h4⟩
  rw [hb.block b (Array.getElem?_eq_some_iff.1 h2).1]
  exact h2
theorem JB.on {w W W' : World} {b : Nat} {bs : List UInt8} (h : JB w W b bs) (hb : Below W.heap.size W W') : JB w W' b bs := ⟨btr h.below hb, bd_below h.bd hb⟩
theorem JB.alloc {w W : World} {b : Nat} {bs : List UInt8} (h : JB w W b bs) (o : Obj) : JB w (W.alloc o) b bs := h.on (bal (Below.refl _ _) _)
theorem low_mono {w W W' : World} (h : Below w.heap.size w W) (g : Below w.heap.size W W') : Below w.heap.size w W' := h.trans g

set_option maxHeartbeats 2000000 in
theorem join_any (l : List Tk) (v : Value) (s : ByteArray) (e : Nat) (w : World) (hv : SF w v l) (hl : l.length ≤ 9223372036854775807) (hz : ∀ k (h : k < l.length), l[k].t.size ≤ 9223372036854775807) (ho : JO l s e) :
    Calls Try.prog 13 #[v] w fun x w' => x = .returned (.tuple #[.string s, .int .i64 e]) ∧ Below w.heap.size w w' := by
  have JS := fun w1 (hb : Below w.heap.size w w1) => size_any l v w1 (hv.below hb) hl hz
  have HU : Hid (∀ s' e', JO l s' e' → s = s' ∧ e = e') := fun s' e' h => ho.unique h
  clear ho
  obtain ⟨av, cv, rfl, hc, hr⟩ := hv
  have HR : Hid (∀ k, k < l.length → ∃ b o, av = some ⟨b, o, none⟩ ∧ RT w b o l) := hr
  have HZ : Hid (∀ k (h : k < l.length), l[k].t.size ≤ 9223372036854775807) := hz
  clear hr hz
  go_enter Try.func13, Try.ntmps13
  go_upto_region 2 with (fail)
  go_loopw [13] (fun v13 wr => ∃ k : Nat, k ≤ l.length ∧ v13 = .int .i64 k ∧ Hid (Below w.heap.size w wr ∧ ∀ j (h : j < l.length), j < k → rightB l[j] = true)) (fun v13 _ => l.length - (intOf v13).toNat)
  case atStart => exact ⟨0, by omega, rfl, Below.refl _ _, fun j _ h => absurd h (Nat.not_lt_zero _)⟩
  case round =>
    obtain ⟨k, hk, rfl, hH⟩ := hrel
    by_cases hlt : k < l.length
    · obtain ⟨b, o, rfl, r0⟩ := HR.out k hlt
      have r := r0.below hH.out.1
      have d0 := r.c0 k hlt
      have d1 := r.c1 k hlt
      have d2 := r.c2 k hlt
      have hz := HZ.out k hlt
      have IT := fun w => isToken_any l[k] w (by omega)
      have HA : Hid (rightB l[k] = true → ∀ j (h : j < l.length), j < k + 1 → rightB l[j] = true) := fun hr j h hj => by
        by_cases e : j = k
        · subst e; exact hr
        · exact hH.out.2 j h (by omega)
      have HN : Hid (rightB l[k] = false → s = ⟨#[]⟩ ∧ e = 90) := fun hr => HU.out _ _ (.inl ⟨⟨k, hlt, hr⟩, rfl, rfl⟩)
      have hA := bal hH.out.1 (.cells #[.int .i64 l[k].k, .string l[k].t, .int .i64 l[k].p] 31)
      clear r r0 HU
      generalize rightB l[k] = rb at *
      generalize l[k].k = x at *
      generalize l[k].p = y at *
      generalize l[k].t = z at *
      cases rb with
      | true =>
        go_wp2_with (go_at_call 29; (with_reducible refine (IT _).mono ?_); rintro e w1 ⟨rfl, hN⟩)
        go_roundw
        case rel => exact ⟨k + 1, by omega, by go_num, btr hA hN, HA.out trivial⟩
        case measure => simp [intOf]; omega
      | false =>
        obtain ⟨rfl, rfl⟩ := HN.out rfl
        go_wp2_with (go_at_call 29; (with_reducible refine (IT _).mono ?_); rintro e w1 ⟨rfl, hN⟩)
        go_ret2
        exact ⟨rfl, btr hA hN⟩
    · obtain rfl : k = l.length := by omega
      have HA : Hid (AllR l) := fun j h => hH.out.2 j h h
      have JS1 := JS wr hH.out.1
      by_cases hbig : 65536 < jl l l.length
      · obtain ⟨rfl, rfl⟩ := HU.out _ _ (.inr (.inl ⟨HA.out, hbig, rfl, rfl⟩))
        rw [if_neg (by omega), decide_eq_false (by omega)] at JS1
        go_wp2_with (go_at_call 30; (with_reducible refine JS1.mono ?_); rintro e w1 ⟨rfl, hN⟩)
        go_ret2
        exact ⟨rfl, btr hH.out.1 hN⟩
      · obtain ⟨rfl, rfl⟩ := HU.out _ _ (.inr (.inr ⟨HA.out, by omega, rfl, rfl⟩))
        rw [if_pos (by omega), decide_eq_true (by omega)] at JS1
        clear JS HU HA
        go_upto_region 11 with (go_at_call 30; (with_reducible refine JS1.mono ?_); rintro e w1 ⟨rfl, hN⟩)
        have hK : Below w.heap.size w w1 := btr hH.out.1 hN
        have hKs := hK.size
        have hK2 := bal hK (.cells #[.pointer none, .slice none 0 0] 49)
        have GR := Try.Builder_Grow_fresh w.heap.size w1.heap.size (jl l l.length) (w1.alloc (.cells #[.pointer none, .slice none 0 0] 49)) hKs (heap_alloc_new w1 _) hK2.size (by omega)
        clear JS1 hN hH
        go_upto_region 13 with (go_at_call 31; (with_reducible refine GR.mono ?_); rintro e w2 ⟨rfl, hG, hN2⟩)
        have hJ : Hid (JB w w2 w1.heap.size (jb l 0)) := ⟨low_mono hK2 hN2, Lib.BuilderAtF.of hG⟩
        clear GR hG hN2 hK hK2
        generalize w1.heap.size = b at *
        go_loopw [32] (fun v wr => ∃ k : Nat, k ≤ l.length ∧ v = .int .i64 k ∧ Hid (JB w wr b (jb l k))) (fun v _ => l.length - (intOf v).toNat)
        case atStart => exact ⟨0, by omega, rfl, hJ⟩
        case round =>
          clear hJ
          obtain ⟨k, hk, rfl, hJ⟩ := hrel
          by_cases hlt : k < l.length
          · obtain ⟨bb, o, rfl, r0⟩ := HR.out k hlt
            have r := r0.below hJ.out.below
            have d0 := r.c0 k hlt
            have d1 := r.c1 k hlt
            have d2 := r.c2 k hlt
            have hz := HZ.out k hlt
            have hmo := jl_mono l (show k + 1 ≤ l.length by omega)
            have hmo2 := jl_mono l (show k ≤ l.length by omega)
            have hjk := jl_at l k hlt
            have EJ : Hid (jb l (k + 1) = jb l k ++ (if k = 0 then [] else [32]) ++ l[k].t.data.toList) := jb_at l k hlt
            have hlen : (Lib.byteCells (jb l k)).length = jl l k := by rw [Lib.byteCells_length, jb_length]
            have hbw : b < wr.heap.size := by
              obtain ⟨_, _, hbk, _⟩ := hJ.out.bd
              exact (Array.getElem?_eq_some_iff.1 hbk).1
            have hne : wr.heap.size ≠ b := by omega
            clear r r0
            generalize l[k].k = x at *
            generalize l[k].p = y at *
            generalize l[k].t = z at *
            have hV : Hid (JB w (wr.alloc (.cells #[.int .i64 x, .string z, .int .i64 y] 31)) b (jb l k)) := hJ.out.alloc _
            by_cases h0 : k = 0
            · have EJ2 : Hid (jb l (k + 1) = jb l k ++ z.data.toList) := by
                show _ = _
                rw [EJ.out]
                simp [h0]
              have g0 : ¬ (0 : Int) < (k : Int) := by omega
              have g0' : ¬ 0 < k := by omega
              have WS := Try.Builder_WriteString_k w.heap.size b (Lib.byteCells (jb l k)) z (wr.alloc (.cells #[.int .i64 x, .string z, .int .i64 y] 31)) (.inr hV.out.bd) (by rw [hlen]; omega) hV.out.below.size
              clear h0 EJ hjk hmo hmo2 hlen
              go_wp2_with (go_at_call 33; (with_reducible refine WS.mono ?_); rintro e w4 ⟨rfl, hA4, hB4, hO4⟩)
              go_roundw
              case rel =>
                refine ⟨k + 1, by omega, by go_num, low_mono hV.out.below hB4, ?_⟩
                rw [EJ2.out, Lib.byteCells_append, ← Lib.strCells_eq]
                exact hA4
              case measure => simp [intOf]; omega
            · have EJ2 : Hid (jb l (k + 1) = jb l k ++ [32] ++ z.data.toList) := by
                show _ = _
                rw [EJ.out]
                simp [h0]
              have g0 : (0 : Int) < (k : Int) := by omega
              have g0' : 0 < k := by omega
              rw [if_neg h0] at hjk
              have WB := Try.Builder_WriteByte_k w.heap.size b (Lib.byteCells (jb l k)) 32 (wr.alloc (.cells #[.int .i64 x, .string z, .int .i64 y] 31)) (.inr hV.out.bd) (by rw [hlen]; omega) hV.out.below.size
              have WS := fun w3 h h3 => Try.Builder_WriteString_k w.heap.size b (Lib.byteCells (jb l k) ++ [.int .u8 32]) z w3 (.inr h) (by rw [List.length_append, hlen]; show jl l k + 1 + _ ≤ _; omega) h3
              clear h0 EJ hjk hmo hmo2 hlen
              go_wp2_with (first
                | (go_at_call 32; (with_reducible refine WB.mono ?_); rintro e w3 ⟨rfl, hA3, hB3, hO3⟩; have hbx := hO3 wr.heap.size _ (heap_alloc_new wr _) (fun e => hne (Option.some.inj e)) (fun c fz e => by injection e with _ e2 _; exact absurd e2 (by decide)); have c1 : w3.cell? ⟨wr.heap.size, 1, none⟩ = some (.string z) := (by simp [World.cell?, hbx]))
                | (go_at_call 33; (with_reducible refine (WS w3 hA3 (low_mono hV.out.below hB3).size).mono ?_); rintro e w4 ⟨rfl, hA4, hB4, hO4⟩))
              go_roundw
              case rel =>
                refine ⟨k + 1, by omega, by go_num, low_mono (low_mono hV.out.below hB3) hB4, ?_⟩
                rw [EJ2.out, Lib.byteCells_append, Lib.byteCells_append, ← Lib.strCells_eq]
                exact hA4
              case measure => simp [intOf]; omega
          · obtain rfl : k = l.length := by omega
            have ST := Try.Builder_String_any_k w.heap.size b (jb l l.length) wr (.inr hJ.out.bd) hJ.out.below.size
            go_wp2_with (go_at_call 34; (with_reducible refine ST.mono ?_); rintro e w3 ⟨rfl, _, hB3, _⟩)
            go_ret2
            exact ⟨rfl, low_mono hJ.out.below hB3⟩
end Go.Proofs.Ytfjpdekegbnbaaa
