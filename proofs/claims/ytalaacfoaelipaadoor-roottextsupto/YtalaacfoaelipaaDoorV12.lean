/-
  The reference's Parse reads a root's text.
-/
import Derived.Test.YtalaacfoaelipaaDoorV11
namespace Go.Proofs.YtalaacfoaelipaaDoor
open Go.RowKit Go.Sort

abbrev Bt (l : List UInt8) : ByteArray := ⟨l.toArray⟩
theorem bt_size (l : List UInt8) : (Bt l).size = l.length := rfl
theorem bt_at (l : List UInt8) (i : Nat) (h : i < (Bt l).size) : (Bt l)[i].toNat = (l[i]'h).toNat := rfl
theorem bt_ext (x y : List UInt8) : (Bt (x ++ y)).extract x.length (Bt (x ++ y)).size = Bt y := by
  apply ByteArray.ext
  apply Array.ext'
  rw [ByteArray.data_extract, Array.toList_extract, List.extract_eq_take_drop, bt_size]
  show List.take _ (List.drop x.length (x ++ y)) = y
  rw [List.drop_left, List.length_append, Nat.add_sub_cancel_left, List.take_length]
theorem bt_ext0 (x y : List UInt8) : (Bt (x ++ y)).extract 0 x.length = Bt x := by
  apply ByteArray.ext
  apply Array.ext'
  rw [ByteArray.data_extract, Array.toList_extract, List.extract_eq_take_drop]
  show List.take _ (List.drop 0 (x ++ y)) = x
  rw [List.drop_zero, Nat.sub_zero, List.take_left]
theorem fr_app (x y : List UInt8) {n : Int} (hn : n = x.length) : Fr (Bt (x ++ y)) n (Bt y) := fun w => by
  subst hn
  rw [run_slice_string_from_if w 9 _ .i64 _ Tryd.underlying9, if_pos ⟨by omega, by rw [bt_size, List.length_append]; omega⟩, Int.toNat_natCast, bt_ext]
theorem up_app (x y : List UInt8) {n : Int} (hn : n = x.length) : Up (Bt (x ++ y)) n (Bt x) := fun w => by
  subst hn
  rw [run_slice_string_to_if w 9 _ .i64 _ Tryd.underlying9, if_pos ⟨by omega, by rw [bt_size, List.length_append]; omega⟩, Int.toNat_natCast, bt_ext0]
/-- What stands behind the body. -/
def tailL (k : Int) : List UInt8 := if k = 0 then [] else [47, 50, 94] ++ Lib.itoa k
theorem text_tail (p q k : Int) : textL p q k = bodyL p q ++ tailL k := by
  unfold textL tailL
  by_cases h : k = 0
  · rw [if_pos h, if_pos h, List.append_nil]
  · rw [if_neg h, if_neg h]
theorem tail_head (k : Int) : ∀ b, (tailL k).head? = some b → ¬ (48 ≤ b.toNat ∧ b.toNat ≤ 57) := fun b hb => by
  unfold tailL at hb
  by_cases h : k = 0
  · rw [if_pos h] at hb; cases hb
  · rw [if_neg h] at hb
    injection hb with hb
    subst hb
    decide
theorem head_any (b : UInt8) (r : List UInt8) (hb : ¬ (48 ≤ b.toNat ∧ b.toNat ≤ 57)) : ∀ c, (b :: r).head? = some c → ¬ (48 ≤ c.toNat ∧ c.toNat ≤ 57) := fun c hc => by
  injection hc with hc
  subst hc
  exact hb
theorem itoa_pos (p : Int) : 0 < (Lib.itoa p).length := by
  have := itoa_ne p
  cases e : Lib.itoa p with
  | nil => rw [e] at this; cases this
  | cons x r => simp
theorem itoa_len (p : Int) (hp : -9007199254740991 ≤ p ∧ p ≤ 9007199254740991) : (Lib.itoa p).length ≤ 21 := Lib.itoa_length_le p (by omega) (by omega)
theorem nl_of {s : ByteArray} {v : Int} {n m : Nat} (g : NumR s v n m) (hs : s.size ≤ 9223372036854775807) : Nl s v n := fun w => numeral_is g hs w
theorem num_none : NumR ⟨#[]⟩ 0 0 0 := NumR.mk0 (by decide) (.inl (by decide))
theorem num_slash (r : List UInt8) : NumR (Bt (47 :: r)) 0 0 0 := by
  have h : byt (Bt (47 :: r)) 0 = 47 := by rw [byt_list]; rfl
  exact NumR.mk0 (by unfold sgf; rw [h]; decide) (.inr (.inl (by rw [h]; decide)))
theorem tail_1 {k : Int} (h : k ≠ 0) : tailL k = [47, 50, 94] ++ Lib.itoa k := if_neg h
theorem tail_0 {k : Int} (h : k = 0) : tailL k = [] := if_pos h
theorem tail_len (k : Int) (hk : 0 ≤ k ∧ k ≤ 60) : (tailL k).length ≤ 24 := by
  have := itoa_len k (by omega)
  unfold tailL
  split
  · simp
  · rw [List.length_append]; show 3 + _ ≤ _; omega

theorem rparse_yes (p q k : Int) (w : World) (h : isRoot p q k) :
    Calls Tryd.prog 28 #[.string ⟨(textL p q k).toArray⟩] w fun e w' => e = .returned (.tuple #[rv p q k, .int .i64 0]) ∧ Below w.heap.size w w' := by
  have T := fun w => rtext_yes p q k w h
  obtain ⟨hp, hq, hk, _⟩ := h
  have lp := itoa_len p hp
  have lq := itoa_len q hq
  have lk := itoa_len k (by omega)
  have lt := tail_len k hk
  have pp := itoa_pos p
  have pq := itoa_pos q
  have pk := itoa_pos k
  -- the power, behind x
  have K3 : k ≠ 0 → Up (Bt (tailL k)) 3 ⟨#[47, 50, 94]⟩ ∧ Fr (Bt (tailL k)) 3 (Bt (Lib.itoa k)) ∧ Nl (Bt (Lib.itoa k)) k (Lib.itoa k).length ∧ Fr (Bt (tailL k)) (3 + ((Lib.itoa k).length : Int)) ⟨#[]⟩ ∧ 3 < (Bt (tailL k)).size := fun hk0 => by
    rw [tail_1 hk0]
    refine ⟨up_app [47, 50, 94] _ rfl, fr_app [47, 50, 94] _ rfl, ?_, ?_, ?_⟩
    · have := num_itoa k [] (by omega) (fun b hb => by cases hb)
      rw [List.append_nil] at this
      exact nl_of this (by rw [bt_size]; omega)
    · have := fr_app ([47, 50, 94] ++ Lib.itoa k) [] (n := 3 + ((Lib.itoa k).length : Int)) (by rw [List.length_append]; simp)
      rw [List.append_nil] at this
      exact this
    · rw [bt_size, List.length_append]; show 3 < 3 + _; omega
  rw [text_tail] at T ⊢
  by_cases hq0 : q = 0
  · subst hq0
    have eb : bodyL p 0 = Lib.itoa p := if_pos rfl
    rw [eb] at T ⊢
    have N1 := nl_of (num_itoa p (tailL k) hp (tail_head k)) (by rw [size_list, List.length_append]; omega)
    have E1 := fr_app (Lib.itoa p) (tailL k) (n := ((Lib.itoa p).length : Nat)) rfl
    by_cases hk0 : k = 0
    · subst hk0
      rw [tail_0 rfl] at E1 N1 T ⊢
      exact rp_p0 p _ _ _ w pp N1 E1 rfl (nl_of num_none (by decide)) T
    · obtain ⟨U3, E3, N3, E4, z3⟩ := K3 hk0
      have N2 : Nl (Bt (tailL k)) 0 0 := by rw [tail_1 hk0]; exact nl_of (num_slash _) (by rw [bt_size]; simp; omega)
      have r1 : ((Bt (tailL k))[0]'(by omega)).toNat = 47 := by
        have := byt_at (Bt (tailL k)) 0 (by omega)
        rw [this, byt_list, tail_1 hk0]; rfl
      exact rp_p1 p k _ _ _ w pp N1 E1 z3 (by rw [r1]; decide) N2 _ _ U3 E3 N3 pk (by omega) hk.2 E4 T
  by_cases hp0 : p = 0
  · subst hp0
    have eb : bodyL 0 q = Lib.itoa q ++ [114] := by unfold bodyL; rw [if_neg hq0, if_pos rfl]
    rw [eb, List.append_assoc] at T ⊢
    have N1 := nl_of (num_itoa q ([114] ++ tailL k) hq (head_any 114 _ (by decide))) (by rw [size_list, List.length_append, List.length_append]; simp; omega)
    have E1 := fr_app (Lib.itoa q) ([114] ++ tailL k) (n := ((Lib.itoa q).length : Nat)) rfl
    have E2 := fr_app [114] (tailL k) (n := 1) rfl
    have z1 : 0 < (Bt ([114] ++ tailL k)).size := by rw [bt_size]; simp
    by_cases hk0 : k = 0
    · subst hk0
      rw [tail_0 rfl] at E1 E2 N1 T z1 ⊢
      exact rp_q0 q _ _ _ w pq N1 E1 _ z1 rfl E2 rfl T
    · obtain ⟨U3, E3, N3, E4, z3⟩ := K3 hk0
      exact rp_q1 q k _ _ _ w pq N1 E1 _ z1 rfl E2 _ _ z3 U3 E3 N3 pk (by omega) hk.2 E4 T
  · obtain ⟨X, hX, hXl, hX0, hXn⟩ : ∃ X : List UInt8, bodyL p q = Lib.itoa p ++ (X ++ [114]) ∧ X.length ≤ 22 ∧ (∃ b r, X = b :: r ∧ (b = 43 ∨ b = 45)) ∧ ∀ r, (∀ b, r.head? = some b → ¬ (48 ≤ b.toNat ∧ b.toNat ≤ 57)) → NumR (Bt (X ++ r)) q X.length X.length := by
      by_cases hqp : 0 < q
      · refine ⟨43 :: Lib.itoa q, ?_, ?_, ⟨43, _, rfl, .inl rfl⟩, fun r hr => ?_⟩
        · unfold bodyL; rw [if_neg hq0, if_neg hp0, if_pos hqp]; simp
        · rw [List.length_cons]; omega
        · have := num_plus q r (by omega) hr
          rw [List.length_cons, Nat.add_comm]
          exact this
      · refine ⟨Lib.itoa q, ?_, ?_, ?_, fun r hr => num_itoa q r hq hr⟩
        · unfold bodyL; rw [if_neg hq0, if_neg hp0, if_neg hqp]
        · omega
        · refine ⟨45, Lib.decDigits q.natAbs, ?_, .inr rfl⟩
          unfold Lib.itoa
          rw [if_pos (by omega)]
    obtain ⟨b0, r0, eX, hb0⟩ := hX0
    have lX : 0 < X.length := by rw [eX]; simp
    rw [hX, List.append_assoc, List.append_assoc] at T ⊢
    have hb0' : ¬ (48 ≤ b0.toNat ∧ b0.toNat ≤ 57) := by rcases hb0 with rfl | rfl <;> decide
    have N1 := nl_of (num_itoa p (X ++ ([114] ++ tailL k)) hp (by rw [eX]; exact head_any b0 _ hb0')) (by rw [size_list, List.length_append, List.length_append, List.length_append]; simp; omega)
    have E1 := fr_app (Lib.itoa p) (X ++ ([114] ++ tailL k)) (n := ((Lib.itoa p).length : Nat)) rfl
    have N2 := nl_of (hXn ([114] ++ tailL k) (head_any 114 _ (by decide))) (by rw [bt_size, List.length_append, List.length_append]; simp; omega)
    have z1 : X.length < (Bt (X ++ ([114] ++ tailL k))).size := by rw [bt_size, List.length_append]; simp
    have E2 : Fr (Bt (X ++ ([114] ++ tailL k))) ((X.length : Int) + 1) (Bt (tailL k)) := by
      have := fr_app (X ++ [114]) (tailL k) (n := (X.length : Int) + 1) (by rw [List.length_append]; simp)
      rw [List.append_assoc] at this
      exact this
    have r1 : (((Bt (X ++ ([114] ++ tailL k)))[0]'(by omega)).toNat : Int) ≠ 114 := by
      have := byt_at (Bt (X ++ ([114] ++ tailL k))) 0 (by omega)
      rw [this, byt_list, eX]
      rcases hb0 with rfl | rfl
      · show ((43 : Nat) : Int) ≠ 114; decide
      · show ((45 : Nat) : Int) ≠ 114; decide
    have r2 : ((Bt (X ++ ([114] ++ tailL k)))[X.length]'z1).toNat = 114 := by
      have := byt_at (Bt (X ++ ([114] ++ tailL k))) X.length z1
      rw [this, byt_list, List.getElem?_append_right (Nat.le_refl _), Nat.sub_self]
      rfl
    have hzz : (Bt (X ++ ([114] ++ tailL k))).size ≤ 4294967280 := by rw [bt_size, List.length_append, List.length_append]; simp; omega
    by_cases hk0 : k = 0
    · subst hk0
      rw [tail_0 rfl] at E2
      exact rp_b0 p q _ _ _ w pp N1 E1 _ _ z1 lX r1 r2 N2 E2 hzz rfl T
    · obtain ⟨U3, E3, N3, E4, z3⟩ := K3 hk0
      exact rp_b1 p q k _ _ _ w pp N1 E1 _ _ z1 lX r1 r2 N2 E2 hzz _ _ z3 U3 E3 N3 pk (by omega) hk.2 E4 T
end Go.Proofs.YtalaacfoaelipaaDoor
