/-
  What read makes of a root's text: plain mathematics.
-/
import Derived.Test.YtalaacfoaelipaaDoorX4
namespace Go.Proofs.YtalaacfoaelipaaDoor
open Go.RowKit Go.Sort

theorem fold_ge : ∀ (l : List UInt8) (a : Nat), a ≤ l.foldl (fun a b => a * 10 + (b.toNat - 48)) a
  | [], a => Nat.le_refl _
  | b :: l, a => Nat.le_trans (by omega) (fold_ge l (a * 10 + (b.toNat - 48)))
theorem uint_ds : ∀ (l : List UInt8) (a : Nat), Ds l → l.foldl (fun a b => a * 10 + (b.toNat - 48)) a ≤ 9007199254740991 → Lib.parseUintM (2 ^ 64 - 1) a l = .ok (l.foldl (fun a b => a * 10 + (b.toNat - 48)) a)
  | [], a, _, _ => rfl
  | b :: l, a, hd, hl => by
    have h1 := hd b (List.mem_cons_self)
    have h2 := fold_ge l (a * 10 + (b.toNat - 48))
    rw [List.foldl_cons] at hl ⊢
    unfold Lib.parseUintM
    rw [if_pos h1, if_neg (by omega), if_neg (by omega)]
    exact uint_ds l _ (fun c hc => hd c (List.mem_cons_of_mem _ hc)) hl
theorem uint_dec (u : Nat) (h : u ≤ 9007199254740991) : Lib.parseUintB 64 (Lib.decDigits u) = .ok u := by
  obtain ⟨h1, h2, _⟩ := dec_all u u (Nat.le_refl _)
  unfold Lib.parseUintB
  rw [if_neg (dec_ne u)]
  have := uint_ds (Lib.decDigits u) 0 h1 (by show vl _ ≤ _; rw [h2]; exact h)
  rw [this]
  show Lib.NumEnd.ok (vl _) = _
  rw [h2]
theorem int_dec (u : Nat) (h : u ≤ 9007199254740991) : Lib.parseIntB 64 (Lib.decDigits u) = .ok (u : Int) := by
  obtain ⟨h1, h2, _⟩ := dec_all u u (Nat.le_refl _)
  have hu := uint_dec u h
  cases e : Lib.decDigits u with
  | nil => exact absurd e (dec_ne u)
  | cons c r =>
    rw [e] at hu h1
    have hc := h1 c List.mem_cons_self
    rw [Lib.parseIntB_plain 64 c r (by omega) (by omega), hu]
    show (if 2 ^ 63 ≤ u then Lib.NumEnd.range else .ok (u : Int)) = _
    rw [if_neg (by omega)]
theorem int_plus (u : Nat) (h : u ≤ 9007199254740991) : Lib.parseIntB 64 (43 :: Lib.decDigits u) = .ok (u : Int) := by
  rw [Lib.parseIntB_plus, uint_dec u h]
  show (if 2 ^ 63 ≤ u then Lib.NumEnd.range else .ok (u : Int)) = _
  rw [if_neg (by omega)]
theorem int_minus (u : Nat) (h : u ≤ 9007199254740991) : Lib.parseIntB 64 (45 :: Lib.decDigits u) = .ok (-(u : Int)) := by
  rw [Lib.parseIntB_minus, uint_dec u h]
  show (if 2 ^ 63 < u then Lib.NumEnd.range else .ok (-(u : Int))) = _
  rw [if_neg (by omega)]
/-- A decimal: digits, behind a sign where it is below nought. -/
theorem itoa_cases (n : Int) (h : -9007199254740991 ≤ n ∧ n ≤ 9007199254740991) : ∃ u : Nat, u ≤ 9007199254740991 ∧ ((n = u ∧ Lib.itoa n = Lib.decDigits u) ∨ (n = -(u : Int) ∧ 1 ≤ u ∧ Lib.itoa n = 45 :: Lib.decDigits u)) := by
  by_cases h0 : 0 ≤ n
  · exact ⟨n.toNat, by omega, .inl ⟨by omega, by rw [← Lib.itoa_nonneg]; congr 1; omega⟩⟩
  · exact ⟨n.natAbs, by omega, .inr ⟨by omega, by omega, by rw [← Lib.itoa_neg _ (by omega)]; congr 1; omega⟩⟩
theorem int_itoa (n : Int) (h : -9007199254740991 ≤ n ∧ n ≤ 9007199254740991) : Lib.parseIntB 64 (Lib.itoa n) = .ok n := by
  obtain ⟨u, hu, ⟨e1, e2⟩ | ⟨e1, _, e2⟩⟩ := itoa_cases n h
  · rw [e2, int_dec u hu, e1]
  · rw [e2, int_minus u hu, e1]
theorem ds_dec (u : Nat) : Ds (Lib.decDigits u) := (dec_all u u (Nat.le_refl _)).1
/-- Bytes of a body. -/
def Nb (l : List UInt8) : Prop := ∀ b ∈ l, b.toNat < 128 ∧ b.toNat ≠ 47
theorem nb_ds {l : List UInt8} (h : Ds l) : Nb l := fun b hb => by have := h b hb; omega
theorem nb_app {l r : List UInt8} (h : Nb l) (g : Nb r) : Nb (l ++ r) := fun b hb => by
  rcases List.mem_append.1 hb with h1 | h1
  · exact h b h1
  · exact g b h1
theorem nb_cons {c : UInt8} {r : List UInt8} (h : c.toNat < 128 ∧ c.toNat ≠ 47) (g : Nb r) : Nb (c :: r) := fun b hb => by
  rcases List.mem_cons.1 hb with rfl | h1
  · exact h
  · exact g b h1
theorem nb_nil : Nb [] := fun b hb => by cases hb
theorem nb_itoa (n : Int) (h : -9007199254740991 ≤ n ∧ n ≤ 9007199254740991) : Nb (Lib.itoa n) := by
  obtain ⟨u, hu, ⟨e1, e2⟩ | ⟨e1, _, e2⟩⟩ := itoa_cases n h
  · rw [e2]; exact nb_ds (ds_dec u)
  · rw [e2]; exact nb_cons (by decide) (nb_ds (ds_dec u))
theorem ds_sgn {l : List UInt8} (h : Ds l) : ∀ y ∈ l, ¬ sgn2 y.toNat := fun y hy g => by
  have := h y hy
  unfold sgn2 at g
  omega
theorem ds_suf {l : List UInt8} (h : Ds l) (hn : l ≠ []) (x : List UInt8) : Lib.hasSuffix (x ++ l) [114] = false := by
  cases e : Lib.hasSuffix (x ++ l) [114] with
  | false => rfl
  | true =>
    obtain ⟨y, hy⟩ := suf_r _ e
    obtain ⟨r, b, rfl⟩ : ∃ r b, l = r ++ [b] := ⟨l.dropLast, l.getLast hn, (List.dropLast_concat_getLast hn).symm⟩
    rw [← List.append_assoc] at hy
    have h1 := (List.append_inj' hy rfl).2
    injection h1 with h1
    subst h1
    exact absurd (h 114 (by simp)) (by decide)
/-- What read makes of a body. -/
theorem split_body (p q : Int) (hp : -9007199254740991 ≤ p ∧ p ≤ 9007199254740991) (hq : -9007199254740991 ≤ q ∧ q ≤ 9007199254740991) {a b : ByteArray} (h : SP (bodyL p q) a b) :
    (Lib.parseIntB 64 a.data.toList = .ok p ∨ (p = 0 ∧ Lib.parseIntB 64 a.data.toList = Lib.parseIntB 64 [])) ∧ (Lib.parseIntB 64 b.data.toList = .ok q ∨ (q = 0 ∧ Lib.parseIntB 64 b.data.toList = Lib.parseIntB 64 [])) := by
  unfold bodyL at h
  obtain ⟨u, hu, hq2⟩ := itoa_cases q hq
  by_cases hq0 : q = 0
  · rw [if_pos hq0] at h
    obtain ⟨v, hv, ⟨e1, e2⟩ | ⟨e1, _, e2⟩⟩ := itoa_cases p hp
    · have hs := ds_suf (ds_dec v) (dec_ne v) []
      rw [List.nil_append, ← e2] at hs
      obtain ⟨rfl, rfl⟩ := h.no hs
      exact ⟨.inl (int_itoa p hp), .inr ⟨hq0, rfl⟩⟩
    · have hs := ds_suf (ds_dec v) (dec_ne v) [45]
      rw [List.singleton_append, ← e2] at hs
      obtain ⟨rfl, rfl⟩ := h.no hs
      exact ⟨.inl (int_itoa p hp), .inr ⟨hq0, rfl⟩⟩
  rw [if_neg hq0] at h
  by_cases hp0 : p = 0
  · rw [if_pos hp0] at h
    have key : ∃ c r, Lib.itoa q = c :: r ∧ ∀ y ∈ r, ¬ sgn2 y.toNat := by
      rcases hq2 with ⟨e1, e2⟩ | ⟨e1, _, e2⟩
      · cases e : Lib.decDigits u with
        | nil => exact absurd e (dec_ne u)
        | cons c r => exact ⟨c, r, by rw [e2, e], fun y hy => ds_sgn (ds_dec u) y (by rw [e]; exact List.mem_cons_of_mem _ hy)⟩
      · exact ⟨45, _, e2, ds_sgn (ds_dec u)⟩
    obtain ⟨c, r, e3, e4⟩ := key
    have hb := nb_itoa q hq
    obtain ⟨rfl, rfl⟩ := h.at0 [] r c (by rw [e3, List.nil_append]) (fun y hy => (hb y (by rw [e3]; exact hy)).1) e4 (.inl rfl)
    rw [← e3]
    exact ⟨.inr ⟨hp0, rfl⟩, .inl (int_itoa q hq)⟩
  rw [if_neg hp0] at h
  have hpb := nb_itoa p hp
  rcases hq2 with ⟨e1, e2⟩ | ⟨e1, e3, e2⟩
  · rw [if_pos (by omega)] at h
    obtain ⟨rfl, rfl⟩ := h.at0 (Lib.itoa p) (Lib.decDigits u) 43 (by rw [e2]; simp) (fun y hy => (nb_app hpb (nb_cons (by decide) (nb_ds (ds_dec u))) y hy).1) (ds_sgn (ds_dec u)) (.inr (.inl rfl))
    exact ⟨.inl (int_itoa p hp), .inl (by rw [e1]; exact int_plus u hu)⟩
  · rw [if_neg (by omega)] at h
    obtain ⟨rfl, rfl⟩ := h.at0 (Lib.itoa p) (Lib.decDigits u) 45 (by rw [e2]; simp) (fun y hy => (nb_app hpb (nb_cons (by decide) (nb_ds (ds_dec u))) y hy).1) (ds_sgn (ds_dec u)) (.inr (.inr rfl))
    exact ⟨.inl (int_itoa p hp), .inl (by rw [e1]; exact int_minus u hu)⟩
theorem nb_body (p q : Int) (hp : -9007199254740991 ≤ p ∧ p ≤ 9007199254740991) (hq : -9007199254740991 ≤ q ∧ q ≤ 9007199254740991) : Nb (bodyL p q) := by
  have h1 := nb_itoa p hp
  have h2 := nb_itoa q hq
  have h3 : Nb [114] := nb_cons (by decide) nb_nil
  have h4 : Nb [43] := nb_cons (by decide) nb_nil
  unfold bodyL
  split
  · exact h1
  · split
    · exact nb_app h2 h3
    · split
      · exact nb_app (nb_app h1 h4) (nb_app h2 h3)
      · exact nb_app h1 (nb_app h2 h3)
theorem occ_no (l r : List UInt8) (h : Nb l) (j : Nat) (hj : j < l.length) : Lib.occAt (l ++ r) [47, 50, 94] j = false := by
  unfold Lib.occAt
  rw [List.drop_append_of_le_length (by omega), List.drop_eq_getElem_cons hj]
  have hb := (h l[j] (List.getElem_mem hj)).2
  have : ((47 : UInt8) == l[j]) = false := by
    rw [beq_eq_false_iff_ne]
    intro g
    rw [← g] at hb
    exact hb rfl
  show ((47 : UInt8) == l[j] && _) = false
  rw [this]; rfl
theorem cut_body (l : List UInt8) (h : Nb l) (k : Int) : (Lib.cut (l ++ tailL k) [47, 50, 94]).1 = l ∧ (Lib.cut (l ++ tailL k) [47, 50, 94]).2.1 = (if k = 0 then [] else Lib.itoa k) := by
  by_cases hk : k = 0
  · rw [tail_0 hk, if_pos hk, List.append_nil]
    have e : Lib.index l [47, 50, 94] = -1 := Lib.index_none fun j hj => by
      by_cases h2 : j < l.length
      · have := occ_no l [] h j h2
        rw [List.append_nil] at this
        exact this
      · unfold Lib.occAt
        rw [List.drop_eq_nil_of_le (by omega)]
        rfl
    unfold Lib.cut
    rw [e, if_neg (by decide)]
    exact ⟨rfl, rfl⟩
  · rw [tail_1 hk, if_neg hk]
    have e : Lib.index (l ++ ([47, 50, 94] ++ Lib.itoa k)) [47, 50, 94] = l.length := Lib.index_first (by rw [List.length_append]; omega) (by
      unfold Lib.occAt
      rw [List.drop_left]
      exact List.isPrefixOf_iff_prefix.2 ⟨_, rfl⟩) fun j hj => occ_no l _ h j hj
    unfold Lib.cut
    rw [e, if_pos (by omega)]
    refine ⟨by simp, ?_⟩
    show List.drop (((l.length : Int)).toNat + 3) _ = _
    rw [Int.toNat_natCast, List.drop_append, List.drop_eq_nil_of_le (by omega)]
    show [] ++ List.drop (l.length + 3 - l.length) _ = _
    rw [Nat.add_sub_cancel_left]
    rfl
end Go.Proofs.YtalaacfoaelipaaDoor
