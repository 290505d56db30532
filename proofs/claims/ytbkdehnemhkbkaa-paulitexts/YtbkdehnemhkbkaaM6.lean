/-
  Plain mathematics: a string's text is read as the string, and what was read is told again. Of no program.
-/
import Derived.Test.YtbkdehnemhkbkaaQ3
namespace Go.Proofs.Ytbkdehnemhkbkaa
open Go.RowKit Go.Sort

theorem hidIt {p : Prop} (h : p) : Hid p := h
theorem let_key : ∀ a b : Fin 2, isLet (letK (atK a b)).toNat ∧ xd (letK (atK a b)).toNat = a.val ∧ zd (letK (atK a b)).toNat = b.val := by
  unfold isLet
  decide
theorem let_at {a b : Nat} (ha : a ≤ 1) (hb : b ≤ 1) : isLet (letK (atK a b)).toNat ∧ xd (letK (atK a b)).toNat = a ∧ zd (letK (atK a b)).toNat = b := let_key ⟨a, by omega⟩ ⟨b, by omega⟩
theorem let_back {c : UInt8} (h : isLet c.toNat) : letK (atK (xd c.toNat) (zd c.toNat)) = c := by
  rcases h with h | h | h | h
  all_goals
    rw [h]
    exact u8_eq.2 h.symm
theorem gl_lts (x z n : Nat) : ∀ m i, i < m → gl (lts x z n m) i = (letK (atK (bt x (n - 1 - i)) (bt z (n - 1 - i)))).toNat := by
  intro m
  induction m with
  | zero => intro i h; omega
  | succ m ih =>
    intro i hi
    unfold gl
    rw [List.getD_eq_getElem?_getD]
    simp only [lts]
    by_cases e : i < m
    · rw [List.getElem?_append_left (by rw [lts_len]; exact e)]
      have := ih i e
      unfold gl at this
      rwa [List.getD_eq_getElem?_getD] at this
    · obtain rfl : i = m := by omega
      rw [List.getElem?_append_right (by rw [lts_len]; exact Nat.le_refl i), lts_len]
      simp
theorem lts_let (x z n : Nat) : AllLet (lts x z n n) := fun i hi => by
  rw [lts_len] at hi
  rw [gl_lts x z n n i hi]
  exact (let_at (bt_le _ _) (bt_le _ _)).1
theorem no_i {T : List UInt8} (h : AllLet T) : Lib.hasPrefix T [105] = false := by
  cases T with
  | nil => rfl
  | cons a r =>
    rw [hp_cons]
    have h0 := h 0 (by simp)
    have : gl (a :: r) 0 = a.toNat := rfl
    rw [this] at h0
    simp only [beq_eq_false_iff_ne, ne_eq]
    rintro rfl
    revert h0
    unfold isLet
    decide
theorem cut_plus (T : List UInt8) : cut1 (43 :: T) = (0, T) := by
  unfold cut1
  rw [hp_cons, if_neg (by decide), tp_hit]
theorem cut_minus (T : List UInt8) : cut1 (45 :: T) = (2, T) := by
  unfold cut1
  rw [hp_cons, if_pos (by decide), tp_hit]
theorem cutS_i {L T : List UInt8} {f : Nat} (h : cut1 L = (f, 105 :: T)) : cutS L = (f + 1, T) := by
  unfold cutS
  rw [h]
  simp only
  rw [hp_cons, if_pos (by decide), tp_hit]
theorem cutS_no {L T : List UInt8} {f : Nat} (h : cut1 L = (f, T)) (hT : Lib.hasPrefix T [105] = false) : cutS L = (f, T) := by
  unfold cutS
  rw [h]
  simp only
  rw [hT, if_neg (by decide)]
theorem cutS_sign {f : Nat} {T : List UInt8} (hf : f < 4) (hT : AllLet T) : cutS (signL f ++ T) = (f, T) := by
  have : f = 0 ∨ f = 1 ∨ f = 2 ∨ f = 3 := by omega
  rcases this with rfl | rfl | rfl | rfl
  · exact cutS_no (cut_plus T) (no_i hT)
  · exact cutS_i (cut_plus (105 :: T))
  · exact cutS_no (cut_minus T) (no_i hT)
  · exact cutS_i (cut_minus (105 :: T))
theorem cutS_text {p : PS} (h : p.ok) : cutS p.text = (p.f, lts p.x p.z p.n p.n) := cutS_sign h.f1 (lts_let _ _ _)
theorem text_let {p : PS} (h : p.ok) : AllLet (cutS p.text).2 ∧ (cutS p.text).2.length ≤ 64 := by
  rw [cutS_text h]
  exact ⟨lts_let _ _ _, by rw [lts_len]; exact h.n1⟩
theorem rd_text {p : PS} (h : p.ok) : rdP p.text = p := by
  unfold rdP
  rw [cutS_text h]
  simp only [lts_len]
  have ex : prs (xs (lts p.x p.z p.n p.n)) p.n = p.x := prs_of (xs_le _) h.x1 fun i hi => by
    unfold xs
    rw [gl_lts _ _ _ _ i hi]
    exact (let_at (bt_le _ _) (bt_le _ _)).2.1.symm
  have ez : prs (zs (lts p.x p.z p.n p.n)) p.n = p.z := prs_of (zs_le _) h.z1 fun i hi => by
    unfold zs
    rw [gl_lts _ _ _ _ i hi]
    exact (let_at (bt_le _ _) (bt_le _ _)).2.2.symm
  rw [ex, ez]
theorem rd_ok {L : List UInt8} (h : (cutS L).2.length ≤ 64) : (rdP L).ok := ⟨h, prs_lt _ (xs_le _) _, prs_lt _ (zs_le _) _, cutS_f L⟩
theorem lts_prs {R : List UInt8} (h : AllLet R) : lts (prs (xs R) R.length) (prs (zs R) R.length) R.length R.length = R := by
  refine List.ext_getElem (lts_len _ _ _ _) fun i h1 h2 => ?_
  have e1 := gl_lts (prs (xs R) R.length) (prs (zs R) R.length) R.length R.length i h2
  rw [bt_prs _ (xs_le R) _ i h2, bt_prs _ (zs_le R) _ i h2, gl_at _ i h1] at e1
  have e2 := gl_at R i h2
  have hl := h i h2
  unfold xs zs at e1
  rw [e2] at e1 hl
  rw [let_back hl] at e1
  exact u8_eq.2 e1
theorem text_rd {L : List UInt8} (ha : AllLet (cutS L).2) (h : ∃ a r, L = a :: r ∧ (a = 43 ∨ a = 45)) : (rdP L).text = L := by
  have e : (rdP L).text = signL (cutS L).1 ++ (cutS L).2 := by
    unfold PS.text rdP
    simp only
    rw [lts_prs ha]
  rw [e]
  obtain ⟨a, r, rfl, rfl | rfl⟩ := h
  · by_cases hp : Lib.hasPrefix r [105] = true
    · cases r with
      | nil => exact absurd hp (by decide)
      | cons b q =>
        rw [hp_cons] at hp
        obtain rfl : (105 : UInt8) = b := by simpa using hp
        rw [cutS_i (cut_plus (105 :: q))]
        rfl
    · rw [cutS_no (cut_plus r) (by simpa using hp)]
      rfl
  · by_cases hp : Lib.hasPrefix r [105] = true
    · cases r with
      | nil => exact absurd hp (by decide)
      | cons b q =>
        rw [hp_cons] at hp
        obtain rfl : (105 : UInt8) = b := by simpa using hp
        rw [cutS_i (cut_minus (105 :: q))]
        rfl
    · rw [cutS_no (cut_minus r) (by simpa using hp)]
      rfl
theorem signL_pos (f : Nat) : 1 ≤ (signL f).length := by
  unfold signL
  split
  · decide
  · split
    · decide
    · split
      · decide
      · decide
theorem text_pos (p : PS) : 1 ≤ p.text.length := by
  unfold PS.text
  rw [List.length_append]
  have := signL_pos p.f
  omega
theorem text_le {p : PS} (h : p.ok) : p.text.length ≤ 66 := by
  unfold PS.text
  rw [List.length_append, lts_len]
  have := signL_len p.f
  have := h.n1
  omega
end Go.Proofs.Ytbkdehnemhkbkaa
