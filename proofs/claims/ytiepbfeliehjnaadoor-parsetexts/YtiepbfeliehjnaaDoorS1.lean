/-
  The reference's statement: where no name stands.
-/
import Derived.Test.YtiepbfeliehjnaaDoorR7
namespace Go.Proofs.YtiepbfeliehjnaaDoor
open Go.RowKit Go.Sort

theorem own_nm {k : ByteArray} (h : ownB k = true) : nuB k = false ∧ sgB k = false := by
  rcases shp_cases k with ⟨rfl, _, _⟩ | ⟨rfl, _, _⟩ | ⟨rfl, _, _⟩ | ⟨rfl, _, _⟩ | ⟨rfl, _, _⟩ | ⟨rfl, _, _⟩ | ⟨rfl, _, _⟩ | ⟨rfl, _, h2⟩ | ⟨_, _, _, _, _, _, _, _, _, h2⟩
  · decide +kernel
  · decide +kernel
  · decide +kernel
  · decide +kernel
  · decide +kernel
  · decide +kernel
  · decide +kernel
  · rw [h2] at h; cases h
  · rw [h2] at h; cases h
theorem stmt_other {n : Int} {rec : Nat → List Tk → Except Fa (List Rw × List Tk)} {d : Nat} {r : List Tk} (h : ∀ t r', r = t :: r' → rightB t = true ∧ t.k ≠ 1) : stmtP n rec d r = .error (failP n 100 r) := by
  cases r with
  | nil => rfl
  | cons t r =>
    obtain ⟨h1, h2⟩ := h t r rfl
    have ho : ownB t.t = false := by
      cases e : ownB t.t with
      | false => rfl
      | true =>
        obtain ⟨g1, g2⟩ := own_nm e
        unfold rightB at h1
        rw [if_neg h2] at h1
        by_cases k2 : t.k = 2
        · rw [if_pos k2, g1] at h1; cases h1
        · rw [if_neg k2] at h1
          by_cases k3 : t.k = 3
          · rw [if_pos k3, g2] at h1; cases h1
          · rw [if_neg k3] at h1; cases h1
    obtain ⟨k1, k2, k3⟩ := use_rest (r := r) ho
    have hn : nameP n (t :: r) = .error (t.p, 100) := by
      have : plnB t = false := by unfold plnB; rw [decide_eq_false h2]; rfl
      simp only [nameP, this]
      simp
    exact stmt_mid (by rw [k2, k3]; exact mid_e1 hn)
set_option maxHeartbeats 4000000 in
set_option maxRecDepth 100000 in
theorem rst_other (n : Int) (rec : Nat → List Tk → Except Fa (List Rw × List Tk)) (w W : World) (rb : Nat) (ts : Value) (l : List Tk) (i : Nat) (v : Value) (rs : List Rw) (d : Nat) (H : RV w W rb ts l n i 0 0 v) (hO : OR W w.heap.size v rs) (hcnt : rs.length ≤ i) (hk : ∀ hi : i < l.length, l[i].k ≠ 1) :
    Calls Tryd.prog 19 #[.pointer (some ⟨rb, 0, none⟩), .int .i64 d] W (SD w W rb ts l n v rs (stmtP n rec d (l.drop i))) := by
  have e : stmtP n rec d (l.drop i) = .error (failP n 100 (l.drop i)) := stmt_other fun t r' e => by
    by_cases hi : i < l.length
    · rw [drop_at hi] at e
      cases e
      exact ⟨H.all i hi, hk hi⟩
    · rw [drop_out hi] at e; cases e
  rw [e]
  clear e
  have hle := H.le
  have hlen := H.len
  have FL := fun m => rfail_any w (W.drewN m) rb ts l n v (.ok (l.drop i)) 100 100 (by decide) rfl (.inl ⟨i, rfl, H.drawn m⟩)
  have HD : Hid (OR W w.heap.size v rs ∧ BK W rb _ 53) := ⟨hO, H.blk⟩
  have fin : ∀ m W', GB (W.drewN m) W' rb → FR W W' rb v v ∧ OR W' w.heap.size v rs := fun m W' g =>
    ⟨((FR.refl W rb v).below (below_drewN (Below.refl _ _) m)).gb g, (hO.below (below_drewN (Below.refl _ _) m)).gbT g (H.drawn m).blk (by decide) (by decide)⟩
  have HF := Hid.of fin
  clear fin HD
  obtain ⟨c0, c1, c2, c3, c4, c5⟩ := H.cells
  have hlt := H.blk.lt
  unfold SD
  by_cases hi : i < l.length
  · obtain ⟨a, c, hte, hc, hr⟩ := H.tok.below H.below
    subst hte
    obtain ⟨b, o, hae, r⟩ := hr i hi
    subst hae
    have d0 := r.c0 i hi
    have h4 : (l[i].k != 1) = true := by simpa using hk hi
    clear r hr H hk
    go_enter Tryd.func19, Tryd.ntmps19
    go_upto_region 1 with (fail)
    go_quiet (fail)
    go_wp2_with (go_at_call 39; (with_reducible refine (FL _).mono ?_); rintro e w1 ⟨rfl, hG, hR⟩)
    obtain ⟨f1, f2⟩ := HF.out _ _ hG
    exact bodyPost_ret (results_none rfl _ _ _) rfl ⟨rfl, _, rs, f1, hR, f2, Nat.le_refl _, by omega, fun rs2 r2 h => by cases h⟩
  · obtain ⟨a, c, hte, hc, hr⟩ := H.tok
    subst hte
    have h1 : l.length ≤ i := by omega
    have h3 : decide ((l.length : Int) ≤ (i : Int)) = true := decide_eq_true (by omega)
    have h2 : decide (l.length ≤ i) = true := decide_eq_true h1
    clear hr H hk
    go_enter Tryd.func19, Tryd.ntmps19
    go_upto_region 1 with (fail)
    go_quiet (fail)
    go_wp2_with (go_at_call 39; (with_reducible refine (FL _).mono ?_); rintro e w1 ⟨rfl, hG, hR⟩)
    obtain ⟨f1, f2⟩ := HF.out _ _ hG
    exact bodyPost_ret (results_none rfl _ _ _) rfl ⟨rfl, _, rs, f1, hR, f2, Nat.le_refl _, by omega, fun rs2 r2 h => by cases h⟩
end Go.Proofs.YtiepbfeliehjnaaDoor
