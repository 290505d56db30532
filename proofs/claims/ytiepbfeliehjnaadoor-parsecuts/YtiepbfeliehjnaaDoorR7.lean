/-
  The reference's statement: its kinds, by what its calls tell.
-/
import Derived.Test.YtiepbfeliehjnaaDoorR5
import Derived.Test.YtiepbfeliehjnaaDoorRM
namespace Go.Proofs.YtiepbfeliehjnaaDoor
open Go.RowKit Go.Sort

theorem MR.body {w W0 W W' : World} {rb : Nat} {ts : Value} {l : List Tk} {n : Int} {v0 v v' : Value} {s s' : Except Fa (List Tk)} {rs rs' : List Rw} {qb : Nat} {row : Array Value} (h : MR w W0 W rb ts l n v0 v s rs qb row) (hF : FR W W' rb v v') (hR : RX w W' rb ts l n v' s') (hO : OR W' w.heap.size v' rs') : MR w W0 W' rb ts l n v0 v' s' rs' qb row := by
  refine ⟨⟨hR, hF.bk h.b.q h.b.nq (fun e => h.nv qb e rfl), h.b.nq, h.b.ge⟩, hO, fun g hg e => ?_, h.fr.trans hF, h.q0⟩
  rcases hF.loc with hl | hl
  · rw [hl] at hg; exact h.nv g hg e
  · have := hl g hg
    have := h.b.q.lt
    omega
/-- body, by whatever reads its statements. -/
def BodyR (n : Int) (rec : Nat → List Tk → Except Fa (List Rw × List Tk)) (N : Nat) : Prop :=
  ∀ (w W : World) (rb : Nat) (ts : Value) (l : List Tk) (v : Value) (s : Except Fa (List Tk)) (rs : List Rw) (d : Nat), RX w W rb ts l n v s → OR W w.heap.size v rs → rs.length ≤ 65536 → (∀ j, s = .ok (l.drop j) → j ≤ l.length → rs.length ≤ j) → (∀ r, s = .ok r → r.length < N) → d ≤ 32 → ∀ y : Int, y = (d : Int) + 1 →
    Calls Tryd.prog 45 #[.pointer (some ⟨rb, 0, none⟩), .int .i64 y] W (SD w W rb ts l n v rs (stp s (bdP n rec d)))
theorem set_last {rs : List Rw} {r r' : Rw} : (rs ++ [r]).set rs.length r' = rs ++ [r'] := by simp
theorem Hid.of {p : Prop} (h : p) : Hid p := h
theorem len_num {n : Int} {s : Except Fa (List Tk)} {r : List Tk} (h : rst (stp s (numP n)) = .ok r) : ∃ r1, s = .ok r1 ∧ r.length < r1.length := by
  cases s with
  | error q => cases h
  | ok r1 =>
    have h : rst (numP n r1) = .ok r := h
    cases e : numP n r1 with
    | error q => rw [e] at h; cases h
    | ok z =>
      obtain ⟨x, r2⟩ := z
      rw [e] at h
      cases h
      obtain ⟨t, rfl, _⟩ := numP_len e
      exact ⟨_, rfl, by simp⟩
theorem len_name {n : Int} {s : Except Fa (List Tk)} {r : List Tk} (h : rst (stp s (nameP n)) = .ok r) : ∃ r1, s = .ok r1 ∧ r.length < r1.length := by
  cases s with
  | error q => cases h
  | ok r1 =>
    have h : rst (nameP n r1) = .ok r := h
    cases e : nameP n r1 with
    | error q => rw [e] at h; cases h
    | ok z =>
      obtain ⟨x, r2⟩ := z
      rw [e] at h
      cases h
      obtain ⟨t, rfl, _⟩ := nameP_len e
      exact ⟨_, rfl, by simp⟩
section
variable {w W0 W W' : World} {rb : Nat} {ts : Value} {l : List Tk} {n : Int} {v0 v v' : Value} {s : Except Fa (List Tk)} {rs : List Rw} {qb : Nat} {row : Array Value} {B m : Nat} {u : Value} {xs : List Value}
theorem MR.keepG (h : MR w W0 W rb ts l n v0 v s rs qb row) (a : W.ownsRow B 61 2 u m xs) (g : GB W W' rb) : W'.ownsRow B 61 2 u m xs := by
  obtain ⟨cs, hb⟩ := h.b.x.blk
  exact own_kept a g (own_ne a hb (by decide))
theorem MR.keepS (h : MR w W0 W rb ts l n v0 v s rs qb row) (a : W.ownsRow B 61 2 u m xs) (k : Nat) (y : Value) : (W.setCell ⟨qb, k, none⟩ y).ownsRow B 61 2 u m xs := own_kept a (grown_set W qb k y) (own_ne a h.b.q (by decide))
theorem MR.keepF (h : MR w W0 W rb ts l n v0 v s rs qb row) (a : W.ownsRow B 61 2 u m xs) (f : FR W W' rb v v') : W'.ownsRow B 61 2 u m xs := by
  obtain ⟨cs, hb⟩ := h.b.x.blk
  exact f.args a hb h.o
end
/-- A slice that is written out. -/
theorem lit_own (W : World) (cs : Array Value) (m B : Nat) (hs : cs.size = m * 2) (hm : m ≤ 4) (hB : B ≤ W.heap.size) : (W.alloc (.cells cs 61)).ownsRow B 61 2 (.slice (some ⟨W.heap.size, 0, none⟩) m m) m cs.toList := by
  refine ⟨by simpa using hs, .inr ⟨W.heap.size, m, cs, rfl, hB, heap_alloc_new W _, Nat.le_refl _, by unfold maxLen; omega, hs, ?_⟩⟩
  rw [List.take_of_length_le (by simp; omega)]
section
variable {n : Int} {rec : Nat → List Tk → Except Fa (List Rw × List Tk)} {d : Nat} {t : Tk} {r : List Tk}
theorem own_rest (ht : ownB t.t = true) : kindK t = t.t ∧ restK t r = r ∧ shK t = (shp t.t).getD shNone := by
  have e : kindK t = t.t := by unfold kindK; rw [ht]; rfl
  exact ⟨e, by unfold restK; rw [ht]; rfl, by unfold shK; rw [e]⟩
theorem use_rest (ht : ownB t.t = false) : kindK t = wUse ∧ restK t r = t :: r ∧ shK t = shUse := by
  have e : kindK t = wUse := by unfold kindK; rw [ht]; rfl
  exact ⟨e, by unfold restK; rw [ht]; rfl, by unfold shK; rw [e]; rfl⟩
theorem st_decl (hd : shp t.t = some shDecl) (ho : ownB t.t = true) (nm : ByteArray) (x : Nat) (h1 : isv (stp (.ok r) (nameP n)) nm) (h3 : isv (stp (rst (stp (.ok r) (nameP n))) (numP n)) x) :
    rst (stmtP n rec d (t :: r)) = rst (stp (rst (stp (rst (stp (.ok r) (nameP n))) (numP n))) (signP n wSemi)) ∧ ∀ rs2 r2, stmtP n rec d (t :: r) = .ok (rs2, r2) → rs2 = [⟨t.t, nm, [], x, 0, t.p⟩] := by
  obtain ⟨k1, k2, k3⟩ := own_rest (r := r) ho
  have k3 : shK t = shDecl := by rw [k3, hd]; rfl
  have e1 : y1 n (shK t) (restK t r) = stp (.ok r) (nameP n) := by rw [k2, k3]; rfl
  have A := args_none (n := n) (sh := shDecl) rfl (rst (stp (.ok r) (nameP n)))
  have e2 : y2 n (shK t) (restK t r) = stp (rst (stp (.ok r) (nameP n))) (argsQ n shDecl) := by unfold y2; rw [e1, k3]
  have e3 : y3 n (shK t) (restK t r) = stp (rst (stp (.ok r) (nameP n))) (numP n) := by unfold y3; rw [e2, A.1, k3]; rfl
  have S := st_flat (n := n) (rec := rec) (d := d) (t := t) (r := r) (by rw [k3]) nm [] x (by rw [e1]; exact h1) (by rw [e2]; exact A.2) (by rw [e3]; exact h3)
  rw [e3, k1] at S
  exact S
theorem st_if (hd : shp t.t = some shIf) (ho : ownB t.t = true) (nm : ByteArray) (x : Nat) (h1 : isv (stp (.ok r) (nameP n)) nm) (h3 : isv (stp (rst (stp (.ok r) (nameP n))) (numP n)) x) :
    rst (stmtP n rec d (t :: r)) = rst (stp (rst (stp (rst (stp (.ok r) (nameP n))) (numP n))) (bdP n rec d)) ∧ ∀ rs2 r2, stmtP n rec d (t :: r) = .ok (rs2, r2) → ∃ sub, stp (rst (stp (rst (stp (.ok r) (nameP n))) (numP n))) (bdP n rec d) = .ok (sub, r2) ∧ rs2 = ⟨t.t, nm, [], x, sub.length, t.p⟩ :: sub := by
  obtain ⟨k1, k2, k3⟩ := own_rest (r := r) ho
  have k3 : shK t = shIf := by rw [k3, hd]; rfl
  have e1 : y1 n (shK t) (restK t r) = stp (.ok r) (nameP n) := by rw [k2, k3]; rfl
  have A := args_none (n := n) (sh := shIf) rfl (rst (stp (.ok r) (nameP n)))
  have e2 : y2 n (shK t) (restK t r) = stp (rst (stp (.ok r) (nameP n))) (argsQ n shIf) := by unfold y2; rw [e1, k3]
  have e3 : y3 n (shK t) (restK t r) = stp (rst (stp (.ok r) (nameP n))) (numP n) := by unfold y3; rw [e2, A.1, k3]; rfl
  have S := st_body (n := n) (rec := rec) (d := d) (t := t) (r := r) (by rw [k3]) nm [] x (by rw [e1]; exact h1) (by rw [e2]; exact A.2) (by rw [e3]; exact h3)
  rw [e3, k1] at S
  exact S
theorem st_repeat (hd : shp t.t = some shRepeat) (ho : ownB t.t = true) (x : Nat) (h3 : isv (stp (.ok r) (numP n)) x) :
    rst (stmtP n rec d (t :: r)) = rst (stp (rst (stp (.ok r) (numP n))) (bdP n rec d)) ∧ ∀ rs2 r2, stmtP n rec d (t :: r) = .ok (rs2, r2) → ∃ sub, stp (rst (stp (.ok r) (numP n))) (bdP n rec d) = .ok (sub, r2) ∧ rs2 = ⟨t.t, ⟨#[]⟩, [], x, sub.length, t.p⟩ :: sub := by
  obtain ⟨k1, k2, k3⟩ := own_rest (r := r) ho
  have k3 : shK t = shRepeat := by rw [k3, hd]; rfl
  have e1 : y1 n (shK t) (restK t r) = .ok (⟨#[]⟩, r) := by rw [k2, k3]; rfl
  have A := args_none (n := n) (sh := shRepeat) rfl (.ok r)
  have e2 : y2 n (shK t) (restK t r) = stp (.ok r) (argsQ n shRepeat) := by unfold y2; rw [e1, k3]; rfl
  have e3 : y3 n (shK t) (restK t r) = stp (.ok r) (numP n) := by unfold y3; rw [e2, A.1, k3]; rfl
  have S := st_body (n := n) (rec := rec) (d := d) (t := t) (r := r) (by rw [k3]) ⟨#[]⟩ [] x (by rw [e1]; intro a r e; cases e; rfl) (by rw [e2]; exact A.2) (by rw [e3]; exact h3)
  rw [e3, k1] at S
  exact S
/-- One argument; two. -/
theorem args_one {s : Except Fa (List Tk)} (a : Ar) (h : isv (stp s (argP n true)) a) : rst (stp s (argsQ n shReset)) = rst (stp s (argP n true)) ∧ isv (stp s (argsQ n shReset)) [a] := by
  cases s with
  | error q => exact ⟨rfl, fun a r e => by cases e⟩
  | ok r =>
    have e0 : stp (.ok r) (argP n true) = argP n true r := rfl
    have e1 : stp (.ok r) (argsQ n shReset) = argsP n shReset (r.length + 1) [] r := rfl
    rw [e0] at h ⊢
    rw [e1]
    cases ha : argP n true r with
    | error q =>
      have e : argsP n shReset (r.length + 1) [] r = .error q := by simp [argsP, moreB, ha]
      rw [e]
      exact ⟨rfl, fun a r e => by cases e⟩
    | ok z =>
      obtain ⟨b, r1⟩ := z
      have e : argsP n shReset (r.length + 1) [] r = .ok ([b], r1) := by
        simp only [argsP, moreB, ha]
        cases r.length with
        | zero => simp [argsP]
        | succ m => simp [argsP, moreB]
      rw [e]
      rw [ha] at h
      exact ⟨rfl, fun c r e => by cases e; rw [h b _ rfl]⟩
theorem args_two {s : Except Fa (List Tk)} (a b : Ar) (h : isv (stp s (argP n true)) a) (h2 : isv (stp (rst (stp s (argP n true))) (argP n true)) b) : rst (stp s (argsQ n shMeasure)) = rst (stp (rst (stp s (argP n true))) (argP n true)) ∧ isv (stp s (argsQ n shMeasure)) [a, b] := by
  cases s with
  | error q => exact ⟨rfl, fun a r e => by cases e⟩
  | ok r =>
    have e0 : stp (.ok r) (argP n true) = argP n true r := rfl
    have e1 : stp (.ok r) (argsQ n shMeasure) = argsP n shMeasure (r.length + 1) [] r := rfl
    rw [e0] at h h2 ⊢
    rw [e1]
    cases ha : argP n true r with
    | error q =>
      have e : argsP n shMeasure (r.length + 1) [] r = .error q := by simp [argsP, moreB, ha]
      rw [e]
      exact ⟨rfl, fun a r e => by cases e⟩
    | ok z =>
      obtain ⟨b1, r1⟩ := z
      rw [ha] at h h2
      have e3 : stp (rst (.ok (b1, r1))) (argP n true) = argP n true r1 := rfl
      rw [e3] at h2 ⊢
      have hlr := argP_len ha
      obtain ⟨m, hm⟩ : ∃ m, r.length = m + 1 := ⟨r.length - 1, by omega⟩
      cases hb : argP n true r1 with
      | error q =>
        have e : argsP n shMeasure (r.length + 1) [] r = .error q := by
          rw [hm]
          simp [argsP, moreB, ha, hb]
        rw [e]
        exact ⟨rfl, fun a r e => by cases e⟩
      | ok z =>
        obtain ⟨b2, r2⟩ := z
        have e : argsP n shMeasure (r.length + 1) [] r = .ok ([b1, b2], r2) := by
          rw [hm]
          simp only [argsP, moreB, ha]
          cases m with
          | zero => simp [argsP, hb]
          | succ m => simp [argsP, moreB, hb]
        rw [e]
        rw [hb] at h2
        exact ⟨rfl, fun c r e => by cases e; rw [h b1 _ rfl, h2 b2 _ rfl]⟩
theorem st_reset (hd : shp t.t = some shReset) (ho : ownB t.t = true) (a : Ar) (h2 : isv (stp (.ok r) (argP n true)) a) :
    rst (stmtP n rec d (t :: r)) = rst (stp (rst (stp (.ok r) (argP n true))) (signP n wSemi)) ∧ ∀ rs2 r2, stmtP n rec d (t :: r) = .ok (rs2, r2) → rs2 = [⟨t.t, ⟨#[]⟩, [a], (0 : Nat), 0, t.p⟩] := by
  obtain ⟨k1, k2, k3⟩ := own_rest (r := r) ho
  have k3 : shK t = shReset := by rw [k3, hd]; rfl
  have e1 : y1 n (shK t) (restK t r) = .ok (⟨#[]⟩, r) := by rw [k2, k3]; rfl
  have A := args_one (n := n) (s := .ok r) a h2
  have e2 : y2 n (shK t) (restK t r) = stp (.ok r) (argsQ n shReset) := by unfold y2; rw [e1, k3]; rfl
  have Nn := num_none (n := n) (rst (stp (.ok r) (argsQ n shReset)))
  have e3 : y3 n (shK t) (restK t r) = stp (rst (stp (.ok r) (argsQ n shReset))) (optNum n false) := by unfold y3; rw [e2, k3]
  have S := st_flat (n := n) (rec := rec) (d := d) (t := t) (r := r) (by rw [k3]) ⟨#[]⟩ [a] 0 (by rw [e1]; intro a r e; cases e; rfl) (by rw [e2]; exact A.2) (by rw [e3]; exact Nn.2)
  rw [e3, Nn.1, A.1, k1] at S
  exact S
theorem st_measure (hd : shp t.t = some shMeasure) (ho : ownB t.t = true) (a b : Ar) (h2 : isv (stp (.ok r) (argP n true)) a) (h3 : isv (stp (rst (stp (.ok r) (argP n true))) (argP n true)) b) :
    rst (stmtP n rec d (t :: r)) = rst (stp (rst (stp (rst (stp (.ok r) (argP n true))) (argP n true))) (signP n wSemi)) ∧ ∀ rs2 r2, stmtP n rec d (t :: r) = .ok (rs2, r2) → rs2 = [⟨t.t, ⟨#[]⟩, [a, b], (0 : Nat), 0, t.p⟩] := by
  obtain ⟨k1, k2, k3⟩ := own_rest (r := r) ho
  have k3 : shK t = shMeasure := by rw [k3, hd]; rfl
  have e1 : y1 n (shK t) (restK t r) = .ok (⟨#[]⟩, r) := by rw [k2, k3]; rfl
  have A := args_two (n := n) (s := .ok r) a b h2 h3
  have e2 : y2 n (shK t) (restK t r) = stp (.ok r) (argsQ n shMeasure) := by unfold y2; rw [e1, k3]; rfl
  have Nn := num_none (n := n) (rst (stp (.ok r) (argsQ n shMeasure)))
  have e3 : y3 n (shK t) (restK t r) = stp (rst (stp (.ok r) (argsQ n shMeasure))) (optNum n false) := by unfold y3; rw [e2, k3]
  have S := st_flat (n := n) (rec := rec) (d := d) (t := t) (r := r) (by rw [k3]) ⟨#[]⟩ [a, b] 0 (by rw [e1]; intro a r e; cases e; rfl) (by rw [e2]; exact A.2) (by rw [e3]; exact Nn.2)
  rw [e3, Nn.1, A.1, k1] at S
  exact S
end
end Go.Proofs.YtiepbfeliehjnaaDoor
