/-
  Proved: for every text and all tokens of bulk at most 1048576 the law LexJoins (promise P9.1: IsName and Join answer as the chapter says; the tokens stay as they are) answers true, and the tokens read afterwards as they read before. The bound is the given one of the second form.
-/
import Derived.Test.YtfjpdekegbnbaaaL2
import Derived.Test.YtfjpdekegbnbaaaRow0
import Derived.JoinedCond
namespace Go.Proofs.Ytfjpdekegbnbaaa
open Go.ChangeShapes Go.WideShapes Go.ChangeAt Go.ChangeMaps Go.RowKit Go.Sort

theorem bulk_app {H : Type} (l r : List (DataW H)) : Rows.uptoBulkAll (l ++ r) = Rows.uptoBulkAll l + Rows.uptoBulkAll r := by
  induction l with
  | nil => simp [Rows.uptoBulkAll]
  | cons x l ih => simp only [List.cons_append, Rows.uptoBulkAll, ih]; omega
theorem toks2_of_trod {H : Type} {enc : TypeId × Value → H} {W : World} {base : Nat} {v : Value} {d : DataW H} {p : List MemPlace}
    (hval : Value.okWide Try.prog W .any base 23 v) (h : DataW.Trod enc Try.prog W 0 (fun _ => true) true 23 v d p) :
    ∃ l : List Tk, SF W v l ∧ (∀ n c, v = .slice none n c → c = 0) ∧ (∀ k (h : k < l.length), l[k].t.size ≤ 9223372036854775807) ∧ sm l l.length + l.length ≤ Rows.uptoBulk d := by
  obtain ⟨a0, len, cap, rfl⟩ := okWide_slice Try.underlying23 hval
  obtain ⟨fuel, hf⟩ := h
  rcases Go.Deep.open_slice Try.underlying23 hf with ⟨hcs, hx⟩ | ⟨a, len', cap', m, n, D, Pl, hcs, _, hl, hm, hmm, hx, hcell⟩
  · simp [Value.cells] at hcs
    obtain ⟨rfl, rfl, rfl⟩ := hcs
    exact ⟨[], ⟨none, 0, rfl, Nat.le_refl _, fun k hk => absurd hk (Nat.not_lt_zero _)⟩, fun n c e => by injection e with _ _ e; exact e.symm, fun k hk => absurd hk (Nat.not_lt_zero _), Nat.zero_le _⟩
  · simp [Value.cells] at hcs
    obtain ⟨rfl, rfl, rfl⟩ := hcs
    simp only [if_true] at hmm
    unfold maxLen at hm
    rw [Try.cells31] at hcell
    have each : ∀ i, i < len → ∃ t : Tk, W.cell? (a.add (i * 3)) = some (.int .i64 t.k) ∧ W.cell? (a.add (i * 3 + 1)) = some (.string t.t) ∧ W.cell? (a.add (i * 3 + 2)) = some (.int .i64 t.p) ∧ t.t.size ≤ 9223372036854775807 ∧ t.t.size + 1 ≤ Rows.uptoBulk (D i) := by
      intro i hi
      obtain ⟨cs', h1, h2⟩ := hcell i (by omega)
      obtain ⟨_, hlen, hc⟩ := World.cells?_some h1
      obtain ⟨y0, y1, y2, n', ey, _, g0, g1, g2⟩ := Go.Deep.trod_struct3 Try.underlying31 h2
      match cs', hlen with
      | [v0, v1, v2], _ =>
        simp [Try.cells3, Try.cells9] at g0 g1 g2
        obtain ⟨x, ex, _, _⟩ := DataW.trod_int Try.underlying3 g0
        obtain ⟨z, ez, ed, hz⟩ := DataW.trod_string Try.underlying9 g1
        obtain ⟨y, ey', _, _⟩ := DataW.trod_int Try.underlying3 g2
        simp at ex ez ey'
        subst ex ez ey'
        have e0 := hc 0 (by omega)
        have e1 := hc 1 (by omega)
        have e2 := hc 2 (by omega)
        rw [Go.Deep.add_add] at e0 e1 e2
        refine ⟨⟨x, z, y⟩, by simpa using e0, by simpa using e1, by simpa using e2, hz, ?_⟩
        injection ey with ey1 ey2
        rw [ey1, ed]
        have hzl : z.data.toList.length = z.size := rfl
        simp only [Rows.uptoBulk, Rows.uptoBulkAll]
        omega
    haveI : Inhabited Tk := ⟨⟨0, ⟨#[]⟩, 0⟩⟩
    obtain ⟨T, hT⟩ := Go.Deep.choose_lt each
    refine ⟨(List.range len).map T, ⟨some a, cap, by simp, by simpa using hl, fun k hk => ?_⟩, fun n c e => (by injection e with e; cases e), fun k hk => ?_, ?_⟩
    · have hk' : k < len := by simpa using hk
      obtain ⟨b, off, spot⟩ := a
      have hspot : spot = none := by simpa [Addr.add] using World.cell?_spot (hT 0 (by omega)).1
      subst hspot
      refine ⟨b, off, rfl, fun j hj => ?_, fun j hj => ?_, fun j hj => ?_, ?_⟩
      · have := (hT j (by simpa using hj)).1; rw [add_plain] at this; simpa using this
      · have := (hT j (by simpa using hj)).2.1; rw [add_plain] at this; simpa [Nat.add_assoc] using this
      · have := (hT j (by simpa using hj)).2.2.1; rw [add_plain] at this; simpa [Nat.add_assoc] using this
      · have := World.block_lt_of_cell? W _ (hT k hk').1
        rw [add_plain] at this
        exact this
    · have := (hT k (by simpa using hk)).2.2.2.1
      simpa using this
    · have key : ∀ k, k ≤ len → sm ((List.range len).map T) k + k ≤ Rows.uptoBulkAll ((List.range k).map D) := by
        intro k
        induction k with
        | zero => intro _; exact Nat.zero_le _
        | succ k ih =>
          intro hk
          have h1 := ih (by omega)
          have h2 := sm_at ((List.range len).map T) k (by simp; omega)
          have h3 := (hT k (by omega)).2.2.2.2
          have h4 : ((List.range len).map T)[k]'(by simp; omega) = T k := by simp
          rw [h4] at h2
          rw [List.range_succ, List.map_append, bulk_app]
          simp only [List.map_cons, List.map_nil, Rows.uptoBulkAll]
          omega
      have h5 := key len (Nat.le_refl _)
      injection hx with hx1 hx2
      rw [hx1, List.length_map, List.length_range]
      simp only [Rows.uptoBulk]
      omega

theorem Try.own4 : ownKnob Try.prog.godebug = none := by kernel_rfl
theorem small {H : Type} {s : ByteArray} {d : DataW H} (hk : Rows.uptoSmall H [.lit (.string s.data.toList), d] = true) : Rows.uptoBulk d ≤ 1048576 := by
  have h : Rows.uptoBulkAll [DataW.lit (H := H) (.string s.data.toList), d] ≤ 1048576 := of_decide_eq_true hk
  simp only [Rows.uptoBulkAll] at h
  omega
set_option maxHeartbeats 400000 in
set_option maxRecDepth 100000 in
theorem joins_lifted (os : Os) (started : os.Started) (H : Type) (enc : TypeId × Value → H) (F : Stop.Interp) :
    ReturnsInHanded {} Try.checked os 4 .any ((Rows.OpenSpec.upto Rows.lexJoinsSpec).pre6 enc Try.prog Try.f4 Rows.lexJoinsUptoRow.domain false) (((Rows.OpenSpec.upto Rows.lexJoinsSpec).at F).post enc Try.prog Try.f4 false true false false) := by
  refine returnsInHanded_of_cond (C := Try.checked) (s := Rows.OpenSpec.upto Rows.lexJoinsSpec) (k := Rows.uptoSmall) rfl Try.own4 started (by kernel_rfl) Try.func4
    (OpenSpec.witness (enc := enc) (C := Try.checked) (s := Rows.OpenSpec.upto Rows.lexJoinsSpec) (k := Rows.uptoSmall) rfl false ⟨#[], #[.string .empty, .slice none 0 0], []⟩ 8 (by kernel_rfl) (by kernel_rfl) (by kernel_rfl)
      (x := ([.lit (.string []), .nil], [], [])) (by kernel_rfl) rfl (by kernel_rfl)) ?_
  intro W base args ds gs before hval0 hW _ hk _
  have hval : ∀ (j : Nat) t v, Try.f4.params[j]? = some t → args[j]? = some v → Value.okWide Try.prog W .any base t v := hval0
  have hW' := hW
  obtain ⟨p, q, hA0, hV, rfl, hfz, hnd⟩ := hW
  have hA : DataW.TrodAll enc Try.prog W 0 (fun _ => true) true Try.f4.params.toList args.toList ds p := hA0
  rw [Try.params4] at hA hval
  obtain ⟨v0, vs0, d0, ds0, p0, q0, hargs, rfl, rfl, h0, r0⟩ := trodAll_cons hA
  obtain ⟨v1, vs1, d1, ds1, p1, q1, rfl, rfl, rfl, h1, r1⟩ := trodAll_cons r0
  obtain ⟨rfl, rfl, rfl⟩ := trodAll_nil r1
  obtain rfl : args = #[v0, v1] := by cases args; simp_all
  obtain ⟨rfl, rfl⟩ := trodVars_none hV
  obtain ⟨s, rfl, rfl, rfl, hs⟩ := open_string Try.underlying9 (hval 0 9 v0 rfl rfl) h0
  obtain ⟨l, hv, hv0, hz, hb⟩ := toks2_of_trod (hval 1 23 v1 rfl rfl) h1
  clear hA0 hval0
  simp only [List.append_nil, List.nil_append] at hW' hk
  have hsm := small hk
  have hlt : ∀ x ∈ p1, x.block < W.heap.size := fun x hx => by simpa using hW'.lt x hx
  have hs63 : s.size ≤ 9223372036854775807 := hs
  refine (joins_any s l v1 W hs63 hv hv0 (by omega) hz).mono fun e W' ⟨he, hB⟩ => ?_
  subst he
  refine ⟨_, rfl, _, _, _, [], p1, [], hW', ?_, ?_, rfl, hB.frame _, fun h => by cases h⟩
  · exact trodAll_mk1 (shut_bool Try.underlying4 true)
  · have h2' := Below.trod Try.laidOut (by kernel_rfl) (of_decide_eq_true (by kernel_rfl)) h1 hB hlt
    have := trodAll_cons_mk (shut_string (enc := enc) (P := Try.prog) (w := W') Try.underlying9 hs) (trodAll_cons_mk h2' trodAll_mk0)
    simp only [List.append_nil, List.nil_append] at this
    exact this

theorem joins_holds : Rows.LexJoinsUptoSaid :=
  OpenClaim.holds_of_cond 4 Try.f4 rfl rfl rfl rfl rfl rfl rfl ⟨rfl, rfl, rfl, rfl, rfl⟩ rfl rfl rfl rfl rfl (by kernel_rfl) Try.func4 (by kernel_rfl)
    (of_decide_eq_true (by kernel_rfl)) (by unfold Func.isWrapper; first | (rw [if_pos (by decide +kernel)]; kernel_rfl) | (rw [if_neg (by decide +kernel)]; exact ⟨rfl, rfl⟩))
    (fun os started H enc _ F => joins_lifted os started H enc F)

#print axioms joins_holds
end Go.Proofs.Ytfjpdekegbnbaaa
