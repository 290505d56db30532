/-
  Proved: for every two matrices that are together of bulk at most 1048576 (numbers and spare places counted) the law LinearKeeps (rules 5 and 6: matrices that are handed in stay as they are, answers are new memory) answers true, and both matrices read afterwards as they read before. The second form: the full one falls by size alone.
-/
import Derived.Test.YtinkdonaedoojaaN4
import Derived.Test.YtinkdonaedoojaaRow0
namespace Go.Proofs.Ytinkdonaedoojaa
open Go.ChangeShapes Go.WideShapes Go.ChangeAt Go.ChangeMaps Go.RowKit Go.Sort

section
variable {H : Type} {enc : TypeId × Value → H} {W : World}
theorem bulk_lits (k : IntKind) : ∀ zs : List Int, zs.length ≤ Rows.uptoBulkAll (lits (H := H) k zs)
  | [] => Nat.zero_le _
  | z :: zs => by
    have h := bulk_lits k zs
    show zs.length + 1 ≤ Rows.uptoBulkAll (lits (H := H) k (z :: zs))
    have e : lits (H := H) k (z :: zs) = .lit (.int k z) :: lits k zs := rfl
    rw [e, Rows.uptoBulkAll, Rows.uptoBulk]
    · omega
    · intro b h
      cases h
theorem nums_bulk {fuel n c : Nat} {a : Option Addr} {x : DataW H × List MemPlace} (h : DataW.trod enc Try.prog W 0 (fun _ => true) true fuel 22 [.slice a n c] = some x) : n ≤ Rows.uptoBulk x.1 := by
  rcases open_ints Try.underlying22 Try.underlying25 Try.cells25 h with ⟨e, _⟩ | ⟨a, len, cap, zs, e, _, hl, hm, hz, hx, hc, hw⟩
  · simp at e
    obtain ⟨_, rfl, _⟩ := e
    exact Nat.zero_le _
  · simp at e
    obtain ⟨_, rfl, _⟩ := e
    simp only [if_true] at hz
    have h1 := bulk_lits (H := H) .u64 (zs.take n)
    rw [List.length_take] at h1
    rw [hx, Rows.uptoBulk]
    omega
set_option maxRecDepth 100000 in
theorem lin_bulk {base : Nat} {v : Value} {d : DataW H} {p : List MemPlace} (hval : Value.okWide Try.prog W .any base 24 v) (h : DataW.Trod enc Try.prog W 0 (fun _ => true) true 24 v d p) :
    ∃ (N : Int) (a : Option Addr) (n c : Nat) (f : Nat → Nat), v = lv N a n c ∧ RR W a n f ∧ n ≤ Rows.uptoBulk d := by
  obtain ⟨N, a, n, c, f, rfl, hR, _⟩ := lin_of_trod hval h
  obtain ⟨fuel, hf⟩ := h
  obtain ⟨y0, y1, m, hx, _, _, h1⟩ := trod_struct2 Try.underlying24 hf
  have hx1 : d = .agg [y0.1, y1.1] := congrArg Prod.fst hx
  have hb := nums_bulk (n := n) (c := c) (a := a) h1
  refine ⟨N, a, n, c, f, rfl, hR, ?_⟩
  rw [hx1, Rows.uptoBulk]
  simp only [Rows.uptoBulkAll]
  omega
end
theorem Try.ownB : ownKnob Try.prog.godebug = none := by kernel_rfl
set_option maxHeartbeats 400000 in
set_option maxRecDepth 100000 in
theorem keeps_lifted (os : Os) (started : os.Started) (H : Type) (enc : TypeId × Value → H) (F : Stop.Interp) :
    ReturnsInHanded {} Try.checked os 7 .any ((Rows.OpenSpec.upto Rows.linearKeepsSpec).pre6 enc Try.prog Try.f7 Rows.linearKeepsUptoRow.domain false) (((Rows.OpenSpec.upto Rows.linearKeepsSpec).at F).post enc Try.prog Try.f7 false true false false) := by
  refine returnsInHanded_of_cond (C := Try.checked) (s := Rows.OpenSpec.upto Rows.linearKeepsSpec) (k := Rows.uptoSmall) rfl Try.ownB started (by kernel_rfl) Try.func7
    (OpenSpec.witness (enc := enc) (C := Try.checked) (s := Rows.OpenSpec.upto Rows.linearKeepsSpec) (k := Rows.uptoSmall) rfl false ⟨#[], #[.agg #[.int .i64 0, .slice none 0 0], .agg #[.int .i64 0, .slice none 0 0]], []⟩ 8 (by kernel_rfl) (by kernel_rfl) (by kernel_rfl)
      (x := ([.agg [.lit (.int .i64 0), .nil], .agg [.lit (.int .i64 0), .nil]], [], [])) (by kernel_rfl) rfl (by kernel_rfl)) ?_
  intro W base args ds gs before hval0 hW _ hk _
  have hval : ∀ (j : Nat) t v, Try.f7.params[j]? = some t → args[j]? = some v → Value.okWide Try.prog W .any base t v := hval0
  have hW' := hW
  obtain ⟨p, q, hA0, hV, rfl, hfz, hnd⟩ := hW
  have hA : DataW.TrodAll enc Try.prog W 0 (fun _ => true) true Try.f7.params.toList args.toList ds p := hA0
  rw [Try.params7] at hA hval
  obtain ⟨v0, vs0, d0, ds0, p0, q0, hargs, rfl, rfl, h0, r0⟩ := trodAll_cons hA
  obtain ⟨v1, vs1, d1, ds1, p1, q1, rfl, rfl, rfl, h1, r1⟩ := trodAll_cons r0
  obtain ⟨rfl, rfl, rfl⟩ := trodAll_nil r1
  obtain rfl : args = #[v0, v1] := by cases args; simp_all
  obtain ⟨rfl, rfl⟩ := trodVars_none hV
  obtain ⟨N, a, n, c, f, rfl, hT, hn⟩ := lin_bulk (hval 0 24 v0 rfl rfl) h0
  obtain ⟨N', a', n', c', g, rfl, hU, _⟩ := lin_bulk (hval 1 24 v1 rfl rfl) h1
  clear hA0 hval0
  simp only [List.append_nil] at hW' hk
  have hlt0 : ∀ x ∈ p0, x.block < W.heap.size := fun x hx => hW'.lt x (by simp [hx])
  have hlt1 : ∀ x ∈ p1, x.block < W.heap.size := fun x hx => hW'.lt x (by simp [hx])
  have hsm : n ≤ 1048576 := by
    have h : Rows.uptoBulkAll [d0, d1] ≤ 1048576 := of_decide_eq_true hk
    simp only [Rows.uptoBulkAll] at h
    omega
  refine (keeps_all N N' n n' f g a a' c c' W hT hU hsm).mono fun e W' ⟨he, hB⟩ => ?_
  subst he
  refine ⟨_, rfl, _, _, _, [], p0 ++ p1, [], hW', ?_, ?_, rfl, hB.frame _, fun h => by cases h⟩
  · exact trodAll_mk1 (shut_bool Try.underlying4 true)
  · have k0 := Below.trod Try.laidOut (by kernel_rfl) (of_decide_eq_true (by kernel_rfl)) h0 hB hlt0
    have k1 := Below.trod Try.laidOut (by kernel_rfl) (of_decide_eq_true (by kernel_rfl)) h1 hB hlt1
    have := trodAll_cons_mk k0 (trodAll_cons_mk k1 trodAll_mk0)
    simp only [List.append_nil] at this
    exact this
theorem keeps_holds : Rows.LinearKeepsUptoSaid :=
  OpenClaim.holds_of_cond 7 Try.f7 rfl rfl rfl rfl rfl rfl rfl ⟨rfl, rfl, rfl, rfl, rfl⟩ rfl rfl rfl rfl rfl (by kernel_rfl) Try.func7 (by kernel_rfl)
    (of_decide_eq_true (by kernel_rfl)) (by unfold Func.isWrapper; first | (rw [if_pos (by decide +kernel)]; kernel_rfl) | (rw [if_neg (by decide +kernel)]; exact ⟨rfl, rfl⟩))
    (fun os started H enc _ F => keeps_lifted os started H enc F)

#print axioms keeps_holds
end Go.Proofs.Ytinkdonaedoojaa
