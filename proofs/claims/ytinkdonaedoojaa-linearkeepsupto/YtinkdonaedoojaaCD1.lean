/-
  What is known of the gates: the map that look keeps; need.
-/
import Derived.Test.YtinkdonaedoojaaCC2
import Derived.Test.YtinkdonaedoojaaCG1
namespace Go.Proofs.Ytinkdonaedoojaa.CL
open Go.RowKit Go.Sort

abbrev ndv (a h : Nat) : Value := .agg #[.int .i64 (a : Nat), .int .i64 (h : Nat)]
/-- How many qubits an operation has, how often it halves. -/
def opN (o : Oq) : Nat := if o.k = 1 then gar o.n else 1
def opH (o : Oq) : Nat := if o.k = 1 then ghv o.n else 0
def KE (es : Array MapEntry) : Prop := ∀ e ∈ es.toList, ∃ s, e.key = .string s ∧ e.val = ndv (gar s) (ghv s)
/-- The map at B knows only what the gates are. -/
def KM (W : World) (B : Nat) : Prop := ∃ es n, W.heap[B]? = some (.map es n) ∧ KE es
theorem ke_find {s : ByteArray} : ∀ (l : List MapEntry) (i : Nat), (∀ e ∈ l, ∃ s, e.key = .string s ∧ e.val = ndv (gar s) (ghv s)) → Instr.findNow .string (.string s) l i = some none ∨ ∃ j, Instr.findNow .string (.string s) l i = some (some (j, ndv (gar s) (ghv s)))
  | [], _, _ => .inl rfl
  | e :: l, i, h => by
    obtain ⟨x, ek, ev⟩ := h e (by simp)
    unfold Instr.findNow
    have es : Instr.sameNow .string (.string s) e.key = some (s == x) := by rw [ek]; rfl
    rw [es]
    cases hb : (s == x) with
    | true =>
      have hx : s = x := (MapKept.bytes_beq s x).1 hb
      subst hx
      exact .inr ⟨i, by rw [← ev]⟩
    | false => exact ke_find l (i + 1) (fun e' he => h e' (by simp [he]))
theorem run_known (W : World) (B : Nat) (es : Array MapEntry) (n : Nat) (s : ByteArray) (j : Nat) (v : Value) (hb : W.heap[B]? = some (.map es n)) (h : Instr.findNow .string (.string s) es.toList 0 = some (some (j, v))) :
    (Instr.lookup 90 (.map (some B)) (.string s) true).run Try.prog W = .ok (.tuple #[v, .bool true]) W := by
  have h1 : (Instr.checkKey es.isEmpty 10000 9 (.string s)).run Try.prog W = .ok () W := MapKept.run_checkKey Try.underlying9 (by simp [MapKept.IsKey]) _ 9999
  have h2 := MapKept.run_findKey (w := W) Try.underlying9 h
  unfold Instr.lookup
  simp only [Sem.run_bind, Sem.run_pure, run_underlying Try.underlying90, Result.andThen, MapKept.run_getObj_map hb, h1, h2]
  rfl
theorem zeroNeed (w : World) : (zeroValue 92).run Try.prog w = .ok (.agg #[.int .i64 0, .int .i64 0]) w := by kernel_rfl
theorem run_unknown (W : World) (B : Nat) (es : Array MapEntry) (n : Nat) (s : ByteArray) (hb : W.heap[B]? = some (.map es n)) (h : Instr.findNow .string (.string s) es.toList 0 = some none) :
    (Instr.lookup 90 (.map (some B)) (.string s) true).run Try.prog W = .ok (.tuple #[.agg #[.int .i64 0, .int .i64 0], .bool false]) W := by
  have h1 : (Instr.checkKey es.isEmpty 10000 9 (.string s)).run Try.prog W = .ok () W := MapKept.run_checkKey Try.underlying9 (by simp [MapKept.IsKey]) _ 9999
  have h2 := MapKept.run_findKey (w := W) Try.underlying9 h
  unfold Instr.lookup
  simp only [Sem.run_bind, Sem.run_pure, run_underlying Try.underlying90, Result.andThen, MapKept.run_getObj_map hb, h1, h2, zeroNeed]
  rfl
/-- A world whose map has learnt more. -/
def learnt (W : World) (B : Nat) (o : Obj) : World := { W with heap := W.heap.setIfInBounds B o }
theorem run_learn (W : World) (B : Nat) (es : Array MapEntry) (n : Nat) (s : ByteArray) (v : Value) (hb : W.heap[B]? = some (.map es n)) (h : Instr.findNow .string (.string s) es.toList 0 = some none) :
    (Instr.mapUpdate 90 (.map (some B)) (.string s) v).run Try.prog W = .ok () (learnt W B (.map (es.push ⟨.string s, v, n⟩) (n + 1))) := by
  have h1 : (Instr.checkKey false 10000 9 (.string s)).run Try.prog W = .ok () W := MapKept.run_checkKey Try.underlying9 (by simp [MapKept.IsKey]) false 9999
  have h2 := MapKept.run_findKey (w := W) Try.underlying9 h
  unfold Instr.mapUpdate
  simp only [Sem.run_bind, run_underlying Try.underlying90, Result.andThen, MapKept.run_getObj_map hb, h1, h2, MapKept.run_setObj_map _ hb, learnt]
theorem learnt_gb (W : World) (B : Nat) (o : Obj) : GB W (learnt W B o) B :=
  ⟨rfl, rfl, rfl, by simp [learnt], fun k hk hne => by
    show (W.heap.setIfInBounds B o)[k]? = W.heap[k]?
    rw [Array.getElem?_setIfInBounds_ne (fun e => hne (by rw [e]))]⟩
theorem KM.learn {W : World} {B : Nat} {es : Array MapEntry} {n : Nat} (hb : W.heap[B]? = some (.map es n)) (hk : KE es) (s : ByteArray) : KM (learnt W B (.map (es.push ⟨.string s, ndv (gar s) (ghv s), n⟩) (n + 1))) B :=
  ⟨_, _, (MapKept.heap_set hb).1, fun e he => by
    rw [Array.toList_push, List.mem_append] at he
    rcases he with he | he
    · exact hk e he
    · rw [List.mem_singleton] at he
      subst he
      exact ⟨s, rfl, rfl⟩⟩
theorem KM.keep {W W' : World} {B : Nat} (h : KM W B) (hb : Below W.heap.size W W') : KM W' B := by
  obtain ⟨es, n, h1, h2⟩ := h
  exact ⟨es, n, (hb.block B (Array.getElem?_eq_some_iff.1 h1).1).trans h1, h2⟩
theorem KM.set {W : World} {B : Nat} (h : KM W B) (b k : Nat) (v : Value) (hne : B ≠ b) : KM (W.setCell ⟨b, k, none⟩ v) B := by
  obtain ⟨es, n, h1, h2⟩ := h
  exact ⟨es, n, by rw [Below.heap_setCell _ ⟨b, k, none⟩ _ B hne]; exact h1, h2⟩
theorem KM.lt {W : World} {B : Nat} (h : KM W B) : B < W.heap.size := by
  obtain ⟨es, n, h1, _⟩ := h
  exact (Array.getElem?_eq_some_iff.1 h1).1
theorem three_box {w w1 : World} {cs ds es : Array Value} {T U V : TypeId} (h : Below (((w.alloc (.cells cs T)).alloc (.cells ds U)).alloc (.cells es V)).heap.size (((w.alloc (.cells cs T)).alloc (.cells ds U)).alloc (.cells es V)) w1) : BK w1 w.heap.size cs T ∧ BK w1 (w.heap.size + 1) ds U ∧ BK w1 (w.heap.size + 1 + 1) es V := by
  have e := ((bk_new w cs T).alloc (.cells ds U)).alloc (.cells es V)
  have e2 := (bk_new (w.alloc (.cells cs T)) ds U).alloc (.cells es V)
  rw [show (w.alloc (.cells cs T)).heap.size = w.heap.size + 1 by simp] at e2
  have e3 := bk_new ((w.alloc (.cells cs T)).alloc (.cells ds U)) es V
  rw [show ((w.alloc (.cells cs T)).alloc (.cells ds U)).heap.size = w.heap.size + 1 + 1 by simp] at e3
  exact ⟨(h.block _ e.lt).trans e, (h.block _ e2.lt).trans e2, (h.block _ e3.lt).trans e3⟩
/-- need's boxes: the operation's, the answer's, the need's; the map. -/
structure ND (w W : World) (o : Oq) (a : Option Addr) (c B : Nat) (x y : Int) (es : Array MapEntry) (n : Nat) : Prop where
  below : Below w.heap.size w W
  box : BK W w.heap.size (opc o a c).toArray 58
  res : BK W (w.heap.size + 1) #[.int .i64 0, .int .i64 0] 92
  nb : BK W (w.heap.size + 1 + 1) #[.int .i64 x, .int .i64 y] 92
  map : W.heap[B]? = some (.map es n)
theorem ND.on {w W W' : World} {o : Oq} {a : Option Addr} {c B n : Nat} {x y : Int} {es : Array MapEntry} (h : ND w W o a c B x y es n) (hb : Below W.heap.size W W') : ND w W' o a c B x y es n :=
  ⟨btr h.below hb, (hb.block _ h.box.lt).trans h.box, (hb.block _ h.res.lt).trans h.res, (hb.block _ h.nb.lt).trans h.nb, (hb.block _ (Array.getElem?_eq_some_iff.1 h.map).1).trans h.map⟩
theorem ND.put {w W : World} {o : Oq} {a : Option Addr} {c B n : Nat} {x y : Int} {es : Array MapEntry} (h : ND w W o a c B x y es n) (hB : B < w.heap.size) (x' y' : Int) : ND w ((W.setCell ⟨w.heap.size + 1 + 1, 0, none⟩ (.int .i64 x')).setCell ⟨w.heap.size + 1 + 1, 1, none⟩ (.int .i64 y')) o a c B x' y' es n := by
  refine ⟨bset (bset h.below _ _ _ (by omega)) _ _ _ (by omega), (h.box.far (by omega) _ _).far (by omega) _ _, (h.res.far (by omega) _ _).far (by omega) _ _, ?_, ?_⟩
  · have := (h.nb.set 0 (.int .i64 x')).set 1 (.int .i64 y')
    simpa using this
  · rw [Below.heap_setCell _ ⟨w.heap.size + 1 + 1, 1, none⟩ _ B (by show B ≠ w.heap.size + 1 + 1; omega), Below.heap_setCell _ ⟨w.heap.size + 1 + 1, 0, none⟩ _ B (by show B ≠ w.heap.size + 1 + 1; omega)]
    exact h.map
set_option maxHeartbeats 2000000 in
set_option maxRecDepth 100000 in
theorem need_any (o : Oq) (a : Option Addr) (c B : Nat) (w : World) (hK : KM w B) : Calls Try.prog 52 #[.map (some B), opv o a c] w fun e w' => e = .returned (ndv (opN o) (opH o)) ∧ KM w' B ∧ GB w w' B := by
  by_cases hk : o.k = 1
  case neg =>
    have h1 : opN o = 1 := by unfold opN; rw [if_neg hk]
    have h2 : opH o = 0 := by unfold opH; rw [if_neg hk]
    rw [h1, h2]
    have hk1 : (o.k != 1) = true := by simpa using hk
    clear hk h1 h2
    go_enter Try.func52, Try.ntmps52
    go_wp2
    exact bodyPost_ret (v := ndv 1 0) (by simp [results, Try.results52, go_sem]) rfl ⟨rfl, hK.keep (bal (bal (Below.refl _ _) _) _), gb_alloc (gb_alloc (gb_refl _ _) _) _⟩
  case pos =>
  have h1 : opN o = gar o.n := by unfold opN; rw [if_pos hk]
  have h2 : opH o = ghv o.n := by unfold opH; rw [if_pos hk]
  rw [h1, h2]
  have hk1 : (o.k != 1) = false := by simpa using hk
  clear hk h1 h2
  have hlt := hK.lt
  obtain ⟨es, n, hb, hE⟩ := hK
  rcases ke_find (s := o.n) es.toList 0 hE with hF | ⟨j, hF⟩
  case inr =>
    have LK : ∀ x y, (Instr.lookup 90 (.map (some B)) (.string o.n) true).run Try.prog ((w.alloc x).alloc y) = .ok (.tuple #[ndv (gar o.n) (ghv o.n), .bool true]) ((w.alloc x).alloc y) := fun x y => run_known _ B es n o.n j _ (by rw [Lib.alloc_old _ y B (by simp; omega), Lib.alloc_old _ x B hlt]; exact hb) hF
    have HK : Hid (KM w B) := ⟨es, n, hb, hE⟩
    clear hb hE hF
    go_enter Try.func52, Try.ntmps52
    go_wp2
    exact bodyPost_ret (v := ndv (gar o.n) (ghv o.n)) (by simp [results, Try.results52, go_sem]) rfl ⟨rfl, HK.out.keep (bal (bal (bal (Below.refl _ _) _) _) _), gb_alloc (gb_alloc (gb_alloc (gb_refl _ _) _) _) _⟩
  have LK : ∀ x y, (Instr.lookup 90 (.map (some B)) (.string o.n) true).run Try.prog ((w.alloc x).alloc y) = .ok (.tuple #[.agg #[.int .i64 0, .int .i64 0], .bool false]) ((w.alloc x).alloc y) := fun x y => run_unknown _ B es n o.n (by rw [Lib.alloc_old _ y B (by simp; omega), Lib.alloc_old _ x B hlt]; exact hb) hF
  have AR := fun w => arity_any o.n w
  have HV := fun w => halves_any o.n w
  have HB : Hid (w.heap[B]? = some (.map es n)) := hb
  have HE : Hid (KE es) := hE
  have HF : Hid (Instr.findNow .string (.string o.n) es.toList 0 = some none) := hF
  clear hb hE hF
  go_enter Try.func52, Try.ntmps52
  go_upto_region 5 with (fail)
  have hN : Hid (ND w (((w.alloc (.cells (opc o a c).toArray 58)).alloc (.cells #[.int .i64 0, .int .i64 0] 92)).alloc (.cells #[.int .i64 0, .int .i64 0] 92)) o a c B 0 0 es n) := by
    obtain ⟨b1, b2, b3⟩ := three_box (Below.refl (((w.alloc (.cells (opc o a c).toArray 58)).alloc (.cells #[.int .i64 0, .int .i64 0] 92)).alloc (.cells #[.int .i64 0, .int .i64 0] 92)).heap.size (((w.alloc (.cells (opc o a c).toArray 58)).alloc (.cells #[.int .i64 0, .int .i64 0] 92)).alloc (.cells #[.int .i64 0, .int .i64 0] 92)))
    exact ⟨bal (bal (bal (Below.refl _ _) _) _) _, b1, b2, b3, by rw [Lib.alloc_old _ _ B (by simp; omega), Lib.alloc_old _ _ B (by simp; omega), Lib.alloc_old _ _ B hlt]; exact HB.out⟩
  generalize hV : (((w.alloc (.cells (opc o a c).toArray 58)).alloc (.cells #[.int .i64 0, .int .i64 0] 92)).alloc (.cells #[.int .i64 0, .int .i64 0] 92)) = V at *
  clear hV LK
  have c1 : V.cell? ⟨w.heap.size, 1, none⟩ = some (.string o.n) := hN.out.box.cell 1
  have l0 : w.heap.size < V.heap.size := hN.out.box.lt
  have l2 : w.heap.size + 1 + 1 < V.heap.size := hN.out.nb.lt
  have d0 : V.cell? ⟨w.heap.size + 1 + 1, 0, none⟩ = some (.int .i64 0) := hN.out.nb.cell 0
  have d1 : V.cell? ⟨w.heap.size + 1 + 1, 1, none⟩ = some (.int .i64 0) := hN.out.nb.cell 1
  have f0 := hN.out.nb.free 0
  have f1 := hN.out.nb.free 1
  go_cut [26] from 20 to 26 (fun _ W => Hid (ND w W o a c B (gar o.n : Nat) (ghv o.n : Nat) es n))
  case first =>
    go_region_with (first
      | (go_at_call 57; (with_reducible refine (AR _).mono ?_); rintro e w1 ⟨rfl, hB1⟩; (first | (have hM1 := hN.out.on hB1) | (have hM1 := hN.out.on (btr (below_drew (Below.refl _ _)) hB1)) | (have hM1 := hM2.on hB1) | (have hM1 := hM2.on (btr (below_drew (Below.refl _ _)) hB1))); have e1 : w1.cell? ⟨w.heap.size, 1, none⟩ = some (.string o.n) := hM1.box.cell 1; have e2 := hM1.box.lt; have e3 := hM1.nb.lt; have e4 : w1.cell? ⟨w.heap.size + 1 + 1, 0, none⟩ = some (.int .i64 0) := hM1.nb.cell 0; have e5 : w1.cell? ⟨w.heap.size + 1 + 1, 1, none⟩ = some (.int .i64 0) := hM1.nb.cell 1; have e6 := hM1.nb.free 0; have e7 := hM1.nb.free 1)
      | (go_at_call 58; (with_reducible refine (HV _).mono ?_); rintro e w2 ⟨rfl, hB2⟩; (first | (have hM2 := hN.out.on hB2) | (have hM2 := hN.out.on (btr (below_drew (Below.refl _ _)) hB2)) | (have hM2 := hM1.on hB2) | (have hM2 := hM1.on (btr (below_drew (Below.refl _ _)) hB2))); have g1 : w2.cell? ⟨w.heap.size, 1, none⟩ = some (.string o.n) := hM2.box.cell 1; have g2 := hM2.box.lt; have g3 := hM2.nb.lt; have g4 : w2.cell? ⟨w.heap.size + 1 + 1, 0, none⟩ = some (.int .i64 0) := hM2.nb.cell 0; have g5 : w2.cell? ⟨w.heap.size + 1 + 1, 1, none⟩ = some (.int .i64 0) := hM2.nb.cell 1; have g6 := hM2.nb.free 0; have g7 := hM2.nb.free 1))
    all_goals
      go_wp2
      go_meet
      case rel => first | exact hM2.put hlt _ _ | exact hM1.put hlt _ _ | exact (hM2.on (below_drew (Below.refl _ _))).put hlt _ _ | exact (hM1.on (below_drew (Below.refl _ _))).put hlt _ _
  case rest =>
    clear c1 l0 l2 d0 d1 f0 f1 hN
    have hL := run_learn wc B es n o.n (ndv (gar o.n) (ghv o.n)) hcut.out.map HF.out
    have c1 : wc.cell? ⟨w.heap.size, 1, none⟩ = some (.string o.n) := hcut.out.box.cell 1
    have d0 : wc.cell? ⟨w.heap.size + 1 + 1, 0, none⟩ = some (.int .i64 (gar o.n : Nat)) := hcut.out.nb.cell 0
    have d1 : wc.cell? ⟨w.heap.size + 1 + 1, 1, none⟩ = some (.int .i64 (ghv o.n : Nat)) := hcut.out.nb.cell 1
    have l0 := hcut.out.box.lt
    have l2 := hcut.out.nb.lt
    have G := learnt_gb wc B (.map (es.push ⟨.string o.n, ndv (gar o.n) (ghv o.n), n⟩) (n + 1))
    have KN : Hid (KM (learnt wc B (.map (es.push ⟨.string o.n, ndv (gar o.n) (ghv o.n), n⟩) (n + 1))) B) := KM.learn hcut.out.map HE.out o.n
    generalize hX : learnt wc B (.map (es.push ⟨.string o.n, ndv (gar o.n) (ghv o.n), n⟩) (n + 1)) = X at *
    have b2 : BK X (w.heap.size + 1 + 1) _ _ := gb_bk G hcut.out.nb (by omega)
    have b1 : BK X (w.heap.size + 1) _ _ := gb_bk G hcut.out.res (by omega)
    have x0 : X.cell? ⟨w.heap.size + 1 + 1, 0, none⟩ = some (.int .i64 (gar o.n : Nat)) := b2.cell 0
    have x1 : X.cell? ⟨w.heap.size + 1 + 1, 1, none⟩ = some (.int .i64 (ghv o.n : Nat)) := b2.cell 1
    have y0 : X.cell? ⟨w.heap.size + 1, 0, none⟩ = some (.int .i64 0) := b1.cell 0
    have y1 : X.cell? ⟨w.heap.size + 1, 1, none⟩ = some (.int .i64 0) := b1.cell 1
    have z0 := b1.free 0
    have z1 := b1.free 1
    have z2 := b1.lt
    have z3 := b2.lt
    have HG : Hid (GB w X B) := gb_trans ⟨hcut.out.below.os, hcut.out.below.tape, hcut.out.below.output, hcut.out.below.size, fun k hk _ => hcut.out.below.block k hk⟩ G
    clear hX G
    go_wp2
    refine bodyPost_ret (v := ndv (gar o.n) (ghv o.n)) (by simp [results, Try.results52, go_sem, *]) rfl ⟨rfl, ?_, ?_⟩
    · exact (KN.out.set _ _ _ (by omega)).set _ _ _ (by omega)
    · exact gb_set (gb_set HG.out _ _ _ (.inr (by omega))) _ _ _ (.inr (by omega))
end Go.Proofs.Ytinkdonaedoojaa.CL
