/-
  Marks of operations: put.
-/
import Derived.Test.YtfaoegiignalkaaE1
namespace Go.Proofs.Ytfaoegiignalkaa
open Go.RowKit Go.Sort

def setN (f : Nat → Nat) (j v : Nat) : Nat → Nat := fun i => if i = j then v else f i
def putQ (v : Nat) : (Nat → Nat) → List Int → Nat → Nat
  | f, [] => f
  | f, q :: l => putQ v (setN f q.toNat (v + 1)) l
def putR (f : Nat → Nat) (m : Int) (v : Nat) : Nat → Nat → Nat
  | 0 => f
  | k + 1 => if rdB m k = true then setN (putR f m v k) (128 + k) (max (putR f m v k (128 + k)) (v + 1)) else putR f m v k
def putB (f : Nat → Nat) (o : Oq) (v : Nat) : Nat → Nat := if o.k = 2 then setN f (64 + o.b.toNat) (v + 1) else f
def putC (f : Nat → Nat) (o : Oq) (v : Nat) : Nat → Nat := if o.k = 1 then f else setN f 192 (v + 1)
/-- The marks behind an operation of the value v. -/
def putM (f : Nat → Nat) (o : Oq) (v : Nat) : Nat → Nat := putC (putB (putR (putQ v f o.qs) o.m v 64) o v) o v
theorem putQ_snoc (v : Nat) : ∀ (f : Nat → Nat) (l : List Int) (q : Int), putQ v f (l ++ [q]) = setN (putQ v f l) q.toNat (v + 1)
  | _, [], _ => rfl
  | _, _ :: l, q => putQ_snoc v _ l q
theorem setN_le {f : Nat → Nat} {j v M : Nat} (h : ∀ i, f i ≤ M) (hv : v ≤ M) : ∀ i, setN f j v i ≤ M := fun i => by
  unfold setN
  split
  · exact hv
  · exact h i
theorem putQ_le {v M : Nat} (hv : v + 1 ≤ M) : ∀ (f : Nat → Nat) (l : List Int), (∀ i, f i ≤ M) → ∀ i, putQ v f l i ≤ M
  | _, [], h, i => h i
  | _, _ :: l, h, i => putQ_le hv _ l (setN_le h hv) i
theorem putR_le {f : Nat → Nat} {m : Int} {v M : Nat} (hv : v + 1 ≤ M) (h : ∀ i, f i ≤ M) : ∀ k i, putR f m v k i ≤ M
  | 0, i => h i
  | k + 1, i => by
    unfold putR
    split
    · exact setN_le (putR_le hv h k) (by have := putR_le (m := m) hv h k (128 + k); omega) i
    · exact putR_le hv h k i
theorem putM_le {f : Nat → Nat} {o : Oq} {v M : Nat} (hv : v + 1 ≤ M) (h : ∀ i, f i ≤ M) : ∀ i, putM f o v i ≤ M := by
  unfold putM putC putB
  intro i
  have h1 := putR_le (m := o.m) hv (putQ_le hv f o.qs h) 64
  by_cases h2 : o.k = 2
  · rw [if_neg (by omega), if_pos h2]
    exact setN_le (setN_le h1 hv) hv i
  · rw [if_neg h2]
    split
    · exact h1 i
    · exact setN_le h1 hv i
theorem MK.set {W : World} {B : Nat} {f : Nat → Nat} (h : MK W B f) (j v : Nat) : MK (W.setCell ⟨B, j, none⟩ (.int .i64 (v : Nat))) B (setN f j v) := by
  refine ⟨fun i hi => ?_, fun i => by simp; exact h.fz i, by simp [World.setCell]; exact h.lt, by obtain ⟨cs, e⟩ := h.ty; exact ⟨_, e.set j _⟩⟩
  unfold setN
  by_cases e : i = j
  · subst e
    rw [if_pos rfl, World.cell?_setCell_same' _ _ _ (by rw [h.c i hi]; rfl)]
  · rw [if_neg e, World.cell?_setCell_other _ _ _ _ (fun e' => e (by injection e' with _ e'; exact e'.symm)), h.c i hi]
theorem mxS (s v : Nat) : (if (s : Int) < (v : Int) + 1 then (v : Int) + 1 else (s : Int)) = ((max s (v + 1) : Nat) : Int) := by
  by_cases h : s < v + 1
  · rw [if_pos (by omega)]; omega
  · rw [if_neg (by omega)]; omega
/-- put's own: the operation's box, the marks. -/
structure PU (w W : World) (B : Nat) (o : Oq) (a : Option Addr) (c : Nat) (g : Nat → Nat) : Prop where
  gb : GB w W B
  box : BK W w.heap.size (opc o a c).toArray 57
  ms : MK W B g
theorem PU.on {w W W' : World} {B : Nat} {o : Oq} {a : Option Addr} {c : Nat} {g : Nat → Nat} (h : PU w W B o a c g) (hb : Below W.heap.size W W') : PU w W' B o a c g :=
  ⟨gb_below h.gb hb, (hb.block _ h.box.lt).trans h.box, h.ms.below hb⟩
theorem PU.set {w W : World} {B : Nat} {o : Oq} {a : Option Addr} {c : Nat} {g : Nat → Nat} (h : PU w W B o a c g) (hB : B < w.heap.size) (j v : Nat) : PU w (W.setCell ⟨B, j, none⟩ (.int .i64 (v : Nat))) B o a c (setN g j v) :=
  ⟨gb_set h.gb _ _ _ (.inl rfl), h.box.far (by omega) _ _, h.ms.set j v⟩
theorem gb_ri {W W' : World} {B b o : Nat} {l : List Int} (h : RI W b o l) (g : GB W W' B) (hne : b ≠ B) : RI W' b o l := by
  have e := g.block b h.lt (fun e => hne (Option.some.inj e))
  refine ⟨fun j hj => ?_, Nat.lt_of_lt_of_le h.lt g.size⟩
  have := h.c j hj
  unfold World.cell? at this ⊢
  simp only at this ⊢
  rw [e]
  exact this
set_option maxHeartbeats 2000000 in
set_option maxRecDepth 100000 in
theorem put_any (o : Oq) (a : Option Addr) (c B v : Nat) (f : Nat → Nat) (w : World) (hM : MK w B f) (ho : Okay o) (hq : QS w a c o.qs) (hb : ∀ j, f j ≤ 4611686018427387904) (hv : v + 1 ≤ 4611686018427387904)
    (hne : ∀ b' o', 0 < o.qs.length → a = some ⟨b', o', none⟩ → b' ≠ B) :
    Calls Try.prog 44 #[.pointer (some ⟨B, 0, none⟩), opv o a c, .int .i64 v] w fun e w' => e = .returned (.tuple #[]) ∧ GB w w' B ∧ MK w' B (putM f o v) := by
  have RD := fun k w hk => reads_any o a c k w ho.fit hk
  have CO := fun w => coin_any o a c w
  have hBl := hM.lt
  have HQ : Hid (QS w a c o.qs) := hq
  have HO : Hid (Okay o) := ho
  have hl := ho.fit.l
  have HF : Hid (∀ j, f j ≤ 4611686018427387904) := hb
  have HNE : Hid (∀ b' o', 0 < o.qs.length → a = some ⟨b', o', none⟩ → b' ≠ B) := hne
  have hcap := hq.cap
  have HP0 : Hid (PU w (w.alloc (.cells (opc o a c).toArray 57)) B o a c f) := ⟨gb_alloc (gb_refl _ _) _, bk_new _ _ _, hM.below (bal (Below.refl _ _) _)⟩
  obtain ⟨G, hG⟩ : ∃ G, putM f o v = G := ⟨_, rfl⟩
  rw [hG]
  have HG : Hid (putM f o v = G) := hG
  clear hM hq ho hb hne hG
  go_enter Try.func44, Try.ntmps44
  go_wp2
  go_loopw [12] (fun v12 wr => ∃ k : Nat, k ≤ o.qs.length ∧ v12 = .int .i64 k ∧ Hid (PU w wr B o a c (putQ v f (o.qs.take k)))) (fun v12 _ => o.qs.length - (intOf v12).toNat)
  case atStart => exact ⟨0, Nat.zero_le _, rfl, HP0⟩
  case round =>
    clear HP0
    obtain ⟨k, hk, rfl, hP⟩ := hrel
    have qO : ∀ j, wr.cell? ⟨w.heap.size, j, none⟩ = _ := hP.out.box.cell
    have zO := hP.out.box.lt
    have zB := hP.out.ms.lt
    by_cases hlt : k < o.qs.length
    · obtain ⟨b', o', rfl, r0⟩ := HQ.out.at_ k hlt
      have r := gb_ri r0 hP.out.gb (HNE.out b' o' (by omega) rfl)
      have c0 := r.c k hlt
      have hbl := r.lt
      obtain ⟨q0, q1⟩ := HO.out.q0 k hlt
      obtain ⟨q, hq⟩ : ∃ q : Nat, o.qs[k] = (q : Int) := ⟨o.qs[k].toNat, by omega⟩
      have hS2 : putQ v f (o.qs.take (k + 1)) = setN (putQ v f (o.qs.take k)) q (v + 1) := by rw [List.take_succ_eq_append_getElem hlt, putQ_snoc, hq]; rfl
      rw [hq] at c0 q0 q1
      have hq64 : q < 64 := by omega
      have mq := hP.out.ms.c q (by omega)
      have mf := hP.out.ms.fz q
      have HS2 : Hid (putQ v f (o.qs.take (k + 1)) = setN (putQ v f (o.qs.take k)) q (v + 1)) := hS2
      clear hS2 hq r0 r
      go_wp2
      go_roundw
      case rel => exact ⟨k + 1, by omega, by go_num, by rw [HS2.out]; exact hP.out.set hBl q (v + 1)⟩
      case measure => simp [intOf]; omega
    obtain rfl : k = o.qs.length := by omega
    have HS : Hid (putQ v f (o.qs.take o.qs.length) = putQ v f o.qs) := by show _ = _; rw [List.take_length]
    have HP1 : Hid (PU w wr B o a c (putQ v f o.qs)) := by show PU _ _ _ _ _ _ _; rw [← HS.out]; exact hP.out
    have HF1 : Hid (∀ j, putQ v f o.qs j ≤ 4611686018427387904) := putQ_le hv f o.qs HF.out
    have HG1 : Hid (putC (putB (putR (putQ v f o.qs) o.m v 64) o v) o v = G) := HG.out
    clear hP HS qO zO zB
    generalize putQ v f o.qs = g at *
    go_wp2
    go_loopw [24] (fun v24 wr => ∃ k : Nat, k ≤ 64 ∧ v24 = .int .i64 k ∧ Hid (PU w wr B o a c (putR g o.m v k))) (fun v24 _ => 64 - (intOf v24).toNat)
    case atStart => exact ⟨0, by omega, rfl, HP1⟩
    case round =>
      clear HP1
      obtain ⟨k, hk, rfl, hP⟩ := hrel
      have qO : ∀ j, wr.cell? ⟨w.heap.size, j, none⟩ = _ := hP.out.box.cell
      have zO := hP.out.box.lt
      have zB := hP.out.ms.lt
      by_cases hlt : k < 64
      · have RK := fun w => RD k w hlt
        have hT2 : putR g o.m v (k + 1) = if rdB o.m k = true then setN (putR g o.m v k) (128 + k) (max (putR g o.m v k (128 + k)) (v + 1)) else putR g o.m v k := rfl
        have hfq := putR_le (m := o.m) hv HF1.out k (128 + k)
        have HMK : Hid (∀ W, Below wr.heap.size wr W → MK W B (putR g o.m v k)) := fun W h => hP.out.ms.below h
        cases hr : rdB o.m k with
        | true =>
          rw [hr] at RK hT2
          have HT2 : Hid (putR g o.m v (k + 1) = setN (putR g o.m v k) (128 + k) (max (putR g o.m v k (128 + k)) (v + 1))) := hT2
          clear hT2
          generalize putR g o.m v k = h at *
          go_upto_region 10 with (go_at_call 58; (with_reducible refine (RK _).mono ?_); rintro e w2 ⟨rfl, hB2⟩; have mq := (HMK.out _ hB2).c (128 + k) (by omega); have mf := (HMK.out _ hB2).fz (128 + k); have mz := (HMK.out _ hB2).lt)
          generalize hfv : h (128 + k) = fv at *
          go_region
          rw [mxS]
          have HP2 : Hid (PU w ((w2.setCell ⟨B, 128 + k, none⟩ (.int .i64 (max fv (v + 1) : Nat))).drew) B o a c (putR g o.m v (k + 1))) := by
            show PU _ _ _ _ _ _ _
            rw [HT2.out]
            exact ((hP.out.on hB2).set hBl (128 + k) (max fv (v + 1))).on (below_drew (Below.refl _ _))
          generalize (w2.setCell ⟨B, 128 + k, none⟩ (.int .i64 (max fv (v + 1) : Nat))).drew = w3 at *
          clear HT2 hfv
          go_wp2
          go_roundw
          case rel => exact ⟨k + 1, by omega, by go_num, HP2⟩
          case measure => simp [intOf]; omega
        | false =>
          rw [hr] at RK hT2
          have HT2 : Hid (putR g o.m v (k + 1) = putR g o.m v k) := hT2
          clear hT2
          go_wp2_with (go_at_call 58; (with_reducible refine (RK _).mono ?_); rintro e w2 ⟨rfl, hB2⟩)
          go_roundw
          case rel => exact ⟨k + 1, by omega, by go_num, by rw [HT2.out]; exact hP.out.on hB2⟩
          case measure => simp [intOf]; omega
      obtain rfl : k = 64 := by omega
      generalize putR g o.m v 64 = h at *
      by_cases hk2 : o.k = 2
      · obtain ⟨q0, q1⟩ := HO.out.b0 hk2
        obtain ⟨q, hq⟩ : ∃ q : Nat, o.b = (q : Int) := ⟨o.b.toNat, by omega⟩
        have hq64 : q < 64 := by omega
        have HG2 : Hid (G = setN (setN h (64 + q) (v + 1)) 192 (v + 1)) := by show _ = _; rw [← HG1.out]; unfold putC putB; rw [if_neg (by omega), if_pos hk2, hq]; rfl
        have hk2b : (o.k == 2) = true := by simpa using hk2
        have hk1b : (o.k != 1) = true := by rw [hk2]; decide
        rw [hk1b] at CO
        have CO2 : ∀ w, Calls Try.prog 59 #[.agg #[.int .i64 o.k, .string o.n, .slice a o.qs.length c, .int .i64 (q : Int), .bool o.f, .int .u64 o.m, .int .u64 o.v]] w fun e w' => e = .returned (.bool true) ∧ Below w.heap.size w w' := fun w => by rw [← hq]; exact CO w
        have n3 : ∀ W, BK W w.heap.size (opc o a c).toArray 57 → W.cell? ⟨w.heap.size, 3, none⟩ = some (.int .i64 (q : Int)) := fun W h => by rw [← hq]; exact h.cell 3
        have n3w := n3 _ hP.out.box
        have mq := hP.out.ms.c (64 + q) (by omega)
        have mf := hP.out.ms.fz (64 + q)
        clear hk2 HG1
        go_upto_region 13 with (fail)
        go_region
        have HP2 : Hid (PU w ((wr.setCell ⟨B, 64 + q, none⟩ (.int .i64 ((v : Int) + 1))).drew) B o a c (setN h (64 + q) (v + 1))) := (hP.out.set hBl (64 + q) (v + 1)).on (below_drew (Below.refl _ _))
        generalize (wr.setCell ⟨B, 64 + q, none⟩ (.int .i64 ((v : Int) + 1))).drew = w3 at *
        clear mq mf qO zO zB n3w hP
        have qO : ∀ j, w3.cell? ⟨w.heap.size, j, none⟩ = _ := HP2.out.box.cell
        have n3w := n3 _ HP2.out.box
        have zO := HP2.out.box.lt
        have mq : ∀ W, Below w3.heap.size w3 W → W.frozen? ⟨B, 192, none⟩ = false ∧ B < W.heap.size ∧ ∃ x, W.cell? ⟨B, 192, none⟩ = some (.int .i64 x) := fun W hb => ⟨(HP2.out.ms.below hb).fz 192, (HP2.out.ms.below hb).lt, _, (HP2.out.ms.below hb).c 192 (by omega)⟩
        go_wp2_with (go_at_call 59; (with_reducible refine (CO2 _).mono ?_); rintro e w4 ⟨rfl, hB4⟩; obtain ⟨y1, y2, y3, y4⟩ := mq _ hB4)
        have HP3 := (HP2.out.on hB4).set hBl 192 (v + 1)
        exact bodyPost_end (results_none rfl _ _ _) rfl ⟨rfl, HP3.gb, by rw [HG2.out]; exact HP3.ms⟩
      · have hk2b : (o.k == 2) = false := by simpa using hk2
        have mq : ∀ W, Below wr.heap.size wr W → W.frozen? ⟨B, 192, none⟩ = false ∧ B < W.heap.size ∧ ∃ x, W.cell? ⟨B, 192, none⟩ = some (.int .i64 x) := fun W hb => ⟨(hP.out.ms.below hb).fz 192, (hP.out.ms.below hb).lt, _, (hP.out.ms.below hb).c 192 (by omega)⟩
        by_cases hk1 : o.k = 1
        · have hk1b : (o.k != 1) = false := by simpa using hk1
          rw [hk1b] at CO
          have HG2 : Hid (G = h) := by show _ = _; rw [← HG1.out]; unfold putC putB; rw [if_pos hk1, if_neg hk2]
          clear hk1 hk2 HG1
          go_wp2_with (go_at_call 59; (with_reducible refine (CO _).mono ?_); rintro e w4 ⟨rfl, hB4⟩)
          have HP3 := hP.out.on hB4
          exact bodyPost_end (results_none rfl _ _ _) rfl ⟨rfl, HP3.gb, by rw [HG2.out]; exact HP3.ms⟩
        · have hk1b : (o.k != 1) = true := by simpa using hk1
          rw [hk1b] at CO
          have HG2 : Hid (G = setN h 192 (v + 1)) := by show _ = _; rw [← HG1.out]; unfold putC putB; rw [if_neg hk1, if_neg hk2]
          clear hk1 hk2 HG1
          go_wp2_with (go_at_call 59; (with_reducible refine (CO _).mono ?_); rintro e w4 ⟨rfl, hB4⟩; obtain ⟨y1, y2, y3, y4⟩ := mq _ hB4)
          have HP3 := (hP.out.on hB4).set hBl 192 (v + 1)
          exact bodyPost_end (results_none rfl _ _ _) rfl ⟨rfl, HP3.gb, by rw [HG2.out]; exact HP3.ms⟩
end Go.Proofs.Ytfaoegiignalkaa
