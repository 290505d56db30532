/-
  What the rows' condition on their variables gives: a table of strconv, an error; a world that meets it.
-/
import Derived.Test.YtiepbfeliehjnaaDoorP1
import Derived.ProofKit
import Derived.OpenShut
import Derived.Carry
import Derived.LaidMore
import Derived.LaidOnce
import Derived.LaidSub
import Derived.Lib.LaidTab
import Derived.Stop.Joined
import Derived.Lay
import Derived.Lib.LaidU8
import Derived.Shelf.Vars
import Derived.Test.YtiepbfeliehjnaaDoorQ1
import Derived.Test.YtiepbfeliehjnaaDoorB6
import Derived.Deep.RegionHeld3
import Derived.Laws.MakeOwn
import Derived.ChangeMaps5
import Derived.Deep.Strs
import Derived.Deep.Fields
import Derived.Test.YtiepbfeliehjnaaDoorB1
import Derived.Lib.ItoaLen
import Derived.Test.YtiepbfeliehjnaaDoorRows
namespace Go.Proofs.YtiepbfeliehjnaaDoor
open Go.ChangeShapes Go.WideShapes Go.ChangeAt Go.RowKit Go.Joins

theorem Tryd.own : ownKnob Tryd.prog.godebug = none := by kernel_rfl
theorem Tryd.laidOut : laidOutB Tryd.prog = true := by kernel_rfl
def seatLaid : List (String × DataW Unit) := [("math/bits.deBruijn32tab", Rows.laid_math_bits_deBruijn32tab), ("math/bits.deBruijn64tab", Rows.laid_math_bits_deBruijn64tab), ("internal/strconv.uint64pow10", Rows.laid_internal_strconv_uint64pow10), ("strconv.ErrRange", Rows.laid_strconv_ErrRange), ("strconv.ErrSyntax", Rows.laid_strconv_ErrSyntax)]
theorem laid_tail {P : Program} {W : World} {x : String × DataW Unit} {l : List (String × DataW Unit)} (h : laidMet P (x :: l) W) : laidMet P l W := by
  obtain ⟨ps, hl, hnd, hrows⟩ := h
  obtain ⟨g, t, cs, fuel, p, q, e1, e2, e3, e4, hr, rfl⟩ := hl
  exact ⟨q, hr, hnd.sublist (List.sublist_append_right _ _), fun b off hp => hrows b off ((List.sublist_append_right _ _).subset hp)⟩
theorem ev_of_reads {w : World} {n : String} {nm : String} {d : DataW Unit} (h : Lib.VarReads Tryd.prog w n (.iface nm d)) {g : Nat} (hg : Tryd.prog.globalNamed n = some g) (ht : (Tryd.prog.globals[g]?).map (·.type) = some 99) : Ev w n := by
  obtain ⟨g', t, cs, fuel, p, h1, h2, h3, h4⟩ := h
  obtain rfl := Option.some.inj (hg.symm.trans h1)
  obtain rfl := Option.some.inj (ht.symm.trans h2)
  cases fuel with
  | zero => simp [DataW.trod] at h4
  | succ fuel =>
    simp only [DataW.trod, Tryd.underlying99] at h4
    split at h4
    all_goals first
      | (rename_i u v a b; exact ⟨u, v, h3.trans (congrArg some (Array.toList_inj.1 (show cs.toList = (#[Value.iface u v] : Array Value).toList from b)))⟩)
      | (rename_i a b; cases a; done)
      | (rename_i b; cases b; done)
      | (cases h4; done)
theorem vr_of_laid {W : World} (h0 : laidMetH Tryd.prog seatLaid W) : VR W := by
  rw [MakeChecks.laidMetH_plain _ _ _ (by kernel_rfl)] at h0
  have h' : laidMet Tryd.prog [("math/bits.deBruijn32tab", Rows.laid_math_bits_deBruijn32tab), ("math/bits.deBruijn64tab", Rows.laid_math_bits_deBruijn64tab), ("internal/strconv.uint64pow10", Lib.tabData .u64 Lib.pow10Tab), ("strconv.ErrRange", Rows.laid_strconv_ErrRange), ("strconv.ErrSyntax", Rows.laid_strconv_ErrSyntax)] W := h0
  have h1 := laid_tail h'
  have h2 := laid_tail h1
  exact ⟨Lib.tabIs_of_head (g := 2) (t := 127) (e := 107) (by kernel_rfl) (by kernel_rfl) Tryd.underlying127 Tryd.underlying107 (by kernel_rfl) (by kernel_rfl) h2,
    ev_of_reads (g := 1) (Lib.laidMet.reads h0 (n := "strconv.ErrRange") (d := Rows.laid_strconv_ErrRange) (by simp [seatLaid])) (by kernel_rfl) (by kernel_rfl)⟩
theorem seat_met (os : Os) (args : Array Value) : laidMetH Tryd.prog seatLaid ((World.laidAll Tryd.prog os seatLaid).forCall (fun _ _ => 0) ⟨#[], args, []⟩).memory := by
  rw [MakeChecks.laidMetH_plain _ _ _ (by kernel_rfl)]
  exact laidMet_laidAll _ (by kernel_rfl) (by kernel_rfl)
end Go.Proofs.YtiepbfeliehjnaaDoor
namespace Go.Proofs.YtiepbfeliehjnaaDoor
open Go.RowKit Go.Sort

def wake1 : ByteArray := ⟨#[113, 117, 98, 105, 116, 115, 32, 113, 32, 50, 59, 32, 104, 32, 113, 91, 48, 93, 59]⟩
def wakeT : List Tk := [⟨1, wQubits, 0⟩, ⟨1, ⟨#[113]⟩, 7⟩, ⟨2, ⟨#[50]⟩, 9⟩, ⟨3, ⟨#[59]⟩, 10⟩, ⟨1, ⟨#[104]⟩, 12⟩, ⟨1, ⟨#[113]⟩, 14⟩, ⟨3, ⟨#[91]⟩, 15⟩, ⟨2, ⟨#[48]⟩, 16⟩, ⟨3, ⟨#[93]⟩, 17⟩, ⟨3, ⟨#[59]⟩, 18⟩]
def wakeR : List Rw := [⟨wQubits, ⟨#[113]⟩, [], 2, 0, 0⟩, ⟨wUse, ⟨#[104]⟩, [⟨⟨#[113]⟩, 0⟩], 0, 0, 12⟩]
theorem wake1_pre : it wake1 14 = (19, wakeT) := by kernel_rfl
theorem wake1_out : Out wake1 wakeT 0 0 := .inr (.inl ⟨by decide, ⟨14, wake1_pre⟩, rfl, rfl⟩)
theorem wake1_prog : progP (wake1.size : Nat) (wakeT.length + 1) wakeT = .ok wakeR := by kernel_rfl
theorem wake1_p : POut wake1 wakeR 0 0 := ⟨wakeT, 0, 0, wake1_out, .inr ⟨rfl, .inr ⟨wake1_prog, rfl, rfl⟩⟩⟩
def wake2 : ByteArray := ⟨#[104, 32, 113, 91, 48, 93]⟩
def wakeU : List Tk := [⟨1, ⟨#[104]⟩, 0⟩, ⟨1, ⟨#[113]⟩, 2⟩, ⟨3, ⟨#[91]⟩, 3⟩, ⟨2, ⟨#[48]⟩, 4⟩, ⟨3, ⟨#[93]⟩, 5⟩]
theorem wake2_pre : it wake2 6 = (6, wakeU) := by kernel_rfl
theorem wake2_out : Out wake2 wakeU 0 0 := .inr (.inl ⟨by decide, ⟨6, wake2_pre⟩, rfl, rfl⟩)
theorem wake2_prog : progP (wake2.size : Nat) (wakeU.length + 1) wakeU = .error (6, 101) := by kernel_rfl
theorem wake2_p : POut wake2 [] 6 101 := ⟨wakeU, 0, 0, wake2_out, .inr ⟨rfl, .inl ⟨6, 101, wake2_prog, rfl, rfl, rfl⟩⟩⟩
theorem two_of {vs : List Value} (h : wakeR.length = vs.length) : ∃ x y, vs = [x, y] := by
  match vs, h with
  | [x, y], _ => exact ⟨x, y, rfl⟩
set_option maxHeartbeats 2000000 in
set_option maxRecDepth 100000 in
theorem awake_any (w : World) (hv : VR w) : Calls Tryd.prog 8 #[] w fun e w' => e = .returned (.bool true) ∧ Below w.heap.size w w' := by
  have P1 : Calls Tryd.prog 10 #[.string ⟨#[113, 117, 98, 105, 116, 115, 32, 113, 32, 50, 59, 32, 104, 32, 113, 91, 48, 93, 59]⟩] w fun x w' => ∃ v, x = .returned (.tuple #[v, .int .i64 0, .int .i64 0]) ∧ OR w' w.heap.size v wakeR ∧ Below w.heap.size w w' := parse_any wake1 wakeR 0 0 w (by decide) hv wake1_p
  have P2 : ∀ w1, VR w1 → Calls Tryd.prog 10 #[.string ⟨#[104, 32, 113, 91, 48, 93]⟩] w1 fun x w' => ∃ v, x = .returned (.tuple #[v, .int .i64 6, .int .i64 101]) ∧ OR w' w1.heap.size v [] ∧ Below w1.heap.size w1 w' := fun w1 h => parse_any wake2 [] 6 101 w1 (by decide) h wake2_p
  have HV : Hid (VR w) := hv
  clear hv
  go_enter Tryd.func8, Tryd.ntmps8
  go_wp2_with (first
    | (go_at_call 10; (with_reducible refine P1.mono ?_); rintro e w1 ⟨v1, rfl, hO1, hB1⟩)
    | (go_at_call 10; (with_reducible refine (P2 w1 (HV.out.below hB1)).mono ?_); rintro e w2 ⟨v2, rfl, hO2, hB2⟩; have hS := hO1.sr.below hB2; obtain ⟨a, c, vs, rfl, hc, hvs, hA, hR⟩ := hS; obtain ⟨b, o, rfl, r⟩ := hR 0 (by decide); obtain ⟨v3, v4, rfl⟩ := two_of hvs; obtain ⟨a4, c4, rfl, _, _⟩ := hA 1 (by decide) (by simp); have d0 : w2.cell? ⟨b, o + 3, none⟩ = some (.int .i64 2) := r.c3 0 (by decide); have d1 : w2.cell? ⟨b, o + 6 + 1, none⟩ = some (.string ⟨#[104]⟩) := r.c1 1 (by decide); have d2 : w2.cell? ⟨b, o + 6 + 5, none⟩ = some (.int .i64 12) := r.c5 1 (by decide); have d3 : w2.cell? ⟨b, o + 6 + 2, none⟩ = some (.slice a4 1 c4) := r.c2 1 (by decide) (by simp); have hc2 : 2 ≤ c := hc; have hbl := r.lt; have hK := btr hB1 hB2; clear r hc hR hA hO1 hO2 hB1 hB2 hvs))
  go_ret
  exact ⟨rfl, hK⟩
end Go.Proofs.YtiepbfeliehjnaaDoor
namespace Go.Proofs.YtiepbfeliehjnaaDoor
open Go.RowKit Go.Sort

abbrev wSpare : ByteArray := ⟨#[115, 112, 97, 114, 101]⟩
/-- Arguments with a marked one behind them. -/
structure CA1 (W : World) (v : Value) (l : List Ar) (ga ca : Nat) : Prop where
  e : v = .slice (some ⟨ga, 0, none⟩) l.length ca
  cap : l.length < ca
  ra : RA W ga 0 l
  s0 : W.cell? ⟨ga, l.length * 2, none⟩ = some (.string wSpare)
  s1 : W.cell? ⟨ga, l.length * 2 + 1, none⟩ = some (.int .i64 77)
/-- Rows with a marked one behind them. -/
structure CPD (W : World) (g cap : Nat) (rs : List Rw) (vs : List Value) : Prop where
  cap : rs.length < cap
  len : rs.length = vs.length
  rr : RR W g 0 rs vs
  s : W.cell? ⟨g, rs.length * 6, none⟩ = some (.string wSpare)
  a : ∀ k (h : k < rs.length) (h' : k < vs.length), ∃ ga ca, CA1 W vs[k] rs[k].args ga ca
theorem CA1.below {W W' : World} {v : Value} {l : List Ar} {ga ca : Nat} (h : CA1 W v l ga ca) (hb : Below W.heap.size W W') : CA1 W' v l ga ca :=
  ⟨h.e, h.cap, h.ra.below hb, (hb.cell (p := ⟨ga, _, none⟩) h.ra.lt).trans h.s0, (hb.cell (p := ⟨ga, _, none⟩) h.ra.lt).trans h.s1⟩
theorem CPD.below {W W' : World} {g cap : Nat} {rs : List Rw} {vs : List Value} (h : CPD W g cap rs vs) (hb : Below W.heap.size W W') : CPD W' g cap rs vs :=
  ⟨h.cap, h.len, h.rr.below hb, (hb.cell (p := ⟨g, _, none⟩) h.rr.lt).trans h.s, fun k h1 h2 => by obtain ⟨ga, ca, h3⟩ := h.a k h1 h2; exact ⟨ga, ca, h3.below hb⟩⟩
theorem CA1.sa {W : World} {v : Value} {l : List Ar} {ga ca : Nat} (h : CA1 W v l ga ca) : SA W v l := ⟨_, _, h.e, Nat.le_of_lt h.cap, fun _ _ => ⟨ga, 0, rfl, h.ra⟩⟩
theorem CPD.sr {W : World} {g cap : Nat} {rs : List Rw} {vs : List Value} (h : CPD W g cap rs vs) : SR W (.slice (some ⟨g, 0, none⟩) rs.length cap) rs :=
  ⟨_, _, vs, rfl, Nat.le_of_lt h.cap, h.len, fun k h1 h2 => by obtain ⟨ga, ca, h3⟩ := h.a k h1 h2; exact h3.sa, fun _ _ => ⟨g, 0, rfl, h.rr⟩⟩
theorem arg_spare (w : World) : (binOp .neq 61 (.agg #[.string wSpare, .int .i64 77]) (.agg #[.string wSpare, .int .i64 77])).run Tryd.prog w = .ok (.bool false) w := by
  rw [arg_ne]
  simp
set_option maxHeartbeats 4000000 in
set_option maxRecDepth 100000 in
theorem kept_any (rs : List Rw) (g cap : Nat) (vs : List Value) (v : Value) (W : World) (hC : CPD W g cap rs vs) (hS : SR W v rs) (hl : rs.length ≤ 1073741824) (hz : ∀ r ∈ rs, r.args.length ≤ 1099511627776) :
    Calls Tryd.prog 16 #[.slice (some ⟨g, 0, none⟩) rs.length cap, v] W fun e W' => e = .returned (.bool true) ∧ Below W.heap.size W W' := by
  have SM : Calls Tryd.prog 11 #[.slice (some ⟨g, 0, none⟩) rs.length cap, v, .bool true] W fun e w' => e = .returned (.bool true) ∧ Below W.heap.size W w' :=
    (same_any rs rs _ v true W hC.sr hS (by omega) (fun k hk => by have := hz _ (List.getElem_mem hk); omega)).mono fun e w' ⟨⟨b, he, hb⟩, h⟩ => ⟨by rw [he, hb.2 (SameP.refl true rs)], h⟩
  obtain ⟨a2, c2, rfl⟩ : ∃ a c, v = .slice a rs.length c := by obtain ⟨a, c, _, e, _⟩ := hS; exact ⟨a, c, e⟩
  have HC : Hid (CPD W g cap rs vs) := hC
  have HZ : Hid (∀ r ∈ rs, r.args.length ≤ 1099511627776) := hz
  have hcap := hC.cap
  have hgl := hC.rr.lt
  have SL : ∀ w, (Instr.slice 23 (.slice (some ⟨g, 0, none⟩) rs.length cap) none (some (.int .i64 ((rs.length : Int) + 1))) none).run Tryd.prog w = .ok (.slice (some ⟨g, 0, none⟩) (rs.length + 1) cap) w := fun w => by
    rw [run_slice_h w 23 _ rs.length cap (by kernel_rfl) .i64 ((rs.length : Int) + 1) (by omega) (by omega)]
    rw [show Tryd.prog.elem 23 = 45 by kernel_rfl, Tryd.sizeOf45]
    simp only [Result.andThen, sliced, Nat.zero_mul, Nat.sub_zero]
    rw [show ((rs.length : Int) + 1).toNat = rs.length + 1 by omega]
    congr 2
    simp [Addr.add]
  clear hC hS hz
  go_enter Tryd.func16, Tryd.ntmps16
  go_upto_region 4 with (go_at_call 11; (with_reducible refine SM.mono ?_); rintro e w1 ⟨rfl, h1⟩; have hs := (HC.out.below h1).s; have hl1 := (HC.out.below h1).rr.lt)
  have H1 : Hid (Below W.heap.size W w1) := h1
  clear hs hl1 h1
  go_loopw [26] (fun v26 wr => ∃ k : Nat, k ≤ rs.length ∧ v26 = .int .i64 k ∧ Hid (Below W.heap.size W wr)) (fun v _ => rs.length - (intOf v).toNat)
  case atStart => exact ⟨0, Nat.zero_le _, rfl, H1⟩
  case round =>
    clear H1
    obtain ⟨k, hk, rfl, hI⟩ := hrel
    by_cases hlt : k < rs.length
    case neg =>
      obtain rfl : k = rs.length := by omega
      go_wp2
      go_ret
      exact ⟨rfl, hI.out⟩
    case pos =>
    have hD := HC.out.below hI.out
    have hkv : k < vs.length := by rw [← hD.len]; exact hlt
    have m0 := hD.rr.c0 k hlt
    have m1 := hD.rr.c1 k hlt
    have m2 := hD.rr.c2 k hlt hkv
    have m3 := hD.rr.c3 k hlt
    have m4 := hD.rr.c4 k hlt
    have m5 := hD.rr.c5 k hlt
    have ml := hD.rr.lt
    simp only [Nat.zero_add] at m0 m1 m2 m3 m4 m5
    obtain ⟨ga, ca, hA⟩ := hD.a k hlt hkv
    rw [hA.e] at m2
    have s0 := hA.s0
    have s1 := hA.s1
    have sl := hA.ra.lt
    have hac := hA.cap
    have hal := HZ.out _ (List.getElem_mem hlt)
    clear hA hD
    generalize rs[k] = r at *
    obtain ⟨kd, nm, ag, nu, ro, pl⟩ := r
    simp only at m0 m1 m2 m3 m4 m5 s0 s1 hac hal
    have SL2 : ∀ w, (Instr.slice 43 (.slice (some ⟨ga, 0, none⟩) ag.length ca) none (some (.int .i64 ((ag.length : Int) + 1))) none).run Tryd.prog w = .ok (.slice (some ⟨ga, 0, none⟩) (ag.length + 1) ca) w := fun w => by
      rw [run_slice_h w 43 _ ag.length ca (by kernel_rfl) .i64 ((ag.length : Int) + 1) (by omega) (by omega)]
      rw [show Tryd.prog.elem 43 = 61 by kernel_rfl, Tryd.sizeOf61]
      simp only [Result.andThen, sliced, Nat.zero_mul, Nat.sub_zero]
      rw [show ((ag.length : Int) + 1).toNat = ag.length + 1 by omega]
      congr 2
      simp [Addr.add]
    have AS := arg_spare
    have hw : IntKind.i64.wrap ((ag.length : Int) + 1) = (ag.length : Int) + 1 := by simp [IntKind.wrap, IntKind.signed, IntKind.bits]; omega
    have hlt2 : (ag.length : Int) < (ag.length : Int) + 1 := by omega
    have hV : Hid (Below W.heap.size W (wr.alloc (.cells #[.string kd, .string nm, .slice (some ⟨ga, 0, none⟩) ag.length ca, .int .i64 nu, .int .i64 ro, .int .i64 pl] 45))) := bal hI.out _
    go_upto_region 6 with (fail)
    go_quiet (fail)
    go_wp2
    go_roundw
    case rel => exact ⟨k + 1, by omega, by go_num, below_drewN hV.out _⟩
    case measure => simp [intOf]; omega
end Go.Proofs.YtiepbfeliehjnaaDoor
namespace Go.Proofs.YtiepbfeliehjnaaDoor
open Go
section
variable {P : Program} {ops : Array Oper} {Q : Exit → Act → World → Prop} {md : Region.Mode} {S : World → Prop} {z : Nat}
/-- Whatever comes up next; S holds behind it, if it isn't number z. -/
def zAny (P : Program) (md : Region.Mode) (ops : Array Oper) (Q : Exit → Act → World → Prop) (z : Nat) (S : World → Prop) : Nat → Array Bool → Act → World → Prop
  | 0, l, a, w => Region.ready md ops l = [] ∧ Q .normal a w
  | f + 1, l, a, w => (Region.ready md ops l = [] → Q .normal a w) ∧ ∀ i ∈ Region.ready md ops l, wpOp P ops Q i (fun a' w' => (i ≠ z → S w') ∧ zAny P md ops Q z S f (l.setIfInBounds i true) a' w') a w
theorem any_of_z : ∀ (f : Nat) (l : Array Bool) (a : Act) (w : World), zAny P md ops Q z S f l a w → wpAny P md ops Q f l a w
  | 0, _, _, _, h => h
  | f + 1, _, _, _, h => ⟨h.1, fun i hi => wpOp_mono (fun _ _ h' => any_of_z f _ _ _ h'.2) (h.2 i hi)⟩
/-- What number z waits for may be taken first where it yields in every world that meets S. -/
theorem zAny_first {i : Nat} {oi : Oper} {v : Value} (hi : ops[i]? = some oi) (hsel : ∀ (j : Nat) (o : Oper) cs b, ops[j]? = some o → o.op ≠ .select cs b)
    (hQ : ∀ c a w, Q (.panic c) (a.put oi.dst v) w → Q (.panic c) a w)
    (hz : ∀ oz, ops[z]? = some oz → ∃ e ∈ oz.after, Region.binds md e = true ∧ e.on = i) (f : Nat) :
    ∀ (l : Array Bool) (a : Act) (w : World),
      (∀ j oj, ops[j]? = some oj → j ≠ i → l.getD j true = false → (∀ e ∈ oj.after, Region.binds md e = true → e.on ≠ i) → oi.apart ops oj = true) →
      i ∈ Region.ready md ops l → YieldsIf P ops S oi v a → S w →
      zAny P md ops Q z S f (l.setIfInBounds i true) (a.put oi.dst v) w → zAny P md ops Q z S (f + 1) l a w := by
  induction f with
  | zero =>
    intro l a w _ hr hy hS H
    refine ⟨fun h => (by rw [h] at hr; cases hr), fun j hj => ?_⟩
    by_cases hji : j = i
    · cases hji
      exact hy.wpOp hi hS ⟨fun _ => hS, H⟩
    · exact absurd (ready_mono hj hji) (by rw [H.1]; exact List.not_mem_nil)
  | succ f ih =>
    intro l a w hfree hr hy hS H
    refine ⟨fun h => (by rw [h] at hr; cases hr), fun j hj => ?_⟩
    by_cases hji : j = i
    · cases hji
      exact hy.wpOp hi hS ⟨fun _ => hS, H⟩
    obtain ⟨hjun, oj, hoj, hall⟩ := mem_ready.1 hj
    have hnot : ∀ e ∈ oj.after, Region.binds md e = true → e.on ≠ i := fun e he hb heq => by
      have h1 := hall e he hb
      have h0 := (mem_ready.1 hr).1
      rw [heq] at h1
      rcases Nat.lt_or_ge i l.size with h' | h'
      · simp [h'] at h0 h1
        rw [h0] at h1
        cases h1
      · simp [Array.getElem?_eq_none h'] at h1
    have hjz : j ≠ z := fun e => by
      obtain ⟨e', he', hb', ho'⟩ := hz oj (by rw [← e]; exact hoj)
      exact hnot e' he' hb' ho'
    have h2 := wpOp_putIf hoj (hfree j oj hoj hji hjun hnot) (fun cs b => hsel i oi cs b hi) (fun cs b => hsel j oj cs b hoj) hQ hy (H.2 j (ready_mono hj hji))
    refine wpOp_mono (fun a' w' h3 => ⟨h3.2.1, ih (l.setIfInBounds j true) a' w' (fun k ok hk hki hun hno => ?_) (ready_mono hr (Ne.symm hji)) h3.1 (h3.2.1 hjz) ?_⟩) h2
    · refine hfree k ok hk hki ?_ hno
      by_cases hjk : j = k
      · cases hjk
        exact hjun
      · rwa [getD_set_ne true hjk] at hun
    · rw [Array.setIfInBounds_comm _ _ hji]
      exact h3.2.2
/-- Number z waits for number i. -/
def waits (md : Region.Mode) (ops : Array Oper) (z i : Nat) : Bool := match ops[z]? with | some o => o.after.any (fun e => Region.binds md e && e.on == i) | none => true
theorem waits_spec {i : Nat} (h : waits md ops z i = true) : ∀ oz, ops[z]? = some oz → ∃ e ∈ oz.after, Region.binds md e = true ∧ e.on = i := fun oz ho => by
  simp only [waits, ho, Array.any_eq_true'] at h
  obtain ⟨e, he, h⟩ := h
  simp only [Bool.and_eq_true, beq_iff_eq] at h
  exact ⟨e, he, h⟩
theorem zAny_take {i : Nat} {oi : Oper} {v : Value} {f : Nat} {l : Array Bool} {a : Act} {w : World} (hi : ops[i]? = some oi)
    (hs : Region.noSelect ops = true) (hf : Region.free md ops l i = true) (hr : (Region.ready md ops l).contains i = true) (hwt : waits md ops z i = true)
    (hQ : ∀ c a w, Q (.panic c) (a.put oi.dst v) w → Q (.panic c) a w) (hy : YieldsIf P ops S oi v a) (hS : S w)
    (h : zAny P md ops Q z S f (l.setIfInBounds i true) (a.put oi.dst v) w) : zAny P md ops Q z S (f + 1) l a w :=
  zAny_first hi (Region.noSelect_spec hs) hQ (waits_spec hwt) f l a w (Region.free_spec hi hf) (by simpa using hr) hy hS h
def zReady (P : Program) (md : Region.Mode) (ops : Array Oper) (Q : Exit → Act → World → Prop) (z : Nat) (S : World → Prop) (f : Nat) (l : Array Bool) (a : Act) (w : World) (rs : List Nat) : Prop :=
  ∀ i ∈ rs, wpOp P ops Q i (fun a' w' => (i ≠ z → S w') ∧ zAny P md ops Q z S f (l.setIfInBounds i true) a' w') a w
theorem zReady.nil {f : Nat} {l : Array Bool} {a : Act} {w : World} : zReady P md ops Q z S f l a w [] := fun _ h => by cases h
theorem zReady.cons {f : Nat} {l : Array Bool} {a : Act} {w : World} {i : Nat} {o : Oper} {rs : List Nat} (ho : ops[i]? = some o)
    (h : ∀ K' : Act → World → Prop, Shut (∀ a w, (i ≠ z → S w) → ((i ≠ z → S w) → zAny P md ops Q z S f (l.setIfInBounds i true) a w) → K' a w) → if Region.wanted o (yielded ops a.tmps) = true then Oper.wp P o a w K' Q else K' (a.put o.dst undef) w)
    (hs : zReady P md ops Q z S f l a w rs) : zReady P md ops Q z S f l a w (i :: rs) := fun j hj => by
  rcases List.mem_cons.1 hj with rfl | hj
  · exact wpOp_step ho (fun K' hK => h K' (fun a w hS hW => hK a w ⟨hS, hW hS⟩))
  · exact hs j hj
theorem zAny_ready {rs : List Nat} {f : Nat} {l : Array Bool} {a : Act} {w : World} (hr : Region.ready md ops l = rs) (hne : rs ≠ []) (h : zReady P md ops Q z S f l a w rs) : zAny P md ops Q z S (f + 1) l a w :=
  ⟨fun h0 => absurd (hr ▸ h0) hne, hr ▸ h⟩
theorem zAny_done {l : Array Bool} {a : Act} {w : World} (hr : Region.ready md ops l = []) (h : Q .normal a w) : ∀ f, zAny P md ops Q z S f l a w
  | 0 => ⟨hr, h⟩
  | _ + 1 => ⟨fun _ => h, by rw [hr]; simp⟩
theorem region_z {id : Nat} {a : Act} {w : World} (z : Nat) (hm : P.follows .mixedOrders = true) (hS : S w.drew)
    (h : S w.drew → zAny P .any ops Q z S ops.size (Array.replicate ops.size false) a w.drew) : (Code.region id ops true).wp P Q a w :=
  wp_region_any hm (any_of_z _ _ _ _ (h hS))
end
end Go.Proofs.YtiepbfeliehjnaaDoor
namespace Go.Proofs.YtiepbfeliehjnaaDoor
open Go.RowKit Go.Sort

theorem made_rows (n : Nat) (hn : n ≤ 1073741824) : ∃ Z : Array Value, Z.size = n * 6 ∧ ∀ w : World, (Instr.makeSlice 23 (.int .i64 0) (.int .i64 (n : Int))).run Tryd.prog w = .ok (.slice (some ⟨w.heap.size, 0, none⟩) 0 n) (w.alloc (.cells Z 45)) := by
  obtain ⟨i, hi, hz, hs, hb⟩ := info_parts Tryd.info45
  refine ⟨madeCells zRow.cells (n * 6), size_madeCells _ _, fun w => ?_⟩
  have := run_make (P := Tryd.prog) (w := w) 23 45 i _ Tryd.underlying23 hi hz .i64 .i64 0 n (by omega) (by omega) (by rw [hb]; omega) (by omega)
  rw [hs] at this
  simpa using this
theorem own_made {W : World} {B g n : Nat} {Z : Array Value} (hZ : Z.size = n * 6) (hn : n ≤ 1073741824) (hb : B ≤ g) (hg : BK W g Z 45) : W.ownsRow B 45 6 (.slice (some ⟨g, 0, none⟩) 0 n) 0 [] :=
  ⟨rfl, .inr ⟨g, n, Z, rfl, hb, hg, Nat.zero_le _, by unfold maxLen; omega, hZ, rfl⟩⟩
theorem own_no {W : World} {B b : Nat} (hb : b = W.heap.size) (hB : B ≤ b) : (W.alloc (.cells #[] 61)).ownsRow B 61 2 (.slice (some ⟨b, 0, none⟩) 0 0) 0 [] := by
  subst hb
  exact ⟨rfl, .inr ⟨W.heap.size, 0, #[], rfl, hB, heap_alloc_new W _, Nat.le_refl _, by unfold maxLen; omega, rfl, rfl⟩⟩
/-- A copied list of arguments, as it was just made. -/
def CAo (W : World) (B : Nat) (v : Value) (l : List Ar) : Prop := ∃ ga ca, v = .slice (some ⟨ga, 0, none⟩) l.length ca ∧ W.ownsRow B 61 2 (.slice (some ⟨ga, 0, none⟩) (l.length + 1) ca) (l.length + 1) (ars l ++ arc ⟨wSpare, 77⟩)
/-- Within copied: the rows so far. -/
structure CI (W wr : World) (rs : List Rw) (k : Nat) (v : Value) (vs : List Value) : Prop where
  below : Below W.heap.size W wr
  len : vs.length = k
  own : wr.ownsRow W.heap.size 45 6 v k (rws (rs.take k) vs)
  a : ∀ j (_ : j < k) (h : j < rs.length) (h' : j < vs.length), CAo wr W.heap.size vs[j] rs[j].args
theorem ars_cells {V : World} {ab ao : Nat} {ag : List Ar} (hraV : RA V ab ao ag) : ∀ j u, (ars ag)[j]? = some u → V.cell? ((⟨ab, ao, none⟩ : Addr).add j) = some u := fun j u hj => by
  rw [WideShapes.add_plain]
  have hjl : j < (ars ag).length := (List.getElem?_eq_some_iff.1 hj).1
  rw [ars_length] at hjl
  obtain ⟨q, hq⟩ : ∃ q, q = j / 2 := ⟨_, rfl⟩
  obtain ⟨e0, e1⟩ := ars_at ag q (by omega)
  rcases Nat.mod_two_eq_zero_or_one j with h | h
  · have e : j = q * 2 := by omega
    rw [e] at hj ⊢
    rw [e0] at hj
    cases hj
    exact hraV.c0 q (by omega)
  · have e : j = q * 2 + 1 := by omega
    rw [e] at hj ⊢
    rw [e1] at hj
    cases hj
    have := hraV.c1 q (by omega)
    rwa [Nat.add_assoc] at this
theorem ars_one (l : List Ar) : ∀ u ∈ ars l, u.oneCell' = true := fun u hu => by
  obtain ⟨t, _, ht⟩ := List.mem_flatMap.1 hu
  exact one_arg t u ht
theorem slice_args (g k n c : Nat) (h : k ≤ n) (h2 : n ≤ c) : ∀ w : World, (Instr.slice 43 (.slice (some ⟨g, 0, none⟩) n c) none (some (.int .i64 (k : Int))) none).run Tryd.prog w = .ok (.slice (some ⟨g, 0, none⟩) k c) w := fun w => by
  rw [run_slice_h w 43 _ n c (by kernel_rfl) .i64 (k : Int) (by omega) (by omega)]
  rw [show Tryd.prog.elem 43 = 61 by kernel_rfl, Tryd.sizeOf61]
  simp only [Result.andThen, sliced, Nat.zero_mul, Nat.sub_zero, Int.toNat_natCast]
  congr 2
  simp [Addr.add]
theorem spare_new {u : World} {b : Nat} (hb : b = u.heap.size) : BK (u.alloc (.cells #[.string wSpare, .int .i64 77] 61)) b #[.string wSpare, .int .i64 77] 61 := by subst hb; exact bk_new _ _ _
theorem spare_kept {u u' : World} {b r : Nat} (hg : u.grownBy u' (some r)) (hne : b ≠ r) (h : BK u b #[.string wSpare, .int .i64 77] 61) : BK u' b #[.string wSpare, .int .i64 77] 61 := (hg.block b h.lt (fun e => hne (Option.some.inj e))).trans h
theorem spare_cells {u : World} {b : Nat} (h : BK u b #[.string wSpare, .int .i64 77] 61) : ∀ j x, (arc ⟨wSpare, 77⟩)[j]? = some x → u.cell? ((⟨b, 0, none⟩ : Addr).add j) = some x := fun j x hj => by
  rw [WideShapes.add_plain, Nat.zero_add]
  have := h.cell j
  rw [this]
  match j, hj with
  | 0, hj => exact hj
  | 1, hj => exact hj
theorem hid0 {p : Prop} (h : p) : Hid p := h
theorem own_lower {W : World} {B B' T c n : Nat} {v : Value} {xs : List Value} (h : W.ownsRow B T c v n xs) (hB : B' ≤ B) : W.ownsRow B' T c v n xs := by
  refine ⟨h.1, ?_⟩
  rcases h.2 with h | ⟨g, cap, cur, e, hb, h⟩
  · exact .inl h
  · exact .inr ⟨g, cap, cur, e, Nat.le_trans hB hb, h⟩
theorem own_far {W : World} {B T c n : Nat} {v : Value} {xs : List Value} (h : W.ownsRow B T c v n xs) (b k : Nat) (x : Value) (hb : b < B) : (W.setCell ⟨b, k, none⟩ x).ownsRow B T c v n xs := by
  refine ⟨h.1, ?_⟩
  rcases h.2 with h | ⟨g, cap, cur, e, hg, hc, h⟩
  · exact .inl h
  · exact .inr ⟨g, cap, cur, e, hg, BK.far hc (by omega) k x, h⟩
theorem own_kind {W : World} {B T c n g : Nat} {v : Value} {xs : List Value} (h : W.ownsRow B T c v n xs) (hv : v.ownBlock = some g) : ∃ cs, W.heap[g]? = some (.cells cs T (0, 0)) := by
  rcases h.2 with ⟨rfl, _⟩ | ⟨g', cap, cur, rfl, _, hc, _⟩
  · cases hv
  · cases hv
    exact ⟨_, hc⟩
theorem CAo.grown {W W' : World} {B : Nat} {v : Value} {l : List Ar} {row : Option Nat} (h : CAo W B v l) (hg : W.grownBy W' row) (hr : ∀ r, row = some r → ∃ cs, W.heap[r]? = some (.cells cs 45 (0, 0))) : CAo W' B v l := by
  obtain ⟨ga, ca, rfl, ho⟩ := h
  refine ⟨ga, ca, rfl, own_kept ho hg (fun g e e2 => ?_)⟩
  obtain ⟨cs, h1⟩ := own_kind ho e
  obtain ⟨cs2, h2⟩ := hr g e2.symm
  rw [h1] at h2
  cases h2
theorem CAo.below {W W' : World} {B : Nat} {v : Value} {l : List Ar} (h : CAo W B v l) (hb : Below W.heap.size W W') : CAo W' B v l := h.grown (grown_of hb) (fun r e => by cases e)
theorem own_first {W : World} {B T c g k : Nat} {v : List Value} (h : W.ownsRow B T c (.slice (some ⟨g, 0, none⟩) 0 k) 0 v) : W.ownsRow B T c (.slice (some ⟨g, 0, none⟩) 0 k) 0 v := h
/-- A row's copied arguments stand, and its box tells of them. -/
theorem mid_of {W wr V w8 : World} {kd nm : ByteArray} {a0 : Value} {nu ro pl : Int} {ag : List Ar} {g8 k8 : Nat} (hWV : Below wr.heap.size wr V) (hVs : V.heap.size = wr.heap.size + 1) (hbt : BK V wr.heap.size #[.string kd, .string nm, a0, .int .i64 nu, .int .i64 ro, .int .i64 pl] 45) (hWS : W.heap.size ≤ wr.heap.size)
    (hown8 : w8.ownsRow V.heap.size 61 2 (.slice (some ⟨g8, 0, none⟩) (ag.length + 1) k8) (ag.length + 1) (ars ag ++ arc ⟨wSpare, 77⟩)) (B8 : Below V.heap.size V w8) :
    Below wr.heap.size wr (w8.setCell ⟨wr.heap.size, 2, none⟩ (.slice (some ⟨g8, 0, none⟩) ag.length k8)) ∧ BK (w8.setCell ⟨wr.heap.size, 2, none⟩ (.slice (some ⟨g8, 0, none⟩) ag.length k8)) wr.heap.size #[.string kd, .string nm, .slice (some ⟨g8, 0, none⟩) ag.length k8, .int .i64 nu, .int .i64 ro, .int .i64 pl] 45 ∧
    CAo (w8.setCell ⟨wr.heap.size, 2, none⟩ (.slice (some ⟨g8, 0, none⟩) ag.length k8)) W.heap.size (.slice (some ⟨g8, 0, none⟩) ag.length k8) ag := by
  refine ⟨bset (btr hWV B8) _ _ _ (Nat.le_refl _), ?_, g8, k8, rfl, own_lower (own_far hown8 _ _ _ (by omega)) (by omega)⟩
  have h : BK w8 wr.heap.size #[.string kd, .string nm, a0, .int .i64 nu, .int .i64 ro, .int .i64 pl] 45 := (B8.block wr.heap.size (by omega)).trans hbt
  exact h.set 2 _
theorem ci_next {W wr w9 w10 : World} {rs : List Rw} {k : Nat} {v v' av : Value} {vs : List Value} {r : Rw} {o : Obj} (hT : rs.take (k + 1) = rs.take k ++ [r]) (hI : CI W wr rs k v vs) (hB : Below wr.heap.size wr w9) (hA : CAo w9 W.heap.size av r.args)
    (hg : (w9.alloc o).grownBy w10 v.ownBlock) (ho : w10.ownsRow W.heap.size 45 6 v' (k + 1) (rws (rs.take k) vs ++ rwc r av)) : CI W w10 rs (k + 1) v' (vs ++ [av]) := by
  have hWS := hI.below.size
  have hL : Below W.heap.size W (w9.alloc o) := bal (btr hI.below hB) o
  have hl := hL.size
  have hbx : Below wr.heap.size wr (w9.alloc o) := bal hB o
  have hkind : ∀ g, v.ownBlock = some g → ∃ cs, (w9.alloc o).heap[g]? = some (.cells cs 45 (0, 0)) := fun g e => own_kind (own_below hI.own hbx) e
  have htl : (rs.take k).length = vs.length := by
    have h1 := congrArg List.length hT
    simp only [List.length_append, List.length_take, List.length_singleton] at h1
    rw [hI.len, List.length_take]
    omega
  have hr : rs[k]? = some r := by
    have h1 : (rs.take (k + 1))[k]? = some r := by
      rw [hT, List.getElem?_append_right (by rw [List.length_take]; omega)]
      rw [htl, hI.len, Nat.sub_self]
      rfl
    rwa [List.getElem?_take_of_lt (by omega)] at h1
  refine ⟨hL.grown hg hl (fun g e => (hI.own.lt g e).1), by simp [hI.len], by rw [hT, rws_put _ _ _ _ htl]; exact ho, fun j hj h h' => ?_⟩
  rcases Nat.lt_or_ge j k with hjk | hjk
  · have hjv : j < vs.length := by rw [hI.len]; exact hjk
    rw [List.getElem_append_left hjv]
    exact ((hI.a j hjk h hjv).below hbx).grown hg hkind
  · have e : j = k := by omega
    subst e
    have e1 : (vs ++ [av])[j] = av := by
      rw [List.getElem_append_right (Nat.le_of_eq hI.len)]
      simp [hI.len]
    have e2 : rs[j] = r := by
      rw [List.getElem?_eq_getElem h] at hr
      exact Option.some.inj hr
    rw [e1, e2]
    exact (hA.below (bal (Below.refl _ _) _)).grown hg hkind
theorem step_nought {w : World} {ops : Array Oper} {o : Oper} {a : Act} {K : Act → World → Prop} {Q : Exit → Act → World → Prop} {E : Prop} (hgd : o.guard = none) (s x : Operand)
    (ho : o.op = .call { callee := .builtin .append, args := #[s, x], argTypes := #[43, 43] }) (a1 b : Option Addr) (n c d : Nat) (hs : a.eval s = .slice a1 n c) (hx : a.eval x = .slice b 0 d) (hn : n ≤ c)
    (h : K (a.put o.dst (.slice a1 n c)) w) : if Region.wanted o (yielded ops a.tmps) = true then Oper.wp Tryd.prog o a w K Q else E := by
  have hw : Region.wanted o (yielded ops a.tmps) = true := by simp [Region.wanted, hgd]
  rw [if_pos hw]
  have hr : (Builtin.append_ #[43, 43] o.type #[.slice a1 n c, .slice b 0 d]).run Tryd.prog w = .ok (.slice a1 n c) w := by
    unfold Builtin.append_
    simp [go_sem]
    rw [if_pos hn]
    cases a1 <;> cases b <;> simp [go_sem]
  unfold Oper.wp execOp
  simp only [ho, resolve, invoke, builtin, Sem.run_bind, Sem.run_pure, Result.andThen_ok, List.map_toArray, List.map_cons, List.map_nil, hs, hx, hr]
  exact h
theorem slice_rows (g k n c : Nat) (h : k ≤ n) (h2 : n ≤ c) : ∀ w : World, (Instr.slice 23 (.slice (some ⟨g, 0, none⟩) n c) none (some (.int .i64 (k : Int))) none).run Tryd.prog w = .ok (.slice (some ⟨g, 0, none⟩) k c) w := fun w => by
  rw [run_slice_h w 23 _ n c (by kernel_rfl) .i64 (k : Int) (by omega) (by omega)]
  rw [show Tryd.prog.elem 23 = 45 by kernel_rfl, Tryd.sizeOf45]
  simp only [Result.andThen, sliced, Nat.zero_mul, Nat.sub_zero, Int.toNat_natCast]
  congr 2
  simp [Addr.add]
theorem ca1_of {W : World} {B : Nat} {v : Value} {l : List Ar} (h : CAo W B v l) : ∃ ga ca, CA1 W v l ga ca := by
  obtain ⟨ga, ca, rfl, ho⟩ := h
  obtain ⟨g, cap, e, hc, _, hcell, _, hl⟩ := own_at ho (Nat.succ_pos _)
  cases e
  have hlen := ars_length l
  have get : ∀ (i : Nat) (x : Value), (ars l ++ arc ⟨wSpare, 77⟩)[i]? = some x → W.cell? ⟨ga, i, none⟩ = some x := fun i x e => by
    obtain ⟨hi, e⟩ := List.getElem?_eq_some_iff.1 e
    rw [hcell i hi, e]
  refine ⟨ga, ca, rfl, hc, ⟨fun j hj => ?_, fun j hj => ?_, hl⟩, ?_, ?_⟩
  · rw [Nat.zero_add]
    refine get _ _ ?_
    rw [List.getElem?_append_left (by omega)]
    exact (ars_at l j hj).1
  · rw [Nat.zero_add]
    refine get _ _ ?_
    rw [List.getElem?_append_left (by omega)]
    exact (ars_at l j hj).2
  · refine get _ _ ?_
    rw [List.getElem?_append_right (by omega), hlen, Nat.sub_self]
    rfl
  · refine get _ _ ?_
    rw [List.getElem?_append_right (by omega), hlen, Nat.add_sub_cancel_left]
    rfl
theorem cpd_of {W wr w9 w10 : World} {rs : List Rw} {v : Value} {vs : List Value} {g cap : Nat} {r : Rw} {av : Value} (hr : r.kind = wSpare) (hI : CI W wr rs rs.length v vs) (hB : Below wr.heap.size wr w9) (hg : w9.grownBy w10 v.ownBlock)
    (ho : w10.ownsRow W.heap.size 45 6 (.slice (some ⟨g, 0, none⟩) (rs.length + 1) cap) (rs.length + 1) (rws (rs.take rs.length) vs ++ rwc r av)) : CPD w10 g cap rs vs := by
  obtain ⟨g', cap', e, hc, _, hcell, _, hl⟩ := own_at ho (Nat.succ_pos _)
  cases e
  rw [List.take_length] at hcell
  have h1 := hI.len.symm
  have hlen := rws_length rs vs h1
  have get : ∀ (i : Nat) (x : Value), (rws rs vs ++ rwc r av)[i]? = some x → w10.cell? ⟨g, i, none⟩ = some x := fun i x e => by
    obtain ⟨hi, e⟩ := List.getElem?_eq_some_iff.1 e
    rw [hcell i hi, e]
  have get0 : ∀ (i : Nat) (x : Value), i < rs.length * 6 → (rws rs vs)[i]? = some x → w10.cell? ⟨g, 0 + i, none⟩ = some x := fun i x hi e => by
    rw [Nat.zero_add]
    refine get i x ?_
    rw [List.getElem?_append_left (by omega)]
    exact e
  have hkind : ∀ g, v.ownBlock = some g → ∃ cs, w9.heap[g]? = some (.cells cs 45 (0, 0)) := fun g e => own_kind (own_below hI.own hB) e
  refine ⟨hc, h1, ⟨?_, ?_, ?_, ?_, ?_, ?_, hl⟩, ?_, fun k hk hk' => ca1_of (((hI.a k hk hk hk').below hB).grown hg hkind)⟩
  · intro j hj; exact get0 _ _ (by omega) (rws_at rs vs h1 j hj (by omega)).1
  · intro j hj; exact get0 _ _ (by omega) (rws_at rs vs h1 j hj (by omega)).2.1
  · intro j hj hj'; exact get0 _ _ (by omega) (rws_at rs vs h1 j hj hj').2.2.1
  · intro j hj; exact get0 _ _ (by omega) (rws_at rs vs h1 j hj (by omega)).2.2.2.1
  · intro j hj; exact get0 _ _ (by omega) (rws_at rs vs h1 j hj (by omega)).2.2.2.2.1
  · intro j hj; exact get0 _ _ (by omega) (rws_at rs vs h1 j hj (by omega)).2.2.2.2.2
  · refine get _ _ ?_
    rw [List.getElem?_append_right (by omega), hlen, Nat.sub_self, ← hr]
    rfl
set_option maxHeartbeats 4000000 in
set_option maxRecDepth 100000 in
theorem copied_any (rs : List Rw) (v : Value) (w W : World) (hS : SR w v rs) (hB : Below w.heap.size w W) (hl : rs.length ≤ 1048576) (hz : ∀ r ∈ rs, r.args.length ≤ 1048576) :
    Calls Tryd.prog 13 #[v] W fun e W' => ∃ g cap vs, e = .returned (.slice (some ⟨g, 0, none⟩) rs.length cap) ∧ CPD W' g cap rs vs ∧ Below W.heap.size W W' := by
  obtain ⟨a, c, vs0, rfl, hc, hv, hA, hR⟩ := hS
  obtain ⟨i6, hi6, hz6, hs6, hb6⟩ := info_parts Tryd.info61
  obtain ⟨i4, hi4, hz4, hs4, hb4⟩ := info_parts Tryd.info45
  have HI6 : Hid (Tryd.prog.info? 61 = some i6 ∧ i6.zero = some zArg ∧ i6.size = 2 ∧ i6.bytes = 24) := ⟨hi6, hz6, hs6, hb6⟩
  have HI4 : Hid (Tryd.prog.info? 45 = some i4 ∧ i4.zero = some zRow ∧ i4.size = 6 ∧ i4.bytes = 80) := ⟨hi4, hz4, hs4, hb4⟩
  obtain ⟨Z, hZ, MK⟩ := made_rows (rs.length + 1) (by omega)
  have HA : Hid (∀ k (h : k < rs.length) (h' : k < vs0.length), SA w vs0[k] rs[k].args) := hA
  have HR : Hid (∀ k, k < rs.length → ∃ b o, a = some ⟨b, o, none⟩ ∧ RR w b o rs vs0) := hR
  have HV : Hid (rs.length = vs0.length) := hv
  have HZ : Hid (∀ r ∈ rs, r.args.length ≤ 1048576) := hz
  have HB : Hid (Below w.heap.size w W) := hB
  have HZZ : Hid (Z.size = (rs.length + 1) * 6) := hZ
  have MK2 : ∀ w : World, (Instr.makeSlice 23 (.int .i64 0) (.int .i64 ((rs.length : Int) + 1))).run Tryd.prog w = .ok (.slice (some ⟨w.heap.size, 0, none⟩) 0 (rs.length + 1)) (w.alloc (.cells Z 45)) := fun w => by
    have := MK w
    rwa [show ((rs.length + 1 : Nat) : Int) = (rs.length : Int) + 1 by omega] at this
  clear hA hR hv hz hB hZ MK hi6 hz6 hs6 hb6 hi4 hz4 hs4 hb4
  go_enter Tryd.func13, Tryd.ntmps13
  go_upto_region 3 with (fail)
  have hC0 : Hid (CI W (W.alloc (.cells Z 45)) rs 0 (.slice (some ⟨W.heap.size, 0, none⟩) 0 (rs.length + 1)) []) := ⟨bal (Below.refl _ _) _, rfl, by rw [List.take_zero]; exact own_made HZZ.out (by omega) (Nat.le_refl _) (bk_new _ _ _), fun j h => absurd h (Nat.not_lt_zero _)⟩
  clear HZZ MK2
  go_loopw [3, 12] (fun v3 v12 wr => ∃ (k : Nat) (vs : List Value), k ≤ rs.length ∧ v12 = .int .i64 k ∧ Hid (CI W wr rs k v3 vs)) (fun _ v _ => rs.length - (intOf v).toNat)
  case atStart => exact ⟨0, [], Nat.zero_le _, rfl, hC0⟩
  case round =>
    clear hC0
    obtain ⟨k, vs, hk, rfl, hI⟩ := hrel
    obtain ⟨av3, cv3, rfl⟩ := own_shape hI.out.own
    by_cases hlt : k < rs.length
    case neg =>
      obtain rfl : k = rs.length := by omega
      have hkb : (rs.length + 1) * 80 ≤ 140737488355328 := by omega
      go_wp2_with (at_builtin; refine wpList_append_own_at _ rfl _ _ 23 rfl W.heap.size 45 i4 zRow 6 80 Tryd.underlying23 HI4.out.1 HI4.out.2.1 HI4.out.2.2.1 HI4.out.2.2.2 rfl (by decide) _ rs.length (rws (rs.take rs.length) vs) rfl (own_below hI.out.own (bal (Below.refl _ _) _)) ⟨_, 0, none⟩ 1 1 (rwc ⟨wSpare, ⟨#[]⟩, [], 0, 0, 0⟩ (.slice none 0 0)) rfl rfl (new_row _ _ rfl ⟨wSpare, ⟨#[]⟩, [], 0, 0, 0⟩ _) (one_row _ _ _ _) (by unfold maxLen; omega) hkb (Nat.le_trans hI.out.below.size (by simp)) ?_; intro v10 w10 hown10 hgrow10 _ hloc10; obtain ⟨g10, k10, rfl, hc10, _⟩ := own_at hown10 (Nat.succ_pos _); have SL10 := slice_rows g10 rs.length (rs.length + 1) k10 (by omega) (by omega))
      go_ret
      exact ⟨g10, k10, vs, rfl, cpd_of rfl hI.out (bal (Below.refl _ _) _) hgrow10 hown10, (bal hI.out.below _).grown hgrow10 (bal hI.out.below _).size (fun g e => (hI.out.own.lt g e).1)⟩
    case pos =>
    have hkv : k < vs0.length := by rw [← HV.out]; exact hlt
    obtain ⟨b, o, rfl, r0⟩ := HR.out k hlt
    have hSA := HA.out k hlt hkv
    have rr := (r0.below HB.out).below hI.out.below
    have m0 := rr.c0 k hlt
    have m1 := rr.c1 k hlt
    have m2 := rr.c2 k hlt hkv
    have m3 := rr.c3 k hlt
    have m4 := rr.c4 k hlt
    have m5 := rr.c5 k hlt
    have ml := rr.lt
    have hal := HZ.out _ (List.getElem_mem hlt)
    have HT : Hid (rs.take (k + 1) = rs.take k ++ [rs[k]]) := List.take_succ_eq_append_getElem hlt
    generalize rs[k] = r at *
    generalize vs0[k] = av at *
    obtain ⟨kd, nm, ag, nu, ro, pl⟩ := r
    simp only at m0 m1 m2 m3 m4 m5 hSA hal
    obtain ⟨aa, ac, rfl, hac, hra⟩ := hSA
    have HRA : Hid (∀ k, k < ag.length → ∃ b o, aa = some ⟨b, o, none⟩ ∧ RA w b o ag) := hra
    clear rr r0 hra
    go_upto_region 5 with (fail)
    obtain ⟨V, hV⟩ : ∃ V, V = wr.alloc (.cells #[.string kd, .string nm, .slice aa ag.length ac, .int .i64 nu, .int .i64 ro, .int .i64 pl] 45) := ⟨_, rfl⟩
    have bV : BK V wr.heap.size #[.string kd, .string nm, .slice aa ag.length ac, .int .i64 nu, .int .i64 ro, .int .i64 pl] 45 := by rw [hV]; exact bk_new _ _ _
    have hWV : Hid (Below wr.heap.size wr V) := by rw [hV]; exact bal (Below.refl _ _) _
    have hVs : V.heap.size = wr.heap.size + 1 := by rw [hV]; simp
    rw [← hV]
    clear hV m0 m1 m2 m3 m4 m5 ml
    have v2 : V.cell? ⟨wr.heap.size, 2, none⟩ = some (.slice aa ag.length ac) := bV.cell 2
    have f2 := bV.free 2
    have vl := bV.lt
    have hbt : BK V wr.heap.size #[.string kd, .string nm, .slice aa ag.length ac, .int .i64 nu, .int .i64 ro, .int .i64 pl] 45 := bV
    clear bV
    have hWS := hI.out.below.size
    rcases Nat.eq_zero_or_pos ag.length with h0 | h0
    · have HN : Hid (ag = []) := List.length_eq_zero_iff.1 h0
      have H0 : Hid (ag.length = 0) := h0
      clear h0
      have OAB : Hid (((V.alloc (.cells #[] 61)).alloc (.cells #[.string wSpare, .int .i64 77] 61)).ownsRow V.heap.size 61 2 (.slice (some ⟨wr.heap.size + 1, 0, none⟩) 0 0) 0 []) := own_below (own_no hVs.symm (by omega)) (bal (Below.refl _ _) _)
      have OC : Hid (((V.alloc (.cells #[.string wSpare, .int .i64 77] 61)).alloc (.cells #[] 61)).ownsRow V.heap.size 61 2 (.slice (some ⟨wr.heap.size + 1 + 1, 0, none⟩) 0 0) 0 []) := own_no (by simp [hVs]) (by omega)
      have SAB : Hid (BK ((V.alloc (.cells #[] 61)).alloc (.cells #[.string wSpare, .int .i64 77] 61)) (wr.heap.size + 1 + 1) #[.string wSpare, .int .i64 77] 61) := spare_new (by simp [hVs])
      have SC : Hid (BK ((V.alloc (.cells #[.string wSpare, .int .i64 77] 61)).alloc (.cells #[] 61)) (wr.heap.size + 1) #[.string wSpare, .int .i64 77] 61) := BK.alloc (spare_new hVs.symm) _
      have DS : V.drew.heap.size = wr.heap.size + 1 := hVs
      have SK : Hid (∀ w', Below V.heap.size V w' → Below V.heap.size V w' ∧ w'.cell? ⟨wr.heap.size, 2, none⟩ = some (.slice aa ag.length ac) ∧ w'.frozen? ⟨wr.heap.size, 2, none⟩ = false) := fun w' h => ⟨h, (h.cell (p := ⟨wr.heap.size, 2, none⟩) vl).trans v2, (h.frozen (p := ⟨wr.heap.size, 2, none⟩) vl).trans f2⟩
      refine wp_region_noPanic ?_
      refine region_z (S := fun w' => Below V.heap.size V w' ∧ w'.cell? ⟨wr.heap.size, 2, none⟩ = some (.slice aa ag.length ac) ∧ w'.frozen? ⟨wr.heap.size, 2, none⟩ = false) 12 (by kernel_rfl) (SK.out _ (below_drew (Below.refl _ _))) (fun hHeld => ?_)
      refine zAny_take (i := 1) (oi := { dst := some 17, op := Op.fieldAddr 45 (Operand.tmp 5) 2, type := 0, pos := "law.go:41", after := #[], guard := none }) (v := ?_) rfl (by kernel_rfl) (by kernel_rfl) (by kernel_rfl) (by kernel_rfl) (fun _ _ _ h => h) (Or.inl ⟨by rfl, ?_⟩) (by assumption) ?_
      rotate_left
      (intro w0 hSw; (try dsimp only at hSw); go_simp; try (with_reducible rfl))
      (try simp only [Act.put, List.setIfInBounds_toArray, List.set_cons_zero, List.set_cons_succ])
      refine zAny_take (i := 2) (oi := { dst := some 18, op := Op.load 43 (Operand.tmp 17), type := 43, pos := "law.go:41", after := #[{ on := 1, ground := Ground.data }], guard := none }) (v := ?_) rfl (by kernel_rfl) (by kernel_rfl) (by kernel_rfl) (by kernel_rfl) (fun _ _ _ h => h) (Or.inl ⟨by rfl, ?_⟩) (by assumption) ?_
      rotate_left
      (intro w0 hSw; (try dsimp only at hSw); go_simp; try (with_reducible rfl))
      (try simp only [Act.put, List.setIfInBounds_toArray, List.set_cons_zero, List.set_cons_succ])
      refine zAny_take (i := 4) (oi := { dst := some 20, op := Op.build 61 #[(0, Operand.const (Value.string { data := #[115, 112, 97, 114, 101] })), (1, Operand.const (Value.int IntKind.i64 77))], type := 61, pos := "law.go:41", after := #[], guard := none }) (v := ?_) rfl (by kernel_rfl) (by kernel_rfl) (by kernel_rfl) (by kernel_rfl) (fun _ _ _ h => h) (Or.inl ⟨by rfl, ?_⟩) (by assumption) ?_
      rotate_left
      (intro w0 hSw; (try dsimp only at hSw); go_simp; try (with_reducible rfl))
      (try simp only [Act.put, List.setIfInBounds_toArray, List.set_cons_zero, List.set_cons_succ])
      refine zAny_take (i := 7) (oi := { dst := some 23, op := Op.fieldAddr 45 (Operand.tmp 5) 2, type := 0, pos := "law.go:41", after := #[], guard := none }) (v := ?_) rfl (by kernel_rfl) (by kernel_rfl) (by kernel_rfl) (by kernel_rfl) (fun _ _ _ h => h) (Or.inl ⟨by rfl, ?_⟩) (by assumption) ?_
      rotate_left
      (intro w0 hSw; (try dsimp only at hSw); go_simp; try (with_reducible rfl))
      (try simp only [Act.put, List.setIfInBounds_toArray, List.set_cons_zero, List.set_cons_succ])
      refine zAny_take (i := 8) (oi := { dst := some 24, op := Op.load 43 (Operand.tmp 23), type := 43, pos := "law.go:41", after := #[{ on := 7, ground := Ground.data }], guard := none }) (v := ?_) rfl (by kernel_rfl) (by kernel_rfl) (by kernel_rfl) (by kernel_rfl) (fun _ _ _ h => h) (Or.inl ⟨by rfl, ?_⟩) (by assumption) ?_
      rotate_left
      (intro w0 hSw; (try dsimp only at hSw); go_simp; try (with_reducible rfl))
      (try simp only [Act.put, List.setIfInBounds_toArray, List.set_cons_zero, List.set_cons_succ])
      refine zAny_take (i := 9) (oi := { dst := some 25, op := Op.call { callee := Callee.builtin Builtin.len, args := #[Operand.tmp 24], argTypes := #[43] }, type := 3, pos := "law.go:41", after := #[{ on := 8, ground := Ground.data }], guard := none }) (v := ?_) rfl (by kernel_rfl) (by kernel_rfl) (by kernel_rfl) (by kernel_rfl) (fun _ _ _ h => h) (Or.inl ⟨by rfl, ?_⟩) (by assumption) ?_
      rotate_left
      (intro w0 hSw; (try dsimp only at hSw); go_simp; try (with_reducible rfl))
      (try simp only [Act.put, List.setIfInBounds_toArray, List.set_cons_zero, List.set_cons_succ])
      refine zAny_ready (rs := [0, 5]) (by kernel_rfl) (by simp) (zReady.cons (o := { dst := some 16, op := Op.buildSlice 43 0 #[], type := 43, pos := "law.go:41", after := #[], guard := none }) rfl (fun K hK => ?_) (zReady.cons (o := { dst := some 21, op := Op.buildSlice 43 1 #[(0, Operand.tmp 20)], type := 43, pos := "law.go:41", after := #[{ on := 4, ground := Ground.data }], guard := none }) rfl (fun K hK => ?_) zReady.nil))
      · skip
        go_simp
        refine hK.out _ _ (fun _ => SK.out _ (bal hHeld.1 _)) (fun hHeld => ?_)
        have hHeld := hHeld (by decide)
        clear hK K
        (try simp only [Act.put, List.setIfInBounds_toArray, List.set_cons_zero, List.set_cons_succ])
        refine zAny_ready (rs := [3, 5]) (by kernel_rfl) (by simp) (zReady.cons (o := { dst := some 19, op := Op.call { callee := Callee.builtin Builtin.append, args := #[Operand.tmp 16, Operand.tmp 18], argTypes := #[43, 43] }, type := 43, pos := "law.go:41", after := #[{ on := 0, ground := Ground.data }, { on := 2, ground := Ground.data }], guard := none }) rfl (fun K hK => ?_) (zReady.cons (o := { dst := some 21, op := Op.buildSlice 43 1 #[(0, Operand.tmp 20)], type := 43, pos := "law.go:41", after := #[{ on := 4, ground := Ground.data }], guard := none }) rfl (fun K hK => ?_) zReady.nil))
        · skip
          refine step_nought rfl _ _ (by rfl) (some ⟨wr.heap.size + 1, 0, none⟩) aa 0 0 ac (by rfl) (by show Value.slice aa ag.length ac = _; rw [H0.out]) (Nat.le_refl _) ?_
          have B7 := hHeld.1
          refine hK.out _ _ (fun _ => SK.out _ B7) (fun hHeld => ?_)
          have hHeld := hHeld (by decide)
          clear hK K
          (try simp only [Act.put, List.setIfInBounds_toArray, List.set_cons_zero, List.set_cons_succ])
          refine zAny_ready (rs := [5]) (by kernel_rfl) (by simp) (zReady.cons (o := { dst := some 21, op := Op.buildSlice 43 1 #[(0, Operand.tmp 20)], type := 43, pos := "law.go:41", after := #[{ on := 4, ground := Ground.data }], guard := none }) rfl (fun K hK => ?_) zReady.nil)
          go_simp
          refine hK.out _ _ (fun _ => SK.out _ (bal hHeld.1 _)) (fun hHeld => ?_)
          have hHeld := hHeld (by decide)
          clear hK K
          (try simp only [Act.put, List.setIfInBounds_toArray, List.set_cons_zero, List.set_cons_succ])
          refine zAny_ready (rs := [6]) (by kernel_rfl) (by simp) (zReady.cons (o := { dst := some 22, op := Op.call { callee := Callee.builtin Builtin.append, args := #[Operand.tmp 19, Operand.tmp 21], argTypes := #[43, 43] }, type := 43, pos := "law.go:41", after := #[{ on := 3, ground := Ground.data }, { on := 5, ground := Ground.data }, { on := 3, ground := Ground.chain }], guard := none }) rfl (fun K hK => ?_) zReady.nil)
          refine step_own rfl _ _ 43 (by rfl) V.heap.size 61 i6 zArg 2 24 Tryd.underlying43 HI6.out.1 HI6.out.2.1 HI6.out.2.2.1 HI6.out.2.2.2 rfl (by decide) _ 0 [] (by rfl) (by exact OAB.out) ⟨_, 0, none⟩ 1 1 (arc ⟨wSpare, 77⟩) (by rfl) rfl (by exact spare_cells SAB.out) (one_arg _) (by unfold maxLen; omega) (by omega) hHeld.1.size ?_
          intro v8 w8 hown8 hgrow8 hloc8
          rw [Nat.zero_add, List.nil_append] at hown8
          obtain ⟨g8, k8, rfl, hc8, _⟩ := own_at hown8 (by omega)
          have B8 : Below V.heap.size V w8 := Below.grown hHeld.1 hgrow8 hHeld.1.size (fun k e => (OAB.out.lt k e).1)
          refine hK.out _ _ (fun _ => SK.out _ B8) (fun hHeld => ?_)
          have hHeld := hHeld (by decide)
          clear hK K
          (try simp only [Act.put, List.setIfInBounds_toArray, List.set_cons_zero, List.set_cons_succ])
          have SL8 := slice_args g8 ag.length 1 k8 (by rw [H0.out]; omega) (by omega)
          have hown8 : w8.ownsRow V.heap.size 61 2 (.slice (some ⟨g8, 0, none⟩) (ag.length + 1) k8) (ag.length + 1) (ars ag ++ arc ⟨wSpare, 77⟩) := by rw [HN.out]; exact hown8
          have c8 := hHeld.2.1
          have f8 := hHeld.2.2
          refine zAny_take (i := 10) (oi := { dst := some 26, op := Op.slice 43 (Operand.tmp 22) none (some (Operand.tmp 25)) none, type := 43, pos := "law.go:41", after := #[{ on := 6, ground := Ground.data }, { on := 9, ground := Ground.data }], guard := none }) (v := ?_) rfl (by kernel_rfl) (by kernel_rfl) (by kernel_rfl) (by kernel_rfl) (fun _ _ _ h => h) (Or.inl ⟨by rfl, ?_⟩) (by assumption) ?_
          rotate_left
          (intro w0 hSw; (try dsimp only at hSw); go_simp; try (with_reducible rfl))
          (try simp only [Act.put, List.setIfInBounds_toArray, List.set_cons_zero, List.set_cons_succ])
          refine zAny_take (i := 11) (oi := { dst := some 27, op := Op.fieldAddr 45 (Operand.tmp 5) 2, type := 0, pos := "law.go:41", after := #[{ on := 0, ground := Ground.phase }, { on := 1, ground := Ground.phase }, { on := 2, ground := Ground.phase }, { on := 3, ground := Ground.phase }, { on := 4, ground := Ground.phase }, { on := 5, ground := Ground.phase }, { on := 6, ground := Ground.phase }, { on := 7, ground := Ground.phase }, { on := 8, ground := Ground.phase }, { on := 9, ground := Ground.phase }, { on := 10, ground := Ground.phase }], guard := none }) (v := ?_) rfl (by kernel_rfl) (by kernel_rfl) (by kernel_rfl) (by kernel_rfl) (fun _ _ _ h => h) (Or.inl ⟨by rfl, ?_⟩) (by assumption) ?_
          rotate_left
          (intro w0 hSw; (try dsimp only at hSw); go_simp; try (with_reducible rfl))
          (try simp only [Act.put, List.setIfInBounds_toArray, List.set_cons_zero, List.set_cons_succ])
          refine zAny_ready (rs := [12]) (by kernel_rfl) (by simp) (zReady.cons (o := { dst := none, op := Op.store 43 (Operand.tmp 27) (Operand.tmp 26), type := 0, pos := "law.go:41", after := #[{ on := 11, ground := Ground.data }, { on := 10, ground := Ground.data }, { on := 6, ground := Ground.chain }, { on := 0, ground := Ground.phase }, { on := 1, ground := Ground.phase }, { on := 2, ground := Ground.phase }, { on := 3, ground := Ground.phase }, { on := 4, ground := Ground.phase }, { on := 5, ground := Ground.phase }, { on := 6, ground := Ground.phase }, { on := 7, ground := Ground.phase }, { on := 8, ground := Ground.phase }, { on := 9, ground := Ground.phase }, { on := 10, ground := Ground.phase }], guard := none }) rfl (fun K hK => ?_) zReady.nil)
          have l8 : wr.heap.size < w8.heap.size := Nat.lt_of_lt_of_le vl B8.size
          go_simp
          refine hK.out _ _ (fun h => absurd rfl h) (fun _ => ?_)
          clear hK K
          (try simp only [Act.put, List.setIfInBounds_toArray, List.set_cons_zero, List.set_cons_succ])
          refine zAny_done (by kernel_rfl) ?_ _
          refine NoPanic.normal ?_
          have AF := hid0 (mid_of hWV.out hVs hbt hWS hown8 B8)
          obtain ⟨w9, hw9⟩ : ∃ w9, w9 = w8.setCell ⟨wr.heap.size, 2, none⟩ (.slice (some ⟨g8, 0, none⟩) ag.length k8) := ⟨_, rfl⟩
          rw [← hw9] at AF ⊢
          clear hw9
          have m0 : w9.cell? ⟨wr.heap.size, 0, none⟩ = some (.string kd) := AF.out.2.1.cell 0
          have m1 : w9.cell? ⟨wr.heap.size, 1, none⟩ = some (.string nm) := AF.out.2.1.cell 1
          have m2 : w9.cell? ⟨wr.heap.size, 2, none⟩ = some (.slice (some ⟨g8, 0, none⟩) ag.length k8) := AF.out.2.1.cell 2
          have m3 : w9.cell? ⟨wr.heap.size, 3, none⟩ = some (.int .i64 nu) := AF.out.2.1.cell 3
          have m4 : w9.cell? ⟨wr.heap.size, 4, none⟩ = some (.int .i64 ro) := AF.out.2.1.cell 4
          have m5 : w9.cell? ⟨wr.heap.size, 5, none⟩ = some (.int .i64 pl) := AF.out.2.1.cell 5
          have ml := AF.out.2.1.lt
          have hkb : (k + 1) * 80 ≤ 140737488355328 := by omega
          go_wp2_with (at_builtin; refine wpList_append_own_at _ rfl _ _ 23 rfl W.heap.size 45 i4 zRow 6 80 Tryd.underlying23 HI4.out.1 HI4.out.2.1 HI4.out.2.2.1 HI4.out.2.2.2 rfl (by decide) _ k (rws (rs.take k) vs) rfl (own_below (own_below hI.out.own AF.out.1) (bal (Below.refl _ _) _)) ⟨_, 0, none⟩ 1 1 (rwc ⟨kd, nm, ag, nu, ro, pl⟩ (.slice (some ⟨g8, 0, none⟩) ag.length k8)) rfl rfl (new_row _ _ rfl ⟨kd, nm, ag, nu, ro, pl⟩ _) (one_row _ _ _ _) (by unfold maxLen; omega) hkb (Nat.le_trans hI.out.below.size (Nat.le_trans AF.out.1.size (by simp))) ?_; intro v10 w10 hown10 hgrow10 _ hloc10)
          go_roundw
          case rel => exact ⟨k + 1, vs ++ [.slice (some ⟨g8, 0, none⟩) ag.length k8], hlt, by rfl, ci_next HT.out hI.out AF.out.1 AF.out.2.2 hgrow10 hown10⟩
          case measure => simp [intOf]; omega
        · skip
          go_simp
          refine hK.out _ _ (fun _ => SK.out _ (bal hHeld.1 _)) (fun hHeld => ?_)
          have hHeld := hHeld (by decide)
          clear hK K
          (try simp only [Act.put, List.setIfInBounds_toArray, List.set_cons_zero, List.set_cons_succ])
          refine zAny_ready (rs := [3]) (by kernel_rfl) (by simp) (zReady.cons (o := { dst := some 19, op := Op.call { callee := Callee.builtin Builtin.append, args := #[Operand.tmp 16, Operand.tmp 18], argTypes := #[43, 43] }, type := 43, pos := "law.go:41", after := #[{ on := 0, ground := Ground.data }, { on := 2, ground := Ground.data }], guard := none }) rfl (fun K hK => ?_) zReady.nil)
          refine step_nought rfl _ _ (by rfl) (some ⟨wr.heap.size + 1, 0, none⟩) aa 0 0 ac (by rfl) (by show Value.slice aa ag.length ac = _; rw [H0.out]) (Nat.le_refl _) ?_
          have B7 := hHeld.1
          refine hK.out _ _ (fun _ => SK.out _ B7) (fun hHeld => ?_)
          have hHeld := hHeld (by decide)
          clear hK K
          (try simp only [Act.put, List.setIfInBounds_toArray, List.set_cons_zero, List.set_cons_succ])
          refine zAny_ready (rs := [6]) (by kernel_rfl) (by simp) (zReady.cons (o := { dst := some 22, op := Op.call { callee := Callee.builtin Builtin.append, args := #[Operand.tmp 19, Operand.tmp 21], argTypes := #[43, 43] }, type := 43, pos := "law.go:41", after := #[{ on := 3, ground := Ground.data }, { on := 5, ground := Ground.data }, { on := 3, ground := Ground.chain }], guard := none }) rfl (fun K hK => ?_) zReady.nil)
          refine step_own rfl _ _ 43 (by rfl) V.heap.size 61 i6 zArg 2 24 Tryd.underlying43 HI6.out.1 HI6.out.2.1 HI6.out.2.2.1 HI6.out.2.2.2 rfl (by decide) _ 0 [] (by rfl) (by exact OAB.out) ⟨_, 0, none⟩ 1 1 (arc ⟨wSpare, 77⟩) (by rfl) rfl (by exact spare_cells SAB.out) (one_arg _) (by unfold maxLen; omega) (by omega) hHeld.1.size ?_
          intro v8 w8 hown8 hgrow8 hloc8
          rw [Nat.zero_add, List.nil_append] at hown8
          obtain ⟨g8, k8, rfl, hc8, _⟩ := own_at hown8 (by omega)
          have B8 : Below V.heap.size V w8 := Below.grown hHeld.1 hgrow8 hHeld.1.size (fun k e => (OAB.out.lt k e).1)
          refine hK.out _ _ (fun _ => SK.out _ B8) (fun hHeld => ?_)
          have hHeld := hHeld (by decide)
          clear hK K
          (try simp only [Act.put, List.setIfInBounds_toArray, List.set_cons_zero, List.set_cons_succ])
          have SL8 := slice_args g8 ag.length 1 k8 (by rw [H0.out]; omega) (by omega)
          have hown8 : w8.ownsRow V.heap.size 61 2 (.slice (some ⟨g8, 0, none⟩) (ag.length + 1) k8) (ag.length + 1) (ars ag ++ arc ⟨wSpare, 77⟩) := by rw [HN.out]; exact hown8
          have c8 := hHeld.2.1
          have f8 := hHeld.2.2
          refine zAny_take (i := 10) (oi := { dst := some 26, op := Op.slice 43 (Operand.tmp 22) none (some (Operand.tmp 25)) none, type := 43, pos := "law.go:41", after := #[{ on := 6, ground := Ground.data }, { on := 9, ground := Ground.data }], guard := none }) (v := ?_) rfl (by kernel_rfl) (by kernel_rfl) (by kernel_rfl) (by kernel_rfl) (fun _ _ _ h => h) (Or.inl ⟨by rfl, ?_⟩) (by assumption) ?_
          rotate_left
          (intro w0 hSw; (try dsimp only at hSw); go_simp; try (with_reducible rfl))
          (try simp only [Act.put, List.setIfInBounds_toArray, List.set_cons_zero, List.set_cons_succ])
          refine zAny_take (i := 11) (oi := { dst := some 27, op := Op.fieldAddr 45 (Operand.tmp 5) 2, type := 0, pos := "law.go:41", after := #[{ on := 0, ground := Ground.phase }, { on := 1, ground := Ground.phase }, { on := 2, ground := Ground.phase }, { on := 3, ground := Ground.phase }, { on := 4, ground := Ground.phase }, { on := 5, ground := Ground.phase }, { on := 6, ground := Ground.phase }, { on := 7, ground := Ground.phase }, { on := 8, ground := Ground.phase }, { on := 9, ground := Ground.phase }, { on := 10, ground := Ground.phase }], guard := none }) (v := ?_) rfl (by kernel_rfl) (by kernel_rfl) (by kernel_rfl) (by kernel_rfl) (fun _ _ _ h => h) (Or.inl ⟨by rfl, ?_⟩) (by assumption) ?_
          rotate_left
          (intro w0 hSw; (try dsimp only at hSw); go_simp; try (with_reducible rfl))
          (try simp only [Act.put, List.setIfInBounds_toArray, List.set_cons_zero, List.set_cons_succ])
          refine zAny_ready (rs := [12]) (by kernel_rfl) (by simp) (zReady.cons (o := { dst := none, op := Op.store 43 (Operand.tmp 27) (Operand.tmp 26), type := 0, pos := "law.go:41", after := #[{ on := 11, ground := Ground.data }, { on := 10, ground := Ground.data }, { on := 6, ground := Ground.chain }, { on := 0, ground := Ground.phase }, { on := 1, ground := Ground.phase }, { on := 2, ground := Ground.phase }, { on := 3, ground := Ground.phase }, { on := 4, ground := Ground.phase }, { on := 5, ground := Ground.phase }, { on := 6, ground := Ground.phase }, { on := 7, ground := Ground.phase }, { on := 8, ground := Ground.phase }, { on := 9, ground := Ground.phase }, { on := 10, ground := Ground.phase }], guard := none }) rfl (fun K hK => ?_) zReady.nil)
          have l8 : wr.heap.size < w8.heap.size := Nat.lt_of_lt_of_le vl B8.size
          go_simp
          refine hK.out _ _ (fun h => absurd rfl h) (fun _ => ?_)
          clear hK K
          (try simp only [Act.put, List.setIfInBounds_toArray, List.set_cons_zero, List.set_cons_succ])
          refine zAny_done (by kernel_rfl) ?_ _
          refine NoPanic.normal ?_
          have AF := hid0 (mid_of hWV.out hVs hbt hWS hown8 B8)
          obtain ⟨w9, hw9⟩ : ∃ w9, w9 = w8.setCell ⟨wr.heap.size, 2, none⟩ (.slice (some ⟨g8, 0, none⟩) ag.length k8) := ⟨_, rfl⟩
          rw [← hw9] at AF ⊢
          clear hw9
          have m0 : w9.cell? ⟨wr.heap.size, 0, none⟩ = some (.string kd) := AF.out.2.1.cell 0
          have m1 : w9.cell? ⟨wr.heap.size, 1, none⟩ = some (.string nm) := AF.out.2.1.cell 1
          have m2 : w9.cell? ⟨wr.heap.size, 2, none⟩ = some (.slice (some ⟨g8, 0, none⟩) ag.length k8) := AF.out.2.1.cell 2
          have m3 : w9.cell? ⟨wr.heap.size, 3, none⟩ = some (.int .i64 nu) := AF.out.2.1.cell 3
          have m4 : w9.cell? ⟨wr.heap.size, 4, none⟩ = some (.int .i64 ro) := AF.out.2.1.cell 4
          have m5 : w9.cell? ⟨wr.heap.size, 5, none⟩ = some (.int .i64 pl) := AF.out.2.1.cell 5
          have ml := AF.out.2.1.lt
          have hkb : (k + 1) * 80 ≤ 140737488355328 := by omega
          go_wp2_with (at_builtin; refine wpList_append_own_at _ rfl _ _ 23 rfl W.heap.size 45 i4 zRow 6 80 Tryd.underlying23 HI4.out.1 HI4.out.2.1 HI4.out.2.2.1 HI4.out.2.2.2 rfl (by decide) _ k (rws (rs.take k) vs) rfl (own_below (own_below hI.out.own AF.out.1) (bal (Below.refl _ _) _)) ⟨_, 0, none⟩ 1 1 (rwc ⟨kd, nm, ag, nu, ro, pl⟩ (.slice (some ⟨g8, 0, none⟩) ag.length k8)) rfl rfl (new_row _ _ rfl ⟨kd, nm, ag, nu, ro, pl⟩ _) (one_row _ _ _ _) (by unfold maxLen; omega) hkb (Nat.le_trans hI.out.below.size (Nat.le_trans AF.out.1.size (by simp))) ?_; intro v10 w10 hown10 hgrow10 _ hloc10)
          go_roundw
          case rel => exact ⟨k + 1, vs ++ [.slice (some ⟨g8, 0, none⟩) ag.length k8], hlt, by rfl, ci_next HT.out hI.out AF.out.1 AF.out.2.2 hgrow10 hown10⟩
          case measure => simp [intOf]; omega
      · skip
        go_simp
        refine hK.out _ _ (fun _ => SK.out _ (bal hHeld.1 _)) (fun hHeld => ?_)
        have hHeld := hHeld (by decide)
        clear hK K
        (try simp only [Act.put, List.setIfInBounds_toArray, List.set_cons_zero, List.set_cons_succ])
        refine zAny_ready (rs := [0]) (by kernel_rfl) (by simp) (zReady.cons (o := { dst := some 16, op := Op.buildSlice 43 0 #[], type := 43, pos := "law.go:41", after := #[], guard := none }) rfl (fun K hK => ?_) zReady.nil)
        go_simp
        refine hK.out _ _ (fun _ => SK.out _ (bal hHeld.1 _)) (fun hHeld => ?_)
        have hHeld := hHeld (by decide)
        clear hK K
        (try simp only [Act.put, List.setIfInBounds_toArray, List.set_cons_zero, List.set_cons_succ])
        refine zAny_ready (rs := [3]) (by kernel_rfl) (by simp) (zReady.cons (o := { dst := some 19, op := Op.call { callee := Callee.builtin Builtin.append, args := #[Operand.tmp 16, Operand.tmp 18], argTypes := #[43, 43] }, type := 43, pos := "law.go:41", after := #[{ on := 0, ground := Ground.data }, { on := 2, ground := Ground.data }], guard := none }) rfl (fun K hK => ?_) zReady.nil)
        refine step_nought rfl _ _ (by rfl) (some ⟨wr.heap.size + 1 + 1, 0, none⟩) aa 0 0 ac (by rfl) (by show Value.slice aa ag.length ac = _; rw [H0.out]) (Nat.le_refl _) ?_
        have B7 := hHeld.1
        refine hK.out _ _ (fun _ => SK.out _ B7) (fun hHeld => ?_)
        have hHeld := hHeld (by decide)
        clear hK K
        (try simp only [Act.put, List.setIfInBounds_toArray, List.set_cons_zero, List.set_cons_succ])
        refine zAny_ready (rs := [6]) (by kernel_rfl) (by simp) (zReady.cons (o := { dst := some 22, op := Op.call { callee := Callee.builtin Builtin.append, args := #[Operand.tmp 19, Operand.tmp 21], argTypes := #[43, 43] }, type := 43, pos := "law.go:41", after := #[{ on := 3, ground := Ground.data }, { on := 5, ground := Ground.data }, { on := 3, ground := Ground.chain }], guard := none }) rfl (fun K hK => ?_) zReady.nil)
        refine step_own rfl _ _ 43 (by rfl) V.heap.size 61 i6 zArg 2 24 Tryd.underlying43 HI6.out.1 HI6.out.2.1 HI6.out.2.2.1 HI6.out.2.2.2 rfl (by decide) _ 0 [] (by rfl) (by exact OC.out) ⟨_, 0, none⟩ 1 1 (arc ⟨wSpare, 77⟩) (by rfl) rfl (by exact spare_cells SC.out) (one_arg _) (by unfold maxLen; omega) (by omega) hHeld.1.size ?_
        intro v8 w8 hown8 hgrow8 hloc8
        rw [Nat.zero_add, List.nil_append] at hown8
        obtain ⟨g8, k8, rfl, hc8, _⟩ := own_at hown8 (by omega)
        have B8 : Below V.heap.size V w8 := Below.grown hHeld.1 hgrow8 hHeld.1.size (fun k e => (OC.out.lt k e).1)
        refine hK.out _ _ (fun _ => SK.out _ B8) (fun hHeld => ?_)
        have hHeld := hHeld (by decide)
        clear hK K
        (try simp only [Act.put, List.setIfInBounds_toArray, List.set_cons_zero, List.set_cons_succ])
        have SL8 := slice_args g8 ag.length 1 k8 (by rw [H0.out]; omega) (by omega)
        have hown8 : w8.ownsRow V.heap.size 61 2 (.slice (some ⟨g8, 0, none⟩) (ag.length + 1) k8) (ag.length + 1) (ars ag ++ arc ⟨wSpare, 77⟩) := by rw [HN.out]; exact hown8
        have c8 := hHeld.2.1
        have f8 := hHeld.2.2
        refine zAny_take (i := 10) (oi := { dst := some 26, op := Op.slice 43 (Operand.tmp 22) none (some (Operand.tmp 25)) none, type := 43, pos := "law.go:41", after := #[{ on := 6, ground := Ground.data }, { on := 9, ground := Ground.data }], guard := none }) (v := ?_) rfl (by kernel_rfl) (by kernel_rfl) (by kernel_rfl) (by kernel_rfl) (fun _ _ _ h => h) (Or.inl ⟨by rfl, ?_⟩) (by assumption) ?_
        rotate_left
        (intro w0 hSw; (try dsimp only at hSw); go_simp; try (with_reducible rfl))
        (try simp only [Act.put, List.setIfInBounds_toArray, List.set_cons_zero, List.set_cons_succ])
        refine zAny_take (i := 11) (oi := { dst := some 27, op := Op.fieldAddr 45 (Operand.tmp 5) 2, type := 0, pos := "law.go:41", after := #[{ on := 0, ground := Ground.phase }, { on := 1, ground := Ground.phase }, { on := 2, ground := Ground.phase }, { on := 3, ground := Ground.phase }, { on := 4, ground := Ground.phase }, { on := 5, ground := Ground.phase }, { on := 6, ground := Ground.phase }, { on := 7, ground := Ground.phase }, { on := 8, ground := Ground.phase }, { on := 9, ground := Ground.phase }, { on := 10, ground := Ground.phase }], guard := none }) (v := ?_) rfl (by kernel_rfl) (by kernel_rfl) (by kernel_rfl) (by kernel_rfl) (fun _ _ _ h => h) (Or.inl ⟨by rfl, ?_⟩) (by assumption) ?_
        rotate_left
        (intro w0 hSw; (try dsimp only at hSw); go_simp; try (with_reducible rfl))
        (try simp only [Act.put, List.setIfInBounds_toArray, List.set_cons_zero, List.set_cons_succ])
        refine zAny_ready (rs := [12]) (by kernel_rfl) (by simp) (zReady.cons (o := { dst := none, op := Op.store 43 (Operand.tmp 27) (Operand.tmp 26), type := 0, pos := "law.go:41", after := #[{ on := 11, ground := Ground.data }, { on := 10, ground := Ground.data }, { on := 6, ground := Ground.chain }, { on := 0, ground := Ground.phase }, { on := 1, ground := Ground.phase }, { on := 2, ground := Ground.phase }, { on := 3, ground := Ground.phase }, { on := 4, ground := Ground.phase }, { on := 5, ground := Ground.phase }, { on := 6, ground := Ground.phase }, { on := 7, ground := Ground.phase }, { on := 8, ground := Ground.phase }, { on := 9, ground := Ground.phase }, { on := 10, ground := Ground.phase }], guard := none }) rfl (fun K hK => ?_) zReady.nil)
        have l8 : wr.heap.size < w8.heap.size := Nat.lt_of_lt_of_le vl B8.size
        go_simp
        refine hK.out _ _ (fun h => absurd rfl h) (fun _ => ?_)
        clear hK K
        (try simp only [Act.put, List.setIfInBounds_toArray, List.set_cons_zero, List.set_cons_succ])
        refine zAny_done (by kernel_rfl) ?_ _
        refine NoPanic.normal ?_
        have AF := hid0 (mid_of hWV.out hVs hbt hWS hown8 B8)
        obtain ⟨w9, hw9⟩ : ∃ w9, w9 = w8.setCell ⟨wr.heap.size, 2, none⟩ (.slice (some ⟨g8, 0, none⟩) ag.length k8) := ⟨_, rfl⟩
        rw [← hw9] at AF ⊢
        clear hw9
        have m0 : w9.cell? ⟨wr.heap.size, 0, none⟩ = some (.string kd) := AF.out.2.1.cell 0
        have m1 : w9.cell? ⟨wr.heap.size, 1, none⟩ = some (.string nm) := AF.out.2.1.cell 1
        have m2 : w9.cell? ⟨wr.heap.size, 2, none⟩ = some (.slice (some ⟨g8, 0, none⟩) ag.length k8) := AF.out.2.1.cell 2
        have m3 : w9.cell? ⟨wr.heap.size, 3, none⟩ = some (.int .i64 nu) := AF.out.2.1.cell 3
        have m4 : w9.cell? ⟨wr.heap.size, 4, none⟩ = some (.int .i64 ro) := AF.out.2.1.cell 4
        have m5 : w9.cell? ⟨wr.heap.size, 5, none⟩ = some (.int .i64 pl) := AF.out.2.1.cell 5
        have ml := AF.out.2.1.lt
        have hkb : (k + 1) * 80 ≤ 140737488355328 := by omega
        go_wp2_with (at_builtin; refine wpList_append_own_at _ rfl _ _ 23 rfl W.heap.size 45 i4 zRow 6 80 Tryd.underlying23 HI4.out.1 HI4.out.2.1 HI4.out.2.2.1 HI4.out.2.2.2 rfl (by decide) _ k (rws (rs.take k) vs) rfl (own_below (own_below hI.out.own AF.out.1) (bal (Below.refl _ _) _)) ⟨_, 0, none⟩ 1 1 (rwc ⟨kd, nm, ag, nu, ro, pl⟩ (.slice (some ⟨g8, 0, none⟩) ag.length k8)) rfl rfl (new_row _ _ rfl ⟨kd, nm, ag, nu, ro, pl⟩ _) (one_row _ _ _ _) (by unfold maxLen; omega) hkb (Nat.le_trans hI.out.below.size (Nat.le_trans AF.out.1.size (by simp))) ?_; intro v10 w10 hown10 hgrow10 _ hloc10)
        go_roundw
        case rel => exact ⟨k + 1, vs ++ [.slice (some ⟨g8, 0, none⟩) ag.length k8], hlt, by rfl, ci_next HT.out hI.out AF.out.1 AF.out.2.2 hgrow10 hown10⟩
        case measure => simp [intOf]; omega
    · obtain ⟨ab, ao, rfl, ra0⟩ := HRA.out 0 h0
      have hraV : RA V ab ao ag := ((ra0.below HB.out).below hI.out.below).below hWV.out
      have NEWS : Hid (∀ j u, (ars ag)[j]? = some u → V.cell? ((⟨ab, ao, none⟩ : Addr).add j) = some u) := ars_cells hraV
      have habl := hraV.lt
      have DS : V.drew.heap.size = wr.heap.size + 1 := hVs
      have SK : Hid (∀ w', Below V.heap.size V w' → Below V.heap.size V w' ∧ w'.cell? ⟨wr.heap.size, 2, none⟩ = some (.slice (some ⟨ab, ao, none⟩) ag.length ac) ∧ w'.frozen? ⟨wr.heap.size, 2, none⟩ = false) := fun w' h => ⟨h, (h.cell (p := ⟨wr.heap.size, 2, none⟩) vl).trans v2, (h.frozen (p := ⟨wr.heap.size, 2, none⟩) vl).trans f2⟩
      refine wp_region_noPanic ?_
      refine region_z (S := fun w' => Below V.heap.size V w' ∧ w'.cell? ⟨wr.heap.size, 2, none⟩ = some (.slice (some ⟨ab, ao, none⟩) ag.length ac) ∧ w'.frozen? ⟨wr.heap.size, 2, none⟩ = false) 12 (by kernel_rfl) (SK.out _ (below_drew (Below.refl _ _))) (fun hHeld => ?_)
      refine zAny_take (i := 1) (oi := { dst := some 17, op := Op.fieldAddr 45 (Operand.tmp 5) 2, type := 0, pos := "law.go:41", after := #[], guard := none }) (v := ?_) rfl (by kernel_rfl) (by kernel_rfl) (by kernel_rfl) (by kernel_rfl) (fun _ _ _ h => h) (Or.inl ⟨by rfl, ?_⟩) (by assumption) ?_
      rotate_left
      (intro w0 hSw; (try dsimp only at hSw); go_simp; try (with_reducible rfl))
      (try simp only [Act.put, List.setIfInBounds_toArray, List.set_cons_zero, List.set_cons_succ])
      refine zAny_take (i := 2) (oi := { dst := some 18, op := Op.load 43 (Operand.tmp 17), type := 43, pos := "law.go:41", after := #[{ on := 1, ground := Ground.data }], guard := none }) (v := ?_) rfl (by kernel_rfl) (by kernel_rfl) (by kernel_rfl) (by kernel_rfl) (fun _ _ _ h => h) (Or.inl ⟨by rfl, ?_⟩) (by assumption) ?_
      rotate_left
      (intro w0 hSw; (try dsimp only at hSw); go_simp; try (with_reducible rfl))
      (try simp only [Act.put, List.setIfInBounds_toArray, List.set_cons_zero, List.set_cons_succ])
      refine zAny_take (i := 4) (oi := { dst := some 20, op := Op.build 61 #[(0, Operand.const (Value.string { data := #[115, 112, 97, 114, 101] })), (1, Operand.const (Value.int IntKind.i64 77))], type := 61, pos := "law.go:41", after := #[], guard := none }) (v := ?_) rfl (by kernel_rfl) (by kernel_rfl) (by kernel_rfl) (by kernel_rfl) (fun _ _ _ h => h) (Or.inl ⟨by rfl, ?_⟩) (by assumption) ?_
      rotate_left
      (intro w0 hSw; (try dsimp only at hSw); go_simp; try (with_reducible rfl))
      (try simp only [Act.put, List.setIfInBounds_toArray, List.set_cons_zero, List.set_cons_succ])
      refine zAny_take (i := 7) (oi := { dst := some 23, op := Op.fieldAddr 45 (Operand.tmp 5) 2, type := 0, pos := "law.go:41", after := #[], guard := none }) (v := ?_) rfl (by kernel_rfl) (by kernel_rfl) (by kernel_rfl) (by kernel_rfl) (fun _ _ _ h => h) (Or.inl ⟨by rfl, ?_⟩) (by assumption) ?_
      rotate_left
      (intro w0 hSw; (try dsimp only at hSw); go_simp; try (with_reducible rfl))
      (try simp only [Act.put, List.setIfInBounds_toArray, List.set_cons_zero, List.set_cons_succ])
      refine zAny_take (i := 8) (oi := { dst := some 24, op := Op.load 43 (Operand.tmp 23), type := 43, pos := "law.go:41", after := #[{ on := 7, ground := Ground.data }], guard := none }) (v := ?_) rfl (by kernel_rfl) (by kernel_rfl) (by kernel_rfl) (by kernel_rfl) (fun _ _ _ h => h) (Or.inl ⟨by rfl, ?_⟩) (by assumption) ?_
      rotate_left
      (intro w0 hSw; (try dsimp only at hSw); go_simp; try (with_reducible rfl))
      (try simp only [Act.put, List.setIfInBounds_toArray, List.set_cons_zero, List.set_cons_succ])
      refine zAny_take (i := 9) (oi := { dst := some 25, op := Op.call { callee := Callee.builtin Builtin.len, args := #[Operand.tmp 24], argTypes := #[43] }, type := 3, pos := "law.go:41", after := #[{ on := 8, ground := Ground.data }], guard := none }) (v := ?_) rfl (by kernel_rfl) (by kernel_rfl) (by kernel_rfl) (by kernel_rfl) (fun _ _ _ h => h) (Or.inl ⟨by rfl, ?_⟩) (by assumption) ?_
      rotate_left
      (intro w0 hSw; (try dsimp only at hSw); go_simp; try (with_reducible rfl))
      (try simp only [Act.put, List.setIfInBounds_toArray, List.set_cons_zero, List.set_cons_succ])
      refine zAny_ready (rs := [0, 5]) (by kernel_rfl) (by simp) (zReady.cons (o := { dst := some 16, op := Op.buildSlice 43 0 #[], type := 43, pos := "law.go:41", after := #[], guard := none }) rfl (fun K hK => ?_) (zReady.cons (o := { dst := some 21, op := Op.buildSlice 43 1 #[(0, Operand.tmp 20)], type := 43, pos := "law.go:41", after := #[{ on := 4, ground := Ground.data }], guard := none }) rfl (fun K hK => ?_) zReady.nil))
      · skip
        go_simp
        refine hK.out _ _ (fun _ => SK.out _ (bal hHeld.1 _)) (fun hHeld => ?_)
        have hHeld := hHeld (by decide)
        clear hK K
        (try simp only [Act.put, List.setIfInBounds_toArray, List.set_cons_zero, List.set_cons_succ])
        refine zAny_ready (rs := [3, 5]) (by kernel_rfl) (by simp) (zReady.cons (o := { dst := some 19, op := Op.call { callee := Callee.builtin Builtin.append, args := #[Operand.tmp 16, Operand.tmp 18], argTypes := #[43, 43] }, type := 43, pos := "law.go:41", after := #[{ on := 0, ground := Ground.data }, { on := 2, ground := Ground.data }], guard := none }) rfl (fun K hK => ?_) (zReady.cons (o := { dst := some 21, op := Op.buildSlice 43 1 #[(0, Operand.tmp 20)], type := 43, pos := "law.go:41", after := #[{ on := 4, ground := Ground.data }], guard := none }) rfl (fun K hK => ?_) zReady.nil))
        · skip
          refine step_own rfl _ _ 43 (by rfl) V.heap.size 61 i6 zArg 2 24 Tryd.underlying43 HI6.out.1 HI6.out.2.1 HI6.out.2.2.1 HI6.out.2.2.2 rfl (by decide) _ 0 [] (by rfl) (by exact own_no (W := V.drew) DS.symm (by omega)) ⟨ab, ao, none⟩ ag.length ac (ars ag) (by rfl) (ars_length ag) (ars_cells (hraV.below hHeld.1)) (ars_one ag) (by unfold maxLen; omega) (by omega) hHeld.1.size ?_
          intro v7 w7 hown7 hgrow7 hloc7
          rw [Nat.zero_add, List.nil_append] at hown7
          have B7 : Below V.heap.size V w7 := Below.grown hHeld.1 hgrow7 hHeld.1.size (fun k e => by have e2 : wr.heap.size + 1 = k := Option.some.inj e; omega)
          obtain ⟨a7, k7, rfl⟩ := own_shape hown7
          refine hK.out _ _ (fun _ => SK.out _ B7) (fun hHeld => ?_)
          have hHeld := hHeld (by decide)
          clear hK K
          (try simp only [Act.put, List.setIfInBounds_toArray, List.set_cons_zero, List.set_cons_succ])
          refine zAny_ready (rs := [5]) (by kernel_rfl) (by simp) (zReady.cons (o := { dst := some 21, op := Op.buildSlice 43 1 #[(0, Operand.tmp 20)], type := 43, pos := "law.go:41", after := #[{ on := 4, ground := Ground.data }], guard := none }) rfl (fun K hK => ?_) zReady.nil)
          go_simp
          refine hK.out _ _ (fun _ => SK.out _ (bal hHeld.1 _)) (fun hHeld => ?_)
          have hHeld := hHeld (by decide)
          clear hK K
          (try simp only [Act.put, List.setIfInBounds_toArray, List.set_cons_zero, List.set_cons_succ])
          refine zAny_ready (rs := [6]) (by kernel_rfl) (by simp) (zReady.cons (o := { dst := some 22, op := Op.call { callee := Callee.builtin Builtin.append, args := #[Operand.tmp 19, Operand.tmp 21], argTypes := #[43, 43] }, type := 43, pos := "law.go:41", after := #[{ on := 3, ground := Ground.data }, { on := 5, ground := Ground.data }, { on := 3, ground := Ground.chain }], guard := none }) rfl (fun K hK => ?_) zReady.nil)
          refine step_own rfl _ _ 43 (by rfl) V.heap.size 61 i6 zArg 2 24 Tryd.underlying43 HI6.out.1 HI6.out.2.1 HI6.out.2.2.1 HI6.out.2.2.2 rfl (by decide) _ ag.length (ars ag) (by rfl) (by exact own_below hown7 (bal (Below.refl _ _) _)) ⟨_, 0, none⟩ 1 1 (arc ⟨wSpare, 77⟩) (by rfl) rfl (by exact new_arg' _ _ (by rfl) _) (one_arg _) (by unfold maxLen; omega) (by omega) hHeld.1.size ?_
          intro v8 w8 hown8 hgrow8 hloc8
          obtain ⟨g8, k8, rfl, hc8, _⟩ := own_at hown8 (by omega)
          have B8 : Below V.heap.size V w8 := Below.grown hHeld.1 hgrow8 hHeld.1.size (fun k e => (hown7.lt k e).1)
          refine hK.out _ _ (fun _ => SK.out _ B8) (fun hHeld => ?_)
          have hHeld := hHeld (by decide)
          clear hK K
          (try simp only [Act.put, List.setIfInBounds_toArray, List.set_cons_zero, List.set_cons_succ])
          have SL8 := slice_args g8 ag.length (ag.length + 1) k8 (by omega) (by omega)
          have c8 := hHeld.2.1
          have f8 := hHeld.2.2
          refine zAny_take (i := 10) (oi := { dst := some 26, op := Op.slice 43 (Operand.tmp 22) none (some (Operand.tmp 25)) none, type := 43, pos := "law.go:41", after := #[{ on := 6, ground := Ground.data }, { on := 9, ground := Ground.data }], guard := none }) (v := ?_) rfl (by kernel_rfl) (by kernel_rfl) (by kernel_rfl) (by kernel_rfl) (fun _ _ _ h => h) (Or.inl ⟨by rfl, ?_⟩) (by assumption) ?_
          rotate_left
          (intro w0 hSw; (try dsimp only at hSw); go_simp; try (with_reducible rfl))
          (try simp only [Act.put, List.setIfInBounds_toArray, List.set_cons_zero, List.set_cons_succ])
          refine zAny_take (i := 11) (oi := { dst := some 27, op := Op.fieldAddr 45 (Operand.tmp 5) 2, type := 0, pos := "law.go:41", after := #[{ on := 0, ground := Ground.phase }, { on := 1, ground := Ground.phase }, { on := 2, ground := Ground.phase }, { on := 3, ground := Ground.phase }, { on := 4, ground := Ground.phase }, { on := 5, ground := Ground.phase }, { on := 6, ground := Ground.phase }, { on := 7, ground := Ground.phase }, { on := 8, ground := Ground.phase }, { on := 9, ground := Ground.phase }, { on := 10, ground := Ground.phase }], guard := none }) (v := ?_) rfl (by kernel_rfl) (by kernel_rfl) (by kernel_rfl) (by kernel_rfl) (fun _ _ _ h => h) (Or.inl ⟨by rfl, ?_⟩) (by assumption) ?_
          rotate_left
          (intro w0 hSw; (try dsimp only at hSw); go_simp; try (with_reducible rfl))
          (try simp only [Act.put, List.setIfInBounds_toArray, List.set_cons_zero, List.set_cons_succ])
          refine zAny_ready (rs := [12]) (by kernel_rfl) (by simp) (zReady.cons (o := { dst := none, op := Op.store 43 (Operand.tmp 27) (Operand.tmp 26), type := 0, pos := "law.go:41", after := #[{ on := 11, ground := Ground.data }, { on := 10, ground := Ground.data }, { on := 6, ground := Ground.chain }, { on := 0, ground := Ground.phase }, { on := 1, ground := Ground.phase }, { on := 2, ground := Ground.phase }, { on := 3, ground := Ground.phase }, { on := 4, ground := Ground.phase }, { on := 5, ground := Ground.phase }, { on := 6, ground := Ground.phase }, { on := 7, ground := Ground.phase }, { on := 8, ground := Ground.phase }, { on := 9, ground := Ground.phase }, { on := 10, ground := Ground.phase }], guard := none }) rfl (fun K hK => ?_) zReady.nil)
          have l8 : wr.heap.size < w8.heap.size := Nat.lt_of_lt_of_le vl B8.size
          go_simp
          refine hK.out _ _ (fun h => absurd rfl h) (fun _ => ?_)
          clear hK K
          (try simp only [Act.put, List.setIfInBounds_toArray, List.set_cons_zero, List.set_cons_succ])
          refine zAny_done (by kernel_rfl) ?_ _
          refine NoPanic.normal ?_
          have AF := hid0 (mid_of hWV.out hVs hbt hWS hown8 B8)
          obtain ⟨w9, hw9⟩ : ∃ w9, w9 = w8.setCell ⟨wr.heap.size, 2, none⟩ (.slice (some ⟨g8, 0, none⟩) ag.length k8) := ⟨_, rfl⟩
          rw [← hw9] at AF ⊢
          clear hw9
          have m0 : w9.cell? ⟨wr.heap.size, 0, none⟩ = some (.string kd) := AF.out.2.1.cell 0
          have m1 : w9.cell? ⟨wr.heap.size, 1, none⟩ = some (.string nm) := AF.out.2.1.cell 1
          have m2 : w9.cell? ⟨wr.heap.size, 2, none⟩ = some (.slice (some ⟨g8, 0, none⟩) ag.length k8) := AF.out.2.1.cell 2
          have m3 : w9.cell? ⟨wr.heap.size, 3, none⟩ = some (.int .i64 nu) := AF.out.2.1.cell 3
          have m4 : w9.cell? ⟨wr.heap.size, 4, none⟩ = some (.int .i64 ro) := AF.out.2.1.cell 4
          have m5 : w9.cell? ⟨wr.heap.size, 5, none⟩ = some (.int .i64 pl) := AF.out.2.1.cell 5
          have ml := AF.out.2.1.lt
          have hkb : (k + 1) * 80 ≤ 140737488355328 := by omega
          go_wp2_with (at_builtin; refine wpList_append_own_at _ rfl _ _ 23 rfl W.heap.size 45 i4 zRow 6 80 Tryd.underlying23 HI4.out.1 HI4.out.2.1 HI4.out.2.2.1 HI4.out.2.2.2 rfl (by decide) _ k (rws (rs.take k) vs) rfl (own_below (own_below hI.out.own AF.out.1) (bal (Below.refl _ _) _)) ⟨_, 0, none⟩ 1 1 (rwc ⟨kd, nm, ag, nu, ro, pl⟩ (.slice (some ⟨g8, 0, none⟩) ag.length k8)) rfl rfl (new_row _ _ rfl ⟨kd, nm, ag, nu, ro, pl⟩ _) (one_row _ _ _ _) (by unfold maxLen; omega) hkb (Nat.le_trans hI.out.below.size (Nat.le_trans AF.out.1.size (by simp))) ?_; intro v10 w10 hown10 hgrow10 _ hloc10)
          go_roundw
          case rel => exact ⟨k + 1, vs ++ [.slice (some ⟨g8, 0, none⟩) ag.length k8], hlt, by rfl, ci_next HT.out hI.out AF.out.1 AF.out.2.2 hgrow10 hown10⟩
          case measure => simp [intOf]; omega
        · skip
          go_simp
          refine hK.out _ _ (fun _ => SK.out _ (bal hHeld.1 _)) (fun hHeld => ?_)
          have hHeld := hHeld (by decide)
          clear hK K
          (try simp only [Act.put, List.setIfInBounds_toArray, List.set_cons_zero, List.set_cons_succ])
          refine zAny_ready (rs := [3]) (by kernel_rfl) (by simp) (zReady.cons (o := { dst := some 19, op := Op.call { callee := Callee.builtin Builtin.append, args := #[Operand.tmp 16, Operand.tmp 18], argTypes := #[43, 43] }, type := 43, pos := "law.go:41", after := #[{ on := 0, ground := Ground.data }, { on := 2, ground := Ground.data }], guard := none }) rfl (fun K hK => ?_) zReady.nil)
          refine step_own rfl _ _ 43 (by rfl) V.heap.size 61 i6 zArg 2 24 Tryd.underlying43 HI6.out.1 HI6.out.2.1 HI6.out.2.2.1 HI6.out.2.2.2 rfl (by decide) _ 0 [] (by rfl) (by exact own_below (own_no (W := V.drew) DS.symm (by omega)) (bal (Below.refl _ _) _)) ⟨ab, ao, none⟩ ag.length ac (ars ag) (by rfl) (ars_length ag) (ars_cells (hraV.below hHeld.1)) (ars_one ag) (by unfold maxLen; omega) (by omega) hHeld.1.size ?_
          intro v7 w7 hown7 hgrow7 hloc7
          rw [Nat.zero_add, List.nil_append] at hown7
          have B7 : Below V.heap.size V w7 := Below.grown hHeld.1 hgrow7 hHeld.1.size (fun k e => by have e2 : wr.heap.size + 1 = k := Option.some.inj e; omega)
          have bs7 : BK w7 (wr.heap.size + 1 + 1) #[.string wSpare, .int .i64 77] 61 := spare_kept (r := wr.heap.size + 1) hgrow7 (by omega) (spare_new (by simp [hVs]))
          obtain ⟨a7, k7, rfl⟩ := own_shape hown7
          refine hK.out _ _ (fun _ => SK.out _ B7) (fun hHeld => ?_)
          have hHeld := hHeld (by decide)
          clear hK K
          (try simp only [Act.put, List.setIfInBounds_toArray, List.set_cons_zero, List.set_cons_succ])
          refine zAny_ready (rs := [6]) (by kernel_rfl) (by simp) (zReady.cons (o := { dst := some 22, op := Op.call { callee := Callee.builtin Builtin.append, args := #[Operand.tmp 19, Operand.tmp 21], argTypes := #[43, 43] }, type := 43, pos := "law.go:41", after := #[{ on := 3, ground := Ground.data }, { on := 5, ground := Ground.data }, { on := 3, ground := Ground.chain }], guard := none }) rfl (fun K hK => ?_) zReady.nil)
          refine step_own rfl _ _ 43 (by rfl) V.heap.size 61 i6 zArg 2 24 Tryd.underlying43 HI6.out.1 HI6.out.2.1 HI6.out.2.2.1 HI6.out.2.2.2 rfl (by decide) _ ag.length (ars ag) (by rfl) (by exact hown7) ⟨_, 0, none⟩ 1 1 (arc ⟨wSpare, 77⟩) (by rfl) rfl (by exact spare_cells bs7) (one_arg _) (by unfold maxLen; omega) (by omega) hHeld.1.size ?_
          intro v8 w8 hown8 hgrow8 hloc8
          obtain ⟨g8, k8, rfl, hc8, _⟩ := own_at hown8 (by omega)
          have B8 : Below V.heap.size V w8 := Below.grown hHeld.1 hgrow8 hHeld.1.size (fun k e => (hown7.lt k e).1)
          refine hK.out _ _ (fun _ => SK.out _ B8) (fun hHeld => ?_)
          have hHeld := hHeld (by decide)
          clear hK K
          (try simp only [Act.put, List.setIfInBounds_toArray, List.set_cons_zero, List.set_cons_succ])
          have SL8 := slice_args g8 ag.length (ag.length + 1) k8 (by omega) (by omega)
          have c8 := hHeld.2.1
          have f8 := hHeld.2.2
          refine zAny_take (i := 10) (oi := { dst := some 26, op := Op.slice 43 (Operand.tmp 22) none (some (Operand.tmp 25)) none, type := 43, pos := "law.go:41", after := #[{ on := 6, ground := Ground.data }, { on := 9, ground := Ground.data }], guard := none }) (v := ?_) rfl (by kernel_rfl) (by kernel_rfl) (by kernel_rfl) (by kernel_rfl) (fun _ _ _ h => h) (Or.inl ⟨by rfl, ?_⟩) (by assumption) ?_
          rotate_left
          (intro w0 hSw; (try dsimp only at hSw); go_simp; try (with_reducible rfl))
          (try simp only [Act.put, List.setIfInBounds_toArray, List.set_cons_zero, List.set_cons_succ])
          refine zAny_take (i := 11) (oi := { dst := some 27, op := Op.fieldAddr 45 (Operand.tmp 5) 2, type := 0, pos := "law.go:41", after := #[{ on := 0, ground := Ground.phase }, { on := 1, ground := Ground.phase }, { on := 2, ground := Ground.phase }, { on := 3, ground := Ground.phase }, { on := 4, ground := Ground.phase }, { on := 5, ground := Ground.phase }, { on := 6, ground := Ground.phase }, { on := 7, ground := Ground.phase }, { on := 8, ground := Ground.phase }, { on := 9, ground := Ground.phase }, { on := 10, ground := Ground.phase }], guard := none }) (v := ?_) rfl (by kernel_rfl) (by kernel_rfl) (by kernel_rfl) (by kernel_rfl) (fun _ _ _ h => h) (Or.inl ⟨by rfl, ?_⟩) (by assumption) ?_
          rotate_left
          (intro w0 hSw; (try dsimp only at hSw); go_simp; try (with_reducible rfl))
          (try simp only [Act.put, List.setIfInBounds_toArray, List.set_cons_zero, List.set_cons_succ])
          refine zAny_ready (rs := [12]) (by kernel_rfl) (by simp) (zReady.cons (o := { dst := none, op := Op.store 43 (Operand.tmp 27) (Operand.tmp 26), type := 0, pos := "law.go:41", after := #[{ on := 11, ground := Ground.data }, { on := 10, ground := Ground.data }, { on := 6, ground := Ground.chain }, { on := 0, ground := Ground.phase }, { on := 1, ground := Ground.phase }, { on := 2, ground := Ground.phase }, { on := 3, ground := Ground.phase }, { on := 4, ground := Ground.phase }, { on := 5, ground := Ground.phase }, { on := 6, ground := Ground.phase }, { on := 7, ground := Ground.phase }, { on := 8, ground := Ground.phase }, { on := 9, ground := Ground.phase }, { on := 10, ground := Ground.phase }], guard := none }) rfl (fun K hK => ?_) zReady.nil)
          have l8 : wr.heap.size < w8.heap.size := Nat.lt_of_lt_of_le vl B8.size
          go_simp
          refine hK.out _ _ (fun h => absurd rfl h) (fun _ => ?_)
          clear hK K
          (try simp only [Act.put, List.setIfInBounds_toArray, List.set_cons_zero, List.set_cons_succ])
          refine zAny_done (by kernel_rfl) ?_ _
          refine NoPanic.normal ?_
          have AF := hid0 (mid_of hWV.out hVs hbt hWS hown8 B8)
          obtain ⟨w9, hw9⟩ : ∃ w9, w9 = w8.setCell ⟨wr.heap.size, 2, none⟩ (.slice (some ⟨g8, 0, none⟩) ag.length k8) := ⟨_, rfl⟩
          rw [← hw9] at AF ⊢
          clear hw9
          have m0 : w9.cell? ⟨wr.heap.size, 0, none⟩ = some (.string kd) := AF.out.2.1.cell 0
          have m1 : w9.cell? ⟨wr.heap.size, 1, none⟩ = some (.string nm) := AF.out.2.1.cell 1
          have m2 : w9.cell? ⟨wr.heap.size, 2, none⟩ = some (.slice (some ⟨g8, 0, none⟩) ag.length k8) := AF.out.2.1.cell 2
          have m3 : w9.cell? ⟨wr.heap.size, 3, none⟩ = some (.int .i64 nu) := AF.out.2.1.cell 3
          have m4 : w9.cell? ⟨wr.heap.size, 4, none⟩ = some (.int .i64 ro) := AF.out.2.1.cell 4
          have m5 : w9.cell? ⟨wr.heap.size, 5, none⟩ = some (.int .i64 pl) := AF.out.2.1.cell 5
          have ml := AF.out.2.1.lt
          have hkb : (k + 1) * 80 ≤ 140737488355328 := by omega
          go_wp2_with (at_builtin; refine wpList_append_own_at _ rfl _ _ 23 rfl W.heap.size 45 i4 zRow 6 80 Tryd.underlying23 HI4.out.1 HI4.out.2.1 HI4.out.2.2.1 HI4.out.2.2.2 rfl (by decide) _ k (rws (rs.take k) vs) rfl (own_below (own_below hI.out.own AF.out.1) (bal (Below.refl _ _) _)) ⟨_, 0, none⟩ 1 1 (rwc ⟨kd, nm, ag, nu, ro, pl⟩ (.slice (some ⟨g8, 0, none⟩) ag.length k8)) rfl rfl (new_row _ _ rfl ⟨kd, nm, ag, nu, ro, pl⟩ _) (one_row _ _ _ _) (by unfold maxLen; omega) hkb (Nat.le_trans hI.out.below.size (Nat.le_trans AF.out.1.size (by simp))) ?_; intro v10 w10 hown10 hgrow10 _ hloc10)
          go_roundw
          case rel => exact ⟨k + 1, vs ++ [.slice (some ⟨g8, 0, none⟩) ag.length k8], hlt, by rfl, ci_next HT.out hI.out AF.out.1 AF.out.2.2 hgrow10 hown10⟩
          case measure => simp [intOf]; omega
      · skip
        go_simp
        refine hK.out _ _ (fun _ => SK.out _ (bal hHeld.1 _)) (fun hHeld => ?_)
        have hHeld := hHeld (by decide)
        clear hK K
        (try simp only [Act.put, List.setIfInBounds_toArray, List.set_cons_zero, List.set_cons_succ])
        refine zAny_ready (rs := [0]) (by kernel_rfl) (by simp) (zReady.cons (o := { dst := some 16, op := Op.buildSlice 43 0 #[], type := 43, pos := "law.go:41", after := #[], guard := none }) rfl (fun K hK => ?_) zReady.nil)
        go_simp
        refine hK.out _ _ (fun _ => SK.out _ (bal hHeld.1 _)) (fun hHeld => ?_)
        have hHeld := hHeld (by decide)
        clear hK K
        (try simp only [Act.put, List.setIfInBounds_toArray, List.set_cons_zero, List.set_cons_succ])
        refine zAny_ready (rs := [3]) (by kernel_rfl) (by simp) (zReady.cons (o := { dst := some 19, op := Op.call { callee := Callee.builtin Builtin.append, args := #[Operand.tmp 16, Operand.tmp 18], argTypes := #[43, 43] }, type := 43, pos := "law.go:41", after := #[{ on := 0, ground := Ground.data }, { on := 2, ground := Ground.data }], guard := none }) rfl (fun K hK => ?_) zReady.nil)
        refine step_own rfl _ _ 43 (by rfl) V.heap.size 61 i6 zArg 2 24 Tryd.underlying43 HI6.out.1 HI6.out.2.1 HI6.out.2.2.1 HI6.out.2.2.2 rfl (by decide) _ 0 [] (by rfl) (by exact own_no (by simp [hVs]) (by omega)) ⟨ab, ao, none⟩ ag.length ac (ars ag) (by rfl) (ars_length ag) (ars_cells (hraV.below hHeld.1)) (ars_one ag) (by unfold maxLen; omega) (by omega) hHeld.1.size ?_
        intro v7 w7 hown7 hgrow7 hloc7
        rw [Nat.zero_add, List.nil_append] at hown7
        have B7 : Below V.heap.size V w7 := Below.grown hHeld.1 hgrow7 hHeld.1.size (fun k e => by have e2 : wr.heap.size + 1 + 1 = k := Option.some.inj e; omega)
        have bs7 : BK w7 (wr.heap.size + 1) #[.string wSpare, .int .i64 77] 61 := spare_kept (r := wr.heap.size + 1 + 1) hgrow7 (by omega) (BK.alloc (spare_new (u := V.drew) DS.symm) _)
        obtain ⟨a7, k7, rfl⟩ := own_shape hown7
        refine hK.out _ _ (fun _ => SK.out _ B7) (fun hHeld => ?_)
        have hHeld := hHeld (by decide)
        clear hK K
        (try simp only [Act.put, List.setIfInBounds_toArray, List.set_cons_zero, List.set_cons_succ])
        refine zAny_ready (rs := [6]) (by kernel_rfl) (by simp) (zReady.cons (o := { dst := some 22, op := Op.call { callee := Callee.builtin Builtin.append, args := #[Operand.tmp 19, Operand.tmp 21], argTypes := #[43, 43] }, type := 43, pos := "law.go:41", after := #[{ on := 3, ground := Ground.data }, { on := 5, ground := Ground.data }, { on := 3, ground := Ground.chain }], guard := none }) rfl (fun K hK => ?_) zReady.nil)
        refine step_own rfl _ _ 43 (by rfl) V.heap.size 61 i6 zArg 2 24 Tryd.underlying43 HI6.out.1 HI6.out.2.1 HI6.out.2.2.1 HI6.out.2.2.2 rfl (by decide) _ ag.length (ars ag) (by rfl) (by exact hown7) ⟨_, 0, none⟩ 1 1 (arc ⟨wSpare, 77⟩) (by rfl) rfl (by exact spare_cells bs7) (one_arg _) (by unfold maxLen; omega) (by omega) hHeld.1.size ?_
        intro v8 w8 hown8 hgrow8 hloc8
        obtain ⟨g8, k8, rfl, hc8, _⟩ := own_at hown8 (by omega)
        have B8 : Below V.heap.size V w8 := Below.grown hHeld.1 hgrow8 hHeld.1.size (fun k e => (hown7.lt k e).1)
        refine hK.out _ _ (fun _ => SK.out _ B8) (fun hHeld => ?_)
        have hHeld := hHeld (by decide)
        clear hK K
        (try simp only [Act.put, List.setIfInBounds_toArray, List.set_cons_zero, List.set_cons_succ])
        have SL8 := slice_args g8 ag.length (ag.length + 1) k8 (by omega) (by omega)
        have c8 := hHeld.2.1
        have f8 := hHeld.2.2
        refine zAny_take (i := 10) (oi := { dst := some 26, op := Op.slice 43 (Operand.tmp 22) none (some (Operand.tmp 25)) none, type := 43, pos := "law.go:41", after := #[{ on := 6, ground := Ground.data }, { on := 9, ground := Ground.data }], guard := none }) (v := ?_) rfl (by kernel_rfl) (by kernel_rfl) (by kernel_rfl) (by kernel_rfl) (fun _ _ _ h => h) (Or.inl ⟨by rfl, ?_⟩) (by assumption) ?_
        rotate_left
        (intro w0 hSw; (try dsimp only at hSw); go_simp; try (with_reducible rfl))
        (try simp only [Act.put, List.setIfInBounds_toArray, List.set_cons_zero, List.set_cons_succ])
        refine zAny_take (i := 11) (oi := { dst := some 27, op := Op.fieldAddr 45 (Operand.tmp 5) 2, type := 0, pos := "law.go:41", after := #[{ on := 0, ground := Ground.phase }, { on := 1, ground := Ground.phase }, { on := 2, ground := Ground.phase }, { on := 3, ground := Ground.phase }, { on := 4, ground := Ground.phase }, { on := 5, ground := Ground.phase }, { on := 6, ground := Ground.phase }, { on := 7, ground := Ground.phase }, { on := 8, ground := Ground.phase }, { on := 9, ground := Ground.phase }, { on := 10, ground := Ground.phase }], guard := none }) (v := ?_) rfl (by kernel_rfl) (by kernel_rfl) (by kernel_rfl) (by kernel_rfl) (fun _ _ _ h => h) (Or.inl ⟨by rfl, ?_⟩) (by assumption) ?_
        rotate_left
        (intro w0 hSw; (try dsimp only at hSw); go_simp; try (with_reducible rfl))
        (try simp only [Act.put, List.setIfInBounds_toArray, List.set_cons_zero, List.set_cons_succ])
        refine zAny_ready (rs := [12]) (by kernel_rfl) (by simp) (zReady.cons (o := { dst := none, op := Op.store 43 (Operand.tmp 27) (Operand.tmp 26), type := 0, pos := "law.go:41", after := #[{ on := 11, ground := Ground.data }, { on := 10, ground := Ground.data }, { on := 6, ground := Ground.chain }, { on := 0, ground := Ground.phase }, { on := 1, ground := Ground.phase }, { on := 2, ground := Ground.phase }, { on := 3, ground := Ground.phase }, { on := 4, ground := Ground.phase }, { on := 5, ground := Ground.phase }, { on := 6, ground := Ground.phase }, { on := 7, ground := Ground.phase }, { on := 8, ground := Ground.phase }, { on := 9, ground := Ground.phase }, { on := 10, ground := Ground.phase }], guard := none }) rfl (fun K hK => ?_) zReady.nil)
        have l8 : wr.heap.size < w8.heap.size := Nat.lt_of_lt_of_le vl B8.size
        go_simp
        refine hK.out _ _ (fun h => absurd rfl h) (fun _ => ?_)
        clear hK K
        (try simp only [Act.put, List.setIfInBounds_toArray, List.set_cons_zero, List.set_cons_succ])
        refine zAny_done (by kernel_rfl) ?_ _
        refine NoPanic.normal ?_
        have AF := hid0 (mid_of hWV.out hVs hbt hWS hown8 B8)
        obtain ⟨w9, hw9⟩ : ∃ w9, w9 = w8.setCell ⟨wr.heap.size, 2, none⟩ (.slice (some ⟨g8, 0, none⟩) ag.length k8) := ⟨_, rfl⟩
        rw [← hw9] at AF ⊢
        clear hw9
        have m0 : w9.cell? ⟨wr.heap.size, 0, none⟩ = some (.string kd) := AF.out.2.1.cell 0
        have m1 : w9.cell? ⟨wr.heap.size, 1, none⟩ = some (.string nm) := AF.out.2.1.cell 1
        have m2 : w9.cell? ⟨wr.heap.size, 2, none⟩ = some (.slice (some ⟨g8, 0, none⟩) ag.length k8) := AF.out.2.1.cell 2
        have m3 : w9.cell? ⟨wr.heap.size, 3, none⟩ = some (.int .i64 nu) := AF.out.2.1.cell 3
        have m4 : w9.cell? ⟨wr.heap.size, 4, none⟩ = some (.int .i64 ro) := AF.out.2.1.cell 4
        have m5 : w9.cell? ⟨wr.heap.size, 5, none⟩ = some (.int .i64 pl) := AF.out.2.1.cell 5
        have ml := AF.out.2.1.lt
        have hkb : (k + 1) * 80 ≤ 140737488355328 := by omega
        go_wp2_with (at_builtin; refine wpList_append_own_at _ rfl _ _ 23 rfl W.heap.size 45 i4 zRow 6 80 Tryd.underlying23 HI4.out.1 HI4.out.2.1 HI4.out.2.2.1 HI4.out.2.2.2 rfl (by decide) _ k (rws (rs.take k) vs) rfl (own_below (own_below hI.out.own AF.out.1) (bal (Below.refl _ _) _)) ⟨_, 0, none⟩ 1 1 (rwc ⟨kd, nm, ag, nu, ro, pl⟩ (.slice (some ⟨g8, 0, none⟩) ag.length k8)) rfl rfl (new_row _ _ rfl ⟨kd, nm, ag, nu, ro, pl⟩ _) (one_row _ _ _ _) (by unfold maxLen; omega) hkb (Nat.le_trans hI.out.below.size (Nat.le_trans AF.out.1.size (by simp))) ?_; intro v10 w10 hown10 hgrow10 _ hloc10)
        go_roundw
        case rel => exact ⟨k + 1, vs ++ [.slice (some ⟨g8, 0, none⟩) ag.length k8], hlt, by rfl, ci_next HT.out hI.out AF.out.1 AF.out.2.2 hgrow10 hown10⟩
        case measure => simp [intOf]; omega
end Go.Proofs.YtiepbfeliehjnaaDoor
namespace Go.Proofs.YtiepbfeliehjnaaDoor
open Go.ChangeShapes Go.WideShapes Go.ChangeAt Go.ChangeMaps Go.RowKit Go.Sort

theorem Tryd.cells45 : Tryd.prog.cellsOf 45 = 6 := by kernel_rfl
theorem Tryd.cells61 : Tryd.prog.cellsOf 61 = 2 := by kernel_rfl
section
variable {H : Type} {enc : TypeId × Value → H} {W : World}
theorem trod_fields {ts : TypeId} {fs : Array Field} {fuel : Nat} {cs : List Value} {x : DataW H × List MemPlace} (hs : Tryd.prog.underlying ts = some (.struct fs))
    (hone : ∀ (i : Nat) (f : Field), fs[i]? = some f → f.offset = i ∧ Tryd.prog.cellsOf f.type = 1) (hC : Tryd.prog.cellsOf ts = fs.size) (h : DataW.trod enc Tryd.prog W 0 (fun _ => true) true fuel ts cs = some x) :
    cs.length = fs.size ∧ ∃ (n : Nat) (Y : Nat → DataW H × List MemPlace), ∀ (i : Nat) (f : Field), fs[i]? = some f → DataW.trod enc Tryd.prog W 0 (fun _ => true) true n f.type [cs.getD i undef] = some (Y i) := by
  obtain ⟨xs, n, _, rfl, hlen, hxl, hf⟩ := DataW.trod_struct hs h
  rw [hC] at hlen
  refine ⟨hlen, n, fun i => xs.getD i (.nil, []), fun i f hi => ?_⟩
  have hlt : i < fs.size := (Array.getElem?_eq_some_iff.1 hi).1
  obtain ⟨ho, hc1⟩ := hone i f hi
  have g := hf i f hi
  rw [ho, hc1, Go.Deep.take1_drop cs i undef (by omega), List.getElem?_eq_getElem (by omega)] at g
  rw [g]
  simp [List.getD, List.getElem?_eq_getElem (show i < xs.length by omega)]
theorem arg_of_trod {fuel : Nat} {cs : List Value} {x : DataW H × List MemPlace} (h : DataW.trod enc Tryd.prog W 0 (fun _ => true) true fuel 61 cs = some x) :
    ∃ t : Ar, cs = arc t ∧ t.n.size ≤ 9223372036854775807 := by
  obtain ⟨hlen, n, Y, hY⟩ := trod_fields Tryd.underlying61 (Go.Deep.hone_of (by kernel_rfl)) Tryd.cells61 h
  match cs, hlen with
  | [v0, v1], _ =>
    obtain ⟨x0, e0, _, hz⟩ := DataW.trod_string Tryd.underlying9 (hY 0 _ rfl)
    obtain ⟨x1, e1, _, _⟩ := DataW.trod_int Tryd.underlying3 (hY 1 _ rfl)
    simp at e0 e1
    subst e0 e1
    exact ⟨⟨x0, x1⟩, rfl, hz⟩
theorem args_of_trod {fuel : Nat} {cs : List Value} {x : DataW H × List MemPlace} (h : DataW.trod enc Tryd.prog W 0 (fun _ => true) true fuel 43 cs = some x) :
    ∃ (v : Value) (l : List Ar), cs = [v] ∧ SA W v l ∧ l.length ≤ 9223372036854775807 ∧ ∀ a ∈ l, a.n.size ≤ 9223372036854775807 := by
  rcases Go.Deep.open_slice Tryd.underlying43 h with ⟨rfl, _⟩ | ⟨a, len, cap, m, n, D, Pl, rfl, _, hl, hm, hmm, hx, hcell⟩
  · exact ⟨_, [], rfl, ⟨none, 0, rfl, Nat.le_refl _, fun k hk => absurd hk (Nat.not_lt_zero _)⟩, Nat.zero_le _, fun a ha => by cases ha⟩
  · simp only [if_true] at hmm
    unfold maxLen at hm
    rw [Tryd.cells61] at hcell
    have each : ∀ i, i < len → ∃ t : Ar, (∀ j, j < 2 → W.cell? (a.add (i * 2 + j)) = (arc t)[j]?) ∧ t.n.size ≤ 9223372036854775807 := by
      intro i hi
      obtain ⟨cs', h1, h2⟩ := hcell i (by omega)
      obtain ⟨_, hlen, hc⟩ := World.cells?_some h1
      obtain ⟨t, rfl, hf⟩ := arg_of_trod h2
      refine ⟨t, fun j hj => ?_, hf⟩
      have e0 := hc j hj
      rw [Go.Deep.add_add] at e0
      exact e0
    haveI : Inhabited Ar := ⟨⟨⟨#[]⟩, 0⟩⟩
    obtain ⟨T, hT⟩ := Go.Deep.choose_lt each
    have hln : ((List.range len).map T).length = len := by simp
    refine ⟨_, (List.range len).map T, rfl, ⟨some a, cap, by rw [hln], by omega, fun k hk => ?_⟩, by omega, fun x hx => ?_⟩
    · rw [hln] at hk
      obtain ⟨b, off, spot⟩ := a
      have h00 := (hT 0 (by omega)).1 0 (by omega)
      have hspot : spot = none := by simpa [Addr.add] using World.cell?_spot h00
      subst hspot
      have get : ∀ j d, j < len → d < 2 → W.cell? ⟨b, off + (j * 2 + d), none⟩ = (arc (T j))[d]? := fun j d hj hd => by
        have := (hT j hj).1 d hd
        rwa [add_plain] at this
      refine ⟨b, off, rfl, fun j hj => ?_, fun j hj => ?_, ?_⟩
      · rw [hln] at hj; have := get j 0 hj (by omega); simpa [Nat.add_assoc] using this
      · rw [hln] at hj; have := get j 1 hj (by omega); simpa [Nat.add_assoc] using this
      · exact World.block_lt_of_cell? W _ (get 0 0 (by omega) (by omega))
    · obtain ⟨i, hi, rfl⟩ := List.mem_map.1 hx
      exact (hT i (by simpa using hi)).2
theorem row_of_trod {fuel : Nat} {cs : List Value} {x : DataW H × List MemPlace} (h : DataW.trod enc Tryd.prog W 0 (fun _ => true) true fuel 45 cs = some x) :
    ∃ t : Rw × Value, cs = rwc t.1 t.2 ∧ SA W t.2 t.1.args ∧ t.1.name.size ≤ 9223372036854775807 ∧ t.1.args.length ≤ 9223372036854775807 ∧ ∀ a ∈ t.1.args, a.n.size ≤ 9223372036854775807 := by
  obtain ⟨hlen, n, Y, hY⟩ := trod_fields Tryd.underlying45 (Go.Deep.hone_of (by kernel_rfl)) Tryd.cells45 h
  match cs, hlen with
  | [v0, v1, v2, v3, v4, v5], _ =>
    obtain ⟨x0, e0, _, _⟩ := DataW.trod_string Tryd.underlying9 (hY 0 _ rfl)
    obtain ⟨x1, e1, _, hz⟩ := DataW.trod_string Tryd.underlying9 (hY 1 _ rfl)
    obtain ⟨v, l, e2, hq, hl, hlz⟩ := args_of_trod (hY 2 _ rfl)
    obtain ⟨x3, e3, _, _⟩ := DataW.trod_int Tryd.underlying3 (hY 3 _ rfl)
    obtain ⟨x4, e4, _, _⟩ := DataW.trod_int Tryd.underlying3 (hY 4 _ rfl)
    obtain ⟨x5, e5, _, _⟩ := DataW.trod_int Tryd.underlying3 (hY 5 _ rfl)
    simp at e0 e1 e2 e3 e4 e5
    subst e0 e1 e2 e3 e4 e5
    exact ⟨⟨⟨x0, x1, l, x3, x4, x5⟩, v2⟩, rfl, hq, hz, hl, hlz⟩
set_option maxRecDepth 100000 in
theorem rows_of_trod {base : Nat} {v : Value} {d : DataW H} {p : List MemPlace} (hval : Value.okWide Tryd.prog W .any base 23 v) (h : DataW.Trod enc Tryd.prog W 0 (fun _ => true) true 23 v d p) :
    ∃ rs : List Rw, SR W v rs ∧ rs.length ≤ 9223372036854775807 ∧ Szs rs := by
  obtain ⟨a0, len, cap, rfl⟩ := okWide_slice Tryd.underlying23 hval
  obtain ⟨fuel, hf⟩ := h
  rcases Go.Deep.open_slice Tryd.underlying23 hf with ⟨hcs, hx⟩ | ⟨a, len', cap', m, n, D, Pl, hcs, _, hl, hm, hmm, hx, hcell⟩
  · simp [Value.cells] at hcs
    obtain ⟨rfl, rfl, rfl⟩ := hcs
    exact ⟨[], ⟨none, 0, [], rfl, Nat.le_refl _, rfl, fun k hk => absurd hk (Nat.not_lt_zero _), fun k hk => absurd hk (Nat.not_lt_zero _)⟩, Nat.zero_le _, fun r hr => by cases hr⟩
  · simp [Value.cells] at hcs
    obtain ⟨rfl, rfl, rfl⟩ := hcs
    simp only [if_true] at hmm
    unfold maxLen at hm
    rw [Tryd.cells45] at hcell
    have each : ∀ i, i < len → ∃ t : Rw × Value, (∀ j, j < 6 → W.cell? (a.add (i * 6 + j)) = (rwc t.1 t.2)[j]?) ∧ SA W t.2 t.1.args ∧ t.1.name.size ≤ 9223372036854775807 ∧ t.1.args.length ≤ 9223372036854775807 ∧ ∀ a ∈ t.1.args, a.n.size ≤ 9223372036854775807 := by
      intro i hi
      obtain ⟨cs', h1, h2⟩ := hcell i (by omega)
      obtain ⟨_, hlen, hc⟩ := World.cells?_some h1
      obtain ⟨t, rfl, hf⟩ := row_of_trod h2
      refine ⟨t, fun j hj => ?_, hf⟩
      have e0 := hc j hj
      rw [Go.Deep.add_add] at e0
      exact e0
    haveI : Inhabited (Rw × Value) := ⟨⟨⟨⟨#[]⟩, ⟨#[]⟩, [], 0, 0, 0⟩, undef⟩⟩
    obtain ⟨T, hT⟩ := Go.Deep.choose_lt each
    have hln : ((List.range len).map fun i => (T i).1).length = len := by simp
    refine ⟨(List.range len).map fun i => (T i).1, ⟨some a, cap, (List.range len).map fun i => (T i).2, by rw [hln], by omega, by simp, fun k hk hk' => ?_, fun k hk => ?_⟩, by omega, fun r hr => ?_⟩
    · rw [hln] at hk
      simpa using (hT k hk).2.1
    · rw [hln] at hk
      obtain ⟨b, off, spot⟩ := a
      have h00 := (hT 0 (by omega)).1 0 (by omega)
      have hspot : spot = none := by simpa [Addr.add] using World.cell?_spot h00
      subst hspot
      have get : ∀ j d, j < len → d < 6 → W.cell? ⟨b, off + (j * 6 + d), none⟩ = (rwc (T j).1 (T j).2)[d]? := fun j d hj hd => by
        have := (hT j hj).1 d hd
        rwa [add_plain] at this
      refine ⟨b, off, rfl, fun j hj => ?_, fun j hj => ?_, fun j hj hj' => ?_, fun j hj => ?_, fun j hj => ?_, fun j hj => ?_, ?_⟩
      · rw [hln] at hj; have := get j 0 hj (by omega); simpa [Nat.add_assoc] using this
      · rw [hln] at hj; have := get j 1 hj (by omega); simpa [Nat.add_assoc] using this
      · rw [hln] at hj; have := get j 2 hj (by omega); simpa [Nat.add_assoc] using this
      · rw [hln] at hj; have := get j 3 hj (by omega); simpa [Nat.add_assoc] using this
      · rw [hln] at hj; have := get j 4 hj (by omega); simpa [Nat.add_assoc] using this
      · rw [hln] at hj; have := get j 5 hj (by omega); simpa [Nat.add_assoc] using this
      · exact World.block_lt_of_cell? W _ (get 0 0 (by omega) (by omega))
    · obtain ⟨i, hi, rfl⟩ := List.mem_map.1 hr
      exact (hT i (by simpa using hi)).2.2
end
end Go.Proofs.YtiepbfeliehjnaaDoor
namespace Go.Proofs.YtiepbfeliehjnaaDoor
open Go.ChangeShapes Go.WideShapes Go.ChangeAt Go.ChangeMaps Go.RowKit Go.Sort

/-- The bulk of arguments, of a row, of rows. -/
def abk (l : List Ar) : Nat := (l.map fun a => a.n.size + 1).sum
def rbk (r : Rw) : Nat := r.kind.size + r.name.size + abk r.args + 1
def rbs (rs : List Rw) : Nat := (rs.map rbk).sum
theorem abk_cons (a : Ar) (l : List Ar) : abk (a :: l) = a.n.size + 1 + abk l := by simp [abk]
theorem rbs_cons (r : Rw) (rs : List Rw) : rbs (r :: rs) = rbk r + rbs rs := by simp [rbs]
theorem rbs_cut (rs : List Rw) (k : Nat) : rbs (rs.take k) + rbs (rs.drop k) = rbs rs := by
  unfold rbs
  rw [← List.sum_append, ← List.map_append, List.take_append_drop]
theorem rbs_drop (rs : List Rw) (k : Nat) : rbs (rs.drop k) ≤ rbs rs := by have := rbs_cut rs k; omega
theorem abk_lnz : ∀ l : List Ar, l.length ≤ abk l
  | [] => Nat.zero_le _
  | a :: l => by rw [abk_cons, List.length_cons]; have := abk_lnz l; omega
theorem abk_mem : ∀ (l : List Ar) (a : Ar), a ∈ l → a.n.size ≤ abk l
  | [], _, h => by cases h
  | b :: l, a, h => by
    rw [abk_cons]
    rcases List.mem_cons.1 h with rfl | h
    · omega
    · have := abk_mem l a h; omega
theorem rbs_lnz : ∀ l : List Rw, l.length ≤ rbs l
  | [] => Nat.zero_le _
  | a :: l => by rw [rbs_cons, List.length_cons]; have := rbs_lnz l; unfold rbk; omega
theorem rbs_mem : ∀ (l : List Rw) (r : Rw), r ∈ l → rbk r ≤ rbs l
  | [], _, h => by cases h
  | b :: l, a, h => by
    rw [rbs_cons]
    rcases List.mem_cons.1 h with rfl | h
    · omega
    · have := rbs_mem l a h; omega
/-- How long tokens are. -/
def tkz (l : List Tk) : Nat := (l.map fun t => t.t.size + 1).sum
theorem tkz_cons (t : Tk) (l : List Tk) : tkz (t :: l) = t.t.size + 1 + tkz l := by simp [tkz]
theorem tkz_nil : tkz [] = 0 := rfl
theorem tkz_app (a b : List Tk) : tkz (a ++ b) = tkz a + tkz b := by simp [tkz]
theorem tok_lnz (last t : ByteArray) : (tokB last t).length ≤ t.size + 1 := by
  have e : t.data.toList.length = t.size := rfl
  unfold tokB
  rw [List.length_append, e]
  split <;> simp <;> omega
theorem line_lnz : ∀ (ts : List Tk) (last : ByteArray), (lineB last ts).length ≤ tkz ts
  | [], _ => Nat.zero_le _
  | t :: ts, last => by
    show (tokB last t.t ++ lineB t.t ts).length ≤ _
    rw [List.length_append, tkz_cons]
    have h1 := tok_lnz last t.t
    have h2 := line_lnz ts t.t
    omega
theorem num_lnz {x : Int} (h : numOk x = true) : (numT x).size ≤ 21 := by
  unfold numOk at h
  simp only [Bool.and_eq_true, decide_eq_true_eq] at h
  have := Lib.itoa_length_le x (by omega) (by omega)
  show (Lib.itoa x).toArray.size ≤ 21
  rw [List.size_toArray]
  exact this
theorem arg_lnz {ix : Bool} {a : Ar} (h : argOk ix a = true) : tkz (argK a) ≤ 27 * (a.n.size + 1) := by
  unfold argOk at h
  simp only [Bool.and_eq_true, Bool.or_eq_true, decide_eq_true_eq] at h
  unfold argK
  by_cases h0 : 0 ≤ a.x
  · rw [if_pos h0]
    have h1 : numOk a.x = true := by
      rcases h.2 with h | h
      · omega
      · exact h.2
    have h2 := num_lnz h1
    simp only [tkz_cons, tkz_nil]
    show a.n.size + 1 + (1 + 1 + ((numT a.x).size + 1 + (1 + 1 + 0))) ≤ _
    omega
  · rw [if_neg h0]
    simp only [tkz_cons, tkz_nil]
    show a.n.size + 1 + 0 ≤ _
    omega
theorem args_lnz {ix : Bool} : ∀ l : List Ar, l.all (argOk ix) = true → tkz (argsT l) ≤ 27 * abk l
  | [], _ => Nat.zero_le _
  | a :: l, h => by
    simp only [List.all_cons, Bool.and_eq_true] at h
    show tkz (argK a ++ argsT l) ≤ _
    rw [tkz_app, abk_cons]
    have h1 := arg_lnz h.1
    have h2 := args_lnz l h.2
    omega
theorem head_lnz {r : Rw} (hf : fitB r (shR r) = true) : tkz (headK r (shR r)) ≤ 27 * rbk r := by
  unfold fitB at hf
  simp only [Bool.and_eq_true] at hf
  obtain ⟨⟨⟨_, hn⟩, _⟩, ha⟩ := hf
  have h1 := args_lnz r.args ha
  have h2 : tkz (kindT r) ≤ r.kind.size + 1 := by
    unfold kindT
    split
    · exact Nat.zero_le _
    · rw [tkz_cons, tkz_nil]; exact Nat.le_refl _
  have h3 : tkz (nameT r (shR r)) ≤ r.name.size + 1 := by
    unfold nameT
    split
    · rw [tkz_cons, tkz_nil]; exact Nat.le_refl _
    · exact Nat.zero_le _
  have h4 : tkz (numTk r (shR r)) ≤ 22 := by
    unfold numTk
    by_cases h : (shR r).num = true
    · rw [if_pos h] at hn ⊢
      have := num_lnz hn
      rw [tkz_cons, tkz_nil]
      show (numT r.num).size + 1 + 0 ≤ 22
      omega
    · rw [if_neg h]; exact Nat.zero_le _
  have h5 : tkz [tkS (lastS (shR r))] ≤ 2 := by
    rw [tkz_cons, tkz_nil]
    show (lastS (shR r)).size + 1 + 0 ≤ 2
    unfold lastS
    split <;> decide
  unfold headK
  rw [tkz_app, tkz_app, tkz_app, tkz_app]
  unfold rbk
  omega
theorem body_lnz : ∀ (f d : Nat) (rs : List Rw), chk f d rs = true → d ≤ 32 → (bodyB f d rs).length ≤ 200 * rbs rs
  | 0, _, _, _, _ => Nat.zero_le _
  | _ + 1, _, [], _, _ => Nat.zero_le _
  | f + 1, d, r :: rs, h, hd => by
    obtain ⟨hk, hf, _, _, hb, hr⟩ := chk_cons h
    have h1 := line_lnz (headK r (shR r)) ⟨#[]⟩
    have h2 := head_lnz hf
    have h3 := body_lnz f d _ hr hd
    have hcut := rbs_cut rs r.rows.toNat
    have hi : (indB d).length = 2 * d := List.length_replicate
    have hrb : 1 ≤ rbk r := by unfold rbk; omega
    show ((indB d ++ (lineB ⟨#[]⟩ (headK r (shR r)) ++ [10])) ++ ((if (shR r).body = true then bodyB f (d + 1) (rs.take r.rows.toNat) ++ (indB d ++ ([125] ++ [10])) else []) ++ bodyB f d (rs.drop r.rows.toNat))).length ≤ _
    rw [rbs_cons]
    simp only [List.length_append, List.length_singleton, hi]
    rcases hb with ⟨hb, hd2, hc⟩ | ⟨hb, _⟩
    · have h4 := body_lnz f (d + 1) _ hc (by omega)
      rw [if_pos hb]
      simp only [List.length_append, List.length_singleton, hi]
      omega
    · rw [if_neg (by rw [hb]; decide)]
      simp only [List.length_nil]
      omega
section
variable {H : Type} {enc : TypeId × Value → H} {W : World}
theorem bulk_app (l r : List (DataW H)) : Rows.uptoBulkAll (l ++ r) = Rows.uptoBulkAll l + Rows.uptoBulkAll r := by
  induction l with
  | nil => simp [Rows.uptoBulkAll]
  | cons x l ih => simp only [List.cons_append, Rows.uptoBulkAll, ih]; omega
theorem bulk_sum (f : Nat → Nat) (D : Nat → DataW H) (len : Nat) (h : ∀ i, i < len → f i ≤ Rows.uptoBulk (D i)) : ((List.range len).map f).sum ≤ Rows.uptoBulkAll ((List.range len).map D) := by
  induction len with
  | zero => exact Nat.zero_le _
  | succ n ih =>
    have h1 := ih (fun i hi => h i (by omega))
    have h2 := h n (by omega)
    rw [List.range_succ, List.map_append, List.map_append, bulk_app, List.sum_append]
    simp only [List.map_cons, List.map_nil, Rows.uptoBulkAll, List.sum_cons, List.sum_nil]
    omega
theorem trod_fields2 {ts : TypeId} {fs : Array Field} {fuel : Nat} {cs : List Value} {x : DataW H × List MemPlace} (hs : Tryd.prog.underlying ts = some (.struct fs))
    (hone : ∀ (i : Nat) (f : Field), fs[i]? = some f → f.offset = i ∧ Tryd.prog.cellsOf f.type = 1) (hC : Tryd.prog.cellsOf ts = fs.size) (h : DataW.trod enc Tryd.prog W 0 (fun _ => true) true fuel ts cs = some x) :
    cs.length = fs.size ∧ ∃ (n : Nat) (xs : List (DataW H × List MemPlace)), x.1 = .agg (xs.map (·.1)) ∧ xs.length = fs.size ∧ ∀ (i : Nat) (f : Field), fs[i]? = some f → DataW.trod enc Tryd.prog W 0 (fun _ => true) true n f.type [cs.getD i undef] = some (xs.getD i (.nil, [])) := by
  obtain ⟨xs, n, _, rfl, hlen, hxl, hf⟩ := DataW.trod_struct hs h
  rw [hC] at hlen
  refine ⟨hlen, n, xs, rfl, hxl, fun i f hi => ?_⟩
  have hlt : i < fs.size := (Array.getElem?_eq_some_iff.1 hi).1
  obtain ⟨ho, hc1⟩ := hone i f hi
  have g := hf i f hi
  rw [ho, hc1, Go.Deep.take1_drop cs i undef (by omega), List.getElem?_eq_getElem (by omega)] at g
  rw [g]
  simp [List.getD, List.getElem?_eq_getElem (show i < xs.length by omega)]
theorem lit_bulk (s : ByteArray) : Rows.uptoBulk (H := H) (.lit (.string s.data.toList)) = s.size + 1 := by
  simp only [Rows.uptoBulk]
  rfl
theorem arg2_of_trod {fuel : Nat} {cs : List Value} {x : DataW H × List MemPlace} (h : DataW.trod enc Tryd.prog W 0 (fun _ => true) true fuel 61 cs = some x) :
    ∃ t : Ar, cs = arc t ∧ t.n.size + 1 ≤ Rows.uptoBulk x.1 := by
  obtain ⟨hlen, n, xs, ex, hxl, hY⟩ := trod_fields2 Tryd.underlying61 (Go.Deep.hone_of (by kernel_rfl)) Tryd.cells61 h
  match cs, hlen, xs, hxl with
  | [v0, v1], _, [y0, y1], _ =>
    obtain ⟨x0, e0, d0, _⟩ := DataW.trod_string Tryd.underlying9 (hY 0 _ rfl)
    obtain ⟨x1, e1, _, _⟩ := DataW.trod_int Tryd.underlying3 (hY 1 _ rfl)
    simp at e0 e1 d0
    subst e0 e1 d0
    refine ⟨⟨x0, x1⟩, rfl, ?_⟩
    rw [ex]
    have := lit_bulk (H := H) x0
    simp only [List.map_cons, List.map_nil, Rows.uptoBulk, Rows.uptoBulkAll] at this ⊢
    omega
theorem args2_of_trod {fuel : Nat} {cs : List Value} {x : DataW H × List MemPlace} (h : DataW.trod enc Tryd.prog W 0 (fun _ => true) true fuel 43 cs = some x) :
    ∃ (v : Value) (l : List Ar), cs = [v] ∧ SA W v l ∧ abk l ≤ Rows.uptoBulk x.1 := by
  rcases Go.Deep.open_slice Tryd.underlying43 h with ⟨rfl, _⟩ | ⟨a, len, cap, m, n, D, Pl, rfl, _, hl, hm, hmm, hx, hcell⟩
  · exact ⟨_, [], rfl, ⟨none, 0, rfl, Nat.le_refl _, fun k hk => absurd hk (Nat.not_lt_zero _)⟩, Nat.zero_le _⟩
  · simp only [if_true] at hmm
    rw [Tryd.cells61] at hcell
    have each : ∀ i, i < len → ∃ t : Ar, (∀ j, j < 2 → W.cell? (a.add (i * 2 + j)) = (arc t)[j]?) ∧ t.n.size + 1 ≤ Rows.uptoBulk (D i) := by
      intro i hi
      obtain ⟨cs', h1, h2⟩ := hcell i (by omega)
      obtain ⟨_, hlen, hc⟩ := World.cells?_some h1
      obtain ⟨t, rfl, hf⟩ := arg2_of_trod h2
      refine ⟨t, fun j hj => ?_, hf⟩
      have e0 := hc j hj
      rw [Go.Deep.add_add] at e0
      exact e0
    haveI : Inhabited Ar := ⟨⟨⟨#[]⟩, 0⟩⟩
    obtain ⟨T, hT⟩ := Go.Deep.choose_lt each
    have hln : ((List.range len).map T).length = len := by simp
    refine ⟨_, (List.range len).map T, rfl, ⟨some a, cap, by rw [hln], by omega, fun k hk => ?_⟩, ?_⟩
    · rw [hln] at hk
      obtain ⟨b, off, spot⟩ := a
      have h00 := (hT 0 (by omega)).1 0 (by omega)
      have hspot : spot = none := by simpa [Addr.add] using World.cell?_spot h00
      subst hspot
      have get : ∀ j d, j < len → d < 2 → W.cell? ⟨b, off + (j * 2 + d), none⟩ = (arc (T j))[d]? := fun j d hj hd => by
        have := (hT j hj).1 d hd
        rwa [add_plain] at this
      refine ⟨b, off, rfl, fun j hj => ?_, fun j hj => ?_, ?_⟩
      · rw [hln] at hj; have := get j 0 hj (by omega); simpa [Nat.add_assoc] using this
      · rw [hln] at hj; have := get j 1 hj (by omega); simpa [Nat.add_assoc] using this
      · exact World.block_lt_of_cell? W _ (get 0 0 (by omega) (by omega))
    · have := bulk_sum (fun i => (T i).n.size + 1) D len (fun i hi => (hT i hi).2)
      rw [hx]
      unfold abk
      rw [List.map_map]
      simp only [Rows.uptoBulk]
      exact Nat.le_trans this (by omega)
theorem row2_of_trod {fuel : Nat} {cs : List Value} {x : DataW H × List MemPlace} (h : DataW.trod enc Tryd.prog W 0 (fun _ => true) true fuel 45 cs = some x) :
    ∃ t : Rw × Value, cs = rwc t.1 t.2 ∧ SA W t.2 t.1.args ∧ rbk t.1 ≤ Rows.uptoBulk x.1 := by
  obtain ⟨hlen, n, xs, ex, hxl, hY⟩ := trod_fields2 Tryd.underlying45 (Go.Deep.hone_of (by kernel_rfl)) Tryd.cells45 h
  match cs, hlen, xs, hxl with
  | [v0, v1, v2, v3, v4, v5], _, [y0, y1, y2, y3, y4, y5], _ =>
    obtain ⟨x0, e0, d0, _⟩ := DataW.trod_string Tryd.underlying9 (hY 0 _ rfl)
    obtain ⟨x1, e1, d1, _⟩ := DataW.trod_string Tryd.underlying9 (hY 1 _ rfl)
    obtain ⟨v, l, e2, hq, hb⟩ := args2_of_trod (hY 2 _ rfl)
    obtain ⟨x3, e3, _, _⟩ := DataW.trod_int Tryd.underlying3 (hY 3 _ rfl)
    obtain ⟨x4, e4, _, _⟩ := DataW.trod_int Tryd.underlying3 (hY 4 _ rfl)
    obtain ⟨x5, e5, _, _⟩ := DataW.trod_int Tryd.underlying3 (hY 5 _ rfl)
    simp at e0 e1 e2 e3 e4 e5 d0 d1
    subst e0 e1 e2 e3 e4 e5 d0 d1
    refine ⟨⟨⟨x0, x1, l, x3, x4, x5⟩, v2⟩, rfl, hq, ?_⟩
    rw [ex]
    have h0 := lit_bulk (H := H) x0
    have h1 := lit_bulk (H := H) x1
    have hb' : abk l ≤ Rows.uptoBulk y2.1 := hb
    unfold rbk
    simp only [List.map_cons, List.map_nil, Rows.uptoBulk, Rows.uptoBulkAll] at h0 h1 ⊢
    omega
set_option maxRecDepth 100000 in
theorem rows2_of_trod {base : Nat} {v : Value} {d : DataW H} {p : List MemPlace} (hval : Value.okWide Tryd.prog W .any base 23 v) (h : DataW.Trod enc Tryd.prog W 0 (fun _ => true) true 23 v d p) :
    ∃ rs : List Rw, SR W v rs ∧ rbs rs ≤ Rows.uptoBulk d := by
  obtain ⟨a0, len, cap, rfl⟩ := okWide_slice Tryd.underlying23 hval
  obtain ⟨fuel, hf⟩ := h
  rcases Go.Deep.open_slice Tryd.underlying23 hf with ⟨hcs, hx⟩ | ⟨a, len', cap', m, n, D, Pl, hcs, _, hl, hm, hmm, hx, hcell⟩
  · simp [Value.cells] at hcs
    obtain ⟨rfl, rfl, rfl⟩ := hcs
    exact ⟨[], ⟨none, 0, [], rfl, Nat.le_refl _, rfl, fun k hk => absurd hk (Nat.not_lt_zero _), fun k hk => absurd hk (Nat.not_lt_zero _)⟩, Nat.zero_le _⟩
  · simp [Value.cells] at hcs
    obtain ⟨rfl, rfl, rfl⟩ := hcs
    simp only [if_true] at hmm
    rw [Tryd.cells45] at hcell
    have each : ∀ i, i < len → ∃ t : Rw × Value, (∀ j, j < 6 → W.cell? (a.add (i * 6 + j)) = (rwc t.1 t.2)[j]?) ∧ SA W t.2 t.1.args ∧ rbk t.1 ≤ Rows.uptoBulk (D i) := by
      intro i hi
      obtain ⟨cs', h1, h2⟩ := hcell i (by omega)
      obtain ⟨_, hlen, hc⟩ := World.cells?_some h1
      obtain ⟨t, rfl, hf⟩ := row2_of_trod h2
      refine ⟨t, fun j hj => ?_, hf⟩
      have e0 := hc j hj
      rw [Go.Deep.add_add] at e0
      exact e0
    haveI : Inhabited (Rw × Value) := ⟨⟨⟨⟨#[]⟩, ⟨#[]⟩, [], 0, 0, 0⟩, undef⟩⟩
    obtain ⟨T, hT⟩ := Go.Deep.choose_lt each
    have hln : ((List.range len).map fun i => (T i).1).length = len := by simp
    refine ⟨(List.range len).map fun i => (T i).1, ⟨some a, cap, (List.range len).map fun i => (T i).2, by rw [hln], by omega, by simp, fun k hk hk' => ?_, fun k hk => ?_⟩, ?_⟩
    · rw [hln] at hk
      simpa using (hT k hk).2.1
    · rw [hln] at hk
      obtain ⟨b, off, spot⟩ := a
      have h00 := (hT 0 (by omega)).1 0 (by omega)
      have hspot : spot = none := by simpa [Addr.add] using World.cell?_spot h00
      subst hspot
      have get : ∀ j d, j < len → d < 6 → W.cell? ⟨b, off + (j * 6 + d), none⟩ = (rwc (T j).1 (T j).2)[d]? := fun j d hj hd => by
        have := (hT j hj).1 d hd
        rwa [add_plain] at this
      refine ⟨b, off, rfl, fun j hj => ?_, fun j hj => ?_, fun j hj hj' => ?_, fun j hj => ?_, fun j hj => ?_, fun j hj => ?_, ?_⟩
      · rw [hln] at hj; have := get j 0 hj (by omega); simpa [Nat.add_assoc] using this
      · rw [hln] at hj; have := get j 1 hj (by omega); simpa [Nat.add_assoc] using this
      · rw [hln] at hj; have := get j 2 hj (by omega); simpa [Nat.add_assoc] using this
      · rw [hln] at hj; have := get j 3 hj (by omega); simpa [Nat.add_assoc] using this
      · rw [hln] at hj; have := get j 4 hj (by omega); simpa [Nat.add_assoc] using this
      · rw [hln] at hj; have := get j 5 hj (by omega); simpa [Nat.add_assoc] using this
      · exact World.block_lt_of_cell? W _ (get 0 0 (by omega) (by omega))
    · have := bulk_sum (fun i => rbk (T i).1) D len (fun i hi => (hT i hi).2.2)
      injection hx with hx1 hx2
      rw [hx1]
      unfold rbs
      rw [List.map_map]
      simp only [Rows.uptoBulk]
      exact Nat.le_trans this (by omega)
end
end Go.Proofs.YtiepbfeliehjnaaDoor
