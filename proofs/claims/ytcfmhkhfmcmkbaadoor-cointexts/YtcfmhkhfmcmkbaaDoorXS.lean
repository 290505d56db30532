/-
  Put together of: D7 DL.
-/
import Derived.Test.YtcfmhkhfmcmkbaaDoorXR
import Derived.Test.YtcfmhkhfmcmkbaaDoorXC
import Derived.Lay
import Derived.Lib.LaidU8
import Derived.Shelf.Vars
import Derived.SliceStrings
import Derived.SizedLaws
import Derived.Lib.SmallJoins
namespace Go.Proofs.YtcfmhkhfmcmkbaaDoor
open Go.RowKit Go.Sort

/-- Texts that can be read. -/
structure RS (W : World) (b o : Nat) (ss : List ByteArray) : Prop where
  c : ∀ j (h : j < ss.length), W.cell? ⟨b, o + j, none⟩ = some (.string ss[j])
  lt : b < W.heap.size
structure SS (W : World) (a : Option Addr) (cp : Nat) (ss : List ByteArray) : Prop where
  cap : ss.length ≤ cp
  at_ : ∀ k, k < ss.length → ∃ b o, a = some ⟨b, o, none⟩ ∧ RS W b o ss
  fit : ∀ k (h : k < ss.length), ss[k].size ≤ 281474976710656
  len : ss.length ≤ 9223372036854775807
theorem RS.below {W W' : World} {b o : Nat} {ss : List ByteArray} (h : RS W b o ss) (g : Below W.heap.size W W') : RS W' b o ss :=
  ⟨fun j hj => (g.cell (p := ⟨b, _, none⟩) h.lt).trans (h.c j hj), Nat.lt_of_lt_of_le h.lt g.size⟩
theorem parse_both (s : ByteArray) (hz : s.size ≤ 281474976710656) : ∃ m n e : Int, (∀ w, VR w → Calls Tryd.prog 16 #[.string s] w fun r w' => r = .returned (.tuple #[cv m n, .int .i64 e]) ∧ Below w.heap.size w w') ∧ ∀ w, Calls Tryd.prog 17 #[.string s] w fun r w' => r = .returned (.tuple #[cv m n, .int .i64 e]) ∧ Below w.heap.size w w' := by
  by_cases hx : ∃ m n : Nat, n ≤ 16 ∧ m < 2 ^ n ∧ s = txt m n
  · obtain ⟨m, n, hn, hm, rfl⟩ := hx
    refine ⟨_, _, _, fun w hV => parse_yes m n w hn hm hV, fun w => (rparse_any _ w hz).mono fun e w' ⟨h, hB⟩ => ⟨?_, hB⟩⟩
    rcases h with ⟨m', n', _, _, h3, rfl⟩ | ⟨h, _⟩
    · obtain ⟨rfl, rfl⟩ := txt_inj h3
      rfl
    · exact absurd rfl (h m n hn hm)
  · have hs : ∀ m n : Nat, n ≤ 16 → m < 2 ^ n → s ≠ txt m n := fun m n h1 h2 h3 => hx ⟨m, n, h1, h2, h3⟩
    refine ⟨_, _, _, fun w hV => parse_no s w hs hz hV, fun w => (rparse_any _ w hz).mono fun e w' ⟨h, hB⟩ => ⟨?_, hB⟩⟩
    rcases h with ⟨m', n', h1, h2, h3, _⟩ | ⟨_, rfl⟩
    · exact absurd h3 (hs m' n' h1 h2)
    · rfl
set_option maxHeartbeats 4000000 in
theorem texts_any (m l : Int) (hm : 0 ≤ m) (hl : -9223372036854775808 ≤ l ∧ l ≤ 9223372036854775807) (a : Option Addr) (cp : Nat) (ss : List ByteArray) (w : World) (hV : VR w) (hS : SS w a cp ss) :
    Calls Tryd.prog 5 #[cv m l, .slice a ss.length cp] w fun x w' => x = .returned (.bool true) ∧ Below w.heap.size w w' := by
  have AW := fun w h => awake_any w h
  have HV : Hid (∀ w', Below w.heap.size w w' → VR w') := fun w' h => hV.below h
  have HS := hid hS
  have hlen := hS.len
  clear hV hS
  by_cases hc : isCoin m l
  · obtain ⟨⟨q0, q16⟩, q2⟩ := hc
    obtain ⟨n, rfl⟩ := Int.eq_ofNat_of_zero_le q0
    obtain ⟨M, rfl⟩ := Int.eq_ofNat_of_zero_le hm
    rw [Int.toNat_natCast] at q2
    have hM : M < 2 ^ n := by
      rw [show (2 : Int) ^ n = ((2 ^ n : Nat) : Int) by simp] at q2
      omega
    have T14 := fun w => rtext_yes M n w (by omega) hM
    have T15 := fun w h => text_yes M n w h (by omega) hM
    have P16 := fun w h => parse_yes M n w (by omega) hM h
    have ht := same_text (txt M n)
    clear q0 q16 q2 hm hl hM
    generalize txt M n = t at *
    generalize ((M : Nat) : Int) = m at *
    generalize ((n : Nat) : Int) = l at *
    go_enter Tryd.func5, Tryd.ntmps5
    go_wp2_with (first
      | (go_at_call 7; (with_reducible refine (AW _ (HV.out _ (bal (Below.refl _ _) _)).tab).mono ?_); rintro x w1 ⟨rfl, hB⟩; have D1 := (bk_new w #[.int .u64 m, .int .i64 l] 28).on hB; have d0 : ∀ j, w1.cell? ⟨w.heap.size, j, none⟩ = _ := D1.cell; have l0 := D1.lt; have BW := btr (bal (Below.refl w.heap.size w) _) hB; clear AW)
      | (go_at_call 14; (with_reducible refine (T14 _).mono ?_); rintro x w2 ⟨rfl, hB2⟩; have D2 := D1.on hB2; have d1 : ∀ j, w2.cell? ⟨w.heap.size, j, none⟩ = _ := D2.cell; have l1 := D2.lt; have BW2 := btr BW hB2; clear T14)
      | (go_at_call 15; (with_reducible refine (T15 _ (HV.out _ BW2).pt).mono ?_); rintro x w3 ⟨rfl, hB3⟩; have D3 := D2.on hB3; have d2 : ∀ j, w3.cell? ⟨w.heap.size, j, none⟩ = _ := D3.cell; have l2 := D3.lt; have BW3 := btr BW2 hB3; clear T15)
      | (go_at_call 16; (with_reducible refine (P16 _ (HV.out _ BW3)).mono ?_); rintro x w4 ⟨rfl, hB4⟩; have D4 := D3.on hB4; have d3 : ∀ j, w4.cell? ⟨w.heap.size, j, none⟩ = _ := D4.cell; have l3 := D4.lt; have BW4 := btr BW3 hB4; clear P16))
    have HB : Hid (Below w.heap.size w _) := bal BW4 (.cells #[.int .u64 m, .int .i64 l] 28)
    clear hB hB2 hB3 hB4 d0 d1 d2 d3 l0 l1 l2 l3 BW BW2 BW3 BW4
    go_loopw [53] (fun v53 wr => ∃ k : Nat, k ≤ ss.length ∧ v53 = .int .i64 (k : Nat) ∧ Hid (Below w.heap.size w wr)) (fun v53 _ => ss.length - (intOf v53).toNat)
    case atStart => exact ⟨0, Nat.zero_le _, rfl, HB⟩
    case round =>
      obtain ⟨k, hk, rfl, hB⟩ := hrel
      clear HB
      by_cases hlt : k < ss.length
      · have hkI : ((k : Nat) : Int) < (ss.length : Nat) := by omega
        obtain ⟨b, o, rfl, r0⟩ := HS.out.at_ k hlt
        have r := r0.below hB.out
        have x0 := r.c k hlt
        have x2 := r.lt
        have hcap := HS.out.cap
        have f0 := HS.out.fit k hlt
        generalize ss[k] = s at *
        obtain ⟨m, n, e, R16, R17⟩ := parse_both s f0
        clear r r0 f0
        go_wp2_with (first
          | (go_at_call 17; (with_reducible refine (R17 _).mono ?_); rintro rr w2 ⟨rfl, hB2⟩; have BW2 := btr hB.out hB2)
          | (go_at_call 16; (with_reducible refine (R16 _ (HV.out _ (bal BW2 _))).mono ?_); rintro rr w3 ⟨rfl, hB3⟩; have E1 := (bk_new w2 #[.int .u64 m, .int .i64 n] 28).on hB3; have c0 : ∀ j, w3.cell? ⟨w2.heap.size, j, none⟩ = _ := E1.cell; have c1 := E1.lt))
        exact ⟨⟨k + 1, by omega, by simp, hid (bal (btr (bal BW2 _) hB3) _)⟩, by simp [intOf]; omega⟩
      · obtain rfl : k = ss.length := by omega
        go_wp2
        go_ret
        exact ⟨rfl, hB.out⟩
  · have T14 := fun w => rtext_no m l w hl hc
    have T15 := fun w => text_no m l w hl hc
    have ht := same_text ⟨#[]⟩
    clear hc
    go_enter Tryd.func5, Tryd.ntmps5
    go_wp2_with (first
      | (go_at_call 7; (with_reducible refine (AW _ (HV.out _ (bal (Below.refl _ _) _)).tab).mono ?_); rintro x w1 ⟨rfl, hB⟩; have D1 := (bk_new w #[.int .u64 m, .int .i64 l] 28).on hB; have d0 : ∀ j, w1.cell? ⟨w.heap.size, j, none⟩ = _ := D1.cell; have l0 := D1.lt; have BW := btr (bal (Below.refl w.heap.size w) _) hB; clear AW)
      | (go_at_call 14; (with_reducible refine (T14 _).mono ?_); rintro x w2 ⟨rfl, hB2⟩; have D2 := D1.on hB2; have d1 : ∀ j, w2.cell? ⟨w.heap.size, j, none⟩ = _ := D2.cell; have l1 := D2.lt; have BW2 := btr BW hB2; clear T14)
      | (go_at_call 15; (with_reducible refine (T15 _).mono ?_); rintro x w3 ⟨rfl, hB3⟩; have D3 := D2.on hB3; have BW3 := btr BW2 hB3; clear T15))
    have HB : Hid (Below w.heap.size w _) := BW3
    clear hB hB2 hB3 d0 d1 l0 l1 BW BW2 BW3
    go_loopw [53] (fun v53 wr => ∃ k : Nat, k ≤ ss.length ∧ v53 = .int .i64 (k : Nat) ∧ Hid (Below w.heap.size w wr)) (fun v53 _ => ss.length - (intOf v53).toNat)
    case atStart => exact ⟨0, Nat.zero_le _, rfl, HB⟩
    case round =>
      obtain ⟨k, hk, rfl, hB⟩ := hrel
      clear HB
      by_cases hlt : k < ss.length
      · have hkI : ((k : Nat) : Int) < (ss.length : Nat) := by omega
        obtain ⟨b, o, rfl, r0⟩ := HS.out.at_ k hlt
        have r := r0.below hB.out
        have x0 := r.c k hlt
        have x2 := r.lt
        have hcap := HS.out.cap
        have f0 := HS.out.fit k hlt
        generalize ss[k] = s at *
        obtain ⟨m, n, e, R16, R17⟩ := parse_both s f0
        clear r r0 f0
        go_wp2_with (first
          | (go_at_call 17; (with_reducible refine (R17 _).mono ?_); rintro rr w2 ⟨rfl, hB2⟩; have BW2 := btr hB.out hB2)
          | (go_at_call 16; (with_reducible refine (R16 _ (HV.out _ (bal BW2 _))).mono ?_); rintro rr w3 ⟨rfl, hB3⟩; have E1 := (bk_new w2 #[.int .u64 m, .int .i64 n] 28).on hB3; have c0 : ∀ j, w3.cell? ⟨w2.heap.size, j, none⟩ = _ := E1.cell; have c1 := E1.lt))
        exact ⟨⟨k + 1, by omega, by simp, hid (bal (btr (bal BW2 _) hB3) _)⟩, by simp [intOf]; omega⟩
      · obtain rfl : k = ss.length := by omega
        go_wp2
        go_ret
        exact ⟨rfl, hB.out⟩
end Go.Proofs.YtcfmhkhfmcmkbaaDoor
namespace Go.Proofs.YtcfmhkhfmcmkbaaDoor
open Go.ChangeShapes Go.WideShapes Go.ChangeAt Go.RowKit Go.Joins

def textsLaid : List (String × DataW Unit) := [("math/bits.deBruijn32tab", Rows.laid_math_bits_deBruijn32tab), ("math/bits.deBruijn64tab", Rows.laid_math_bits_deBruijn64tab), ("internal/strconv.uint64pow10", Rows.laid_internal_strconv_uint64pow10), ("strconv.ErrRange", Rows.laid_strconv_ErrRange), ("strconv.ErrSyntax", Rows.laid_strconv_ErrSyntax)]
theorem laid_tail {P : Program} {W : World} {x : String × DataW Unit} {l : List (String × DataW Unit)} (h : laidMet P (x :: l) W) : laidMet P l W := by
  obtain ⟨ps, hl, hnd, hrows⟩ := h
  obtain ⟨g, t, cs, fuel, p, q, e1, e2, e3, e4, hr, rfl⟩ := hl
  exact ⟨q, hr, hnd.sublist (List.sublist_append_right _ _), fun b off hp => hrows b off ((List.sublist_append_right _ _).subset hp)⟩
theorem ev_of_reads {w : World} {n : String} {nm : String} {d : DataW Unit} (h : Lib.VarReads Tryd.prog w n (.iface nm d)) {g : Nat} (hg : Tryd.prog.globalNamed n = some g) (ht : (Tryd.prog.globals[g]?).map (·.type) = some 85) : Ev w n := by
  obtain ⟨g', t, cs, fuel, p, h1, h2, h3, h4⟩ := h
  obtain rfl := Option.some.inj (hg.symm.trans h1)
  obtain rfl := Option.some.inj (ht.symm.trans h2)
  cases fuel with
  | zero => simp [DataW.trod] at h4
  | succ fuel =>
    simp only [DataW.trod, Tryd.underlying85] at h4
    split at h4
    all_goals first
      | (rename_i u v a b; exact ⟨u, v, h3.trans (congrArg some (Array.toList_inj.1 (show cs.toList = (#[Value.iface u v] : Array Value).toList from b)))⟩)
      | (rename_i a b; cases a; done)
      | (rename_i b; cases b; done)
      | (cases h4; done)
theorem vr_of_laid {W : World} (h0 : laidMetH Tryd.prog textsLaid W) : VR W := by
  rw [MakeChecks.laidMetH_plain _ _ _ (by kernel_rfl)] at h0
  have h' : laidMet Tryd.prog [("math/bits.deBruijn32tab", Rows.laid_math_bits_deBruijn32tab), ("math/bits.deBruijn64tab", Lib.tabData .u8 (Lib.deBruijn64tab.map fun n : Nat => (n : Int))), ("internal/strconv.uint64pow10", Lib.tabData .u64 Lib.pow10Tab), ("strconv.ErrRange", Rows.laid_strconv_ErrRange), ("strconv.ErrSyntax", Rows.laid_strconv_ErrSyntax)] W := h0
  have h1 := laid_tail h'
  have h2 := laid_tail h1
  have ht : Lib.TabIs Tryd.prog W "math/bits.deBruijn64tab" .u8 (Lib.deBruijn64tab.map fun n : Nat => (n : Int)) :=
    Lib.tabIs_of_head (g := 1) (t := 140) (e := 5) (by kernel_rfl) (by kernel_rfl) Tryd.underlying140 Tryd.underlying5 (by kernel_rfl) (by kernel_rfl) h1
  have hT : Tab W := by
    refine ⟨fun j hj => ?_⟩
    have hc := ht.cell (g := 1) (by kernel_rfl) j (by rw [List.length_map]; exact hj)
    rw [hc]
    simp only [List.getD, List.getElem?_map]
    cases Lib.deBruijn64tab[j]? <;> rfl
  exact ⟨hT, Lib.tabIs_of_head (g := 0) (t := 129) (e := 26) (by kernel_rfl) (by kernel_rfl) Tryd.underlying129 Tryd.underlying26 (by kernel_rfl) (by kernel_rfl) h2,
    ev_of_reads (g := 3) (Lib.laidMet.reads h0 (n := "strconv.ErrSyntax") (d := Rows.laid_strconv_ErrSyntax) (by simp [textsLaid])) (by kernel_rfl) (by kernel_rfl),
    ev_of_reads (g := 4) (Lib.laidMet.reads h0 (n := "strconv.ErrRange") (d := Rows.laid_strconv_ErrRange) (by simp [textsLaid])) (by kernel_rfl) (by kernel_rfl)⟩
theorem texts_met (os : Os) (args : Array Value) : laidMetH Tryd.prog textsLaid ((World.laidAll Tryd.prog os textsLaid).forCall (fun _ _ => 0) ⟨#[], args, []⟩).memory := by
  rw [MakeChecks.laidMetH_plain _ _ _ (by kernel_rfl)]
  exact laidMet_laidAll _ (by kernel_rfl) (by kernel_rfl)
theorem Tryd.cells9 : Tryd.prog.cellsOf 9 = 1 := by kernel_rfl
theorem Tryd.cellsC28 : Tryd.prog.cellsOf 28 = 2 := by kernel_rfl
theorem wAll_mem {H : Type} {P : Program} {e : TypeId} : ∀ {l : List (DataW H)} {d : DataW H}, d ∈ l → ∀ n ∈ d.weights P e, n ∈ DataW.weightsAll P e l
  | d' :: r, d, hd, n, hn => by
    simp only [DataW.weightsAll, List.mem_append]
    rcases List.mem_cons.1 hd with rfl | h
    · exact Or.inl hn
    · exact Or.inr (wAll_mem h n hn)
set_option maxRecDepth 100000 in
theorem strs_of_trod {H : Type} {enc : TypeId × Value → H} {W : World} {base : Nat} {v : Value} {d d0 : DataW H} {p : List MemPlace}
    (hval : Value.okWide Tryd.prog W .any base 42 v) (h : DataW.Trod enc Tryd.prog W 0 (fun _ => true) true 42 v d p)
    (hsz : (DataW.weightsEach Tryd.prog [28, 42] [d0, d]).all (· ≤ reachBytes) = true) :
    ∃ (a : Option Addr) (c : Nat) (ss : List ByteArray), v = .slice a ss.length c ∧ SS W a c ss := by
  obtain ⟨a0, len, cap, rfl⟩ := okWide_slice Tryd.underlying42 hval
  obtain ⟨fuel, hf⟩ := h
  rcases open_strings Tryd.underlying42 Tryd.underlying9 Tryd.cells9 hf with ⟨hcs, _⟩ | ⟨a, len', cap', ss, hcs, _, hl, hm, hz, hx, hcell, hsz'⟩
  · simp [Value.cells] at hcs
    obtain ⟨rfl, rfl, rfl⟩ := hcs
    exact ⟨none, 0, [], rfl, Nat.le_refl _, fun k hk => absurd hk (Nat.not_lt_zero _), fun k hk => absurd hk (Nat.not_lt_zero _), Nat.zero_le _⟩
  · simp [Value.cells] at hcs
    obtain ⟨rfl, rfl, rfl⟩ := hcs
    simp only [if_true] at hz
    unfold maxLen at hm
    simp only [Prod.mk.injEq] at hx
    obtain ⟨rfl, _⟩ := hx
    have hln : (ss.take len).length = len := by rw [List.length_take]; omega
    have hin : ∀ s ∈ ss.take len, s.size ≤ 281474976710656 := fun s hs => by
      have h1 : s.data.toList.length ∈ DataW.weightsEach Tryd.prog [28, 42] [d0, .slice (strs (ss.take len)) (strs (ss.drop len))] := by
        simp only [DataW.weightsEach, DataW.weights, Tryd.underlying42, List.mem_append, List.mem_cons, List.append_nil]
        refine .inr (.inr (.inl (wAll_mem (d := .lit (.string s.data.toList)) ?_ _ ?_)))
        · exact List.mem_map.2 ⟨s, hs, rfl⟩
        · simp [DataW.weights]
      have h2 := of_decide_eq_true (List.all_eq_true.1 hsz _ h1)
      have e : s.data.toList.length = s.size := rfl
      rw [e] at h2
      unfold reachBytes at h2
      omega
    refine ⟨some a, cap, ss.take len, by rw [hln], by omega, fun k hk => ?_, fun k hk => hin _ (List.getElem_mem _), by omega⟩
    rw [hln] at hk
    obtain ⟨b, off, spot⟩ := a
    have h00 := hcell 0 (by omega)
    have hspot : spot = none := by simpa [Addr.add] using World.cell?_spot h00
    subst hspot
    refine ⟨b, off, rfl, fun j hj => ?_, World.block_lt_of_cell? W _ h00⟩
    rw [hln] at hj
    have hc := hcell j (by omega)
    rw [Go.WideShapes.add_plain] at hc
    rw [hc]
    simp [List.getD, List.getElem?_eq_getElem (show j < ss.length by omega)]
set_option maxRecDepth 100000 in
theorem open_coin {H : Type} {enc : TypeId × Value → H} {W : World} {base b0 : Nat} {sp : Nat → Bool} {held : Bool} {r : Reach} {v : Value} {d : DataW H} {p : List MemPlace}
    (hv : Value.okWide Tryd.prog W r b0 28 v) (h : DataW.Trod enc Tryd.prog W base sp held 28 v d p) :
    ∃ a b : Int, v = cv a b ∧ d = .agg [.lit (.int .u64 a), .lit (.int .i64 b)] ∧ p = [] ∧ (Lit.int .u64 a).wf = true ∧ (Lit.int .i64 b).wf = true := by
  obtain ⟨c0, c1, y0, y1, m, rfl, rfl, rfl, h0, h1⟩ := open_agg2 Tryd.underlying28 (by kernel_rfl) Tryd.cellsC28 hv h
  obtain ⟨a, e0, rfl, wa⟩ := DataW.trod_int Tryd.underlying26 h0
  obtain ⟨b, e1, rfl, wb⟩ := DataW.trod_int Tryd.underlying3 h1
  simp at e0 e1
  subst e0 e1
  exact ⟨a, b, rfl, rfl, rfl, wa, wb⟩
set_option maxRecDepth 100000 in
theorem shut_coin {H : Type} {enc : TypeId × Value → H} {W : World} {base : Nat} {sp : Nat → Bool} {held : Bool} {a b : Int} (wa : (Lit.int .u64 a).wf = true) (wb : (Lit.int .i64 b).wf = true) :
    DataW.Trod enc Tryd.prog W base sp held 28 (cv a b) (.agg [.lit (.int .u64 a), .lit (.int .i64 b)]) [] :=
  shut_agg2 (y0 := (.lit (.int .u64 a), [])) (y1 := (.lit (.int .i64 b), [])) Tryd.underlying28 (by kernel_rfl) Tryd.cellsC28
    ⟨1, by simp [DataW.trod, Tryd.underlying26, wa]⟩ ⟨1, by simp [DataW.trod, Tryd.underlying3, wb]⟩
end Go.Proofs.YtcfmhkhfmcmkbaaDoor
