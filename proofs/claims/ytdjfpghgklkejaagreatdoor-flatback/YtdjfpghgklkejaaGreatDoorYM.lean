/-
  Put together of: FQa FQ.
-/
import Derived.Test.YtdjfpghgklkejaaGreatDoorXQ
import Derived.Test.YtdjfpghgklkejaaGreatDoorYJ
import Derived.Test.YtdjfpghgklkejaaGreatDoorYL
namespace Go.Proofs.YtdjfpghgklkejaaGreatDoor
open Go.RowKit Go.Sort
theorem RowO.shape {w0 W W' : World} {lb mb M : Nat} {hi : HG} {pr : En × Bool} {S : Except Fa (En × List TO)} {e : Ending} (h : RowO w0 W W' lb mb hi M pr S e) : ∃ p x, e = .returned (.tuple #[ppV p, .int .i64 x]) := by
 rcases h.2 with ⟨x, _, ⟨p, rfl⟩, _⟩ | ⟨_, _, p, _, _, _, rfl, _⟩
 ·exact ⟨p, _, rfl⟩
 ·exact ⟨p, _, rfl⟩
structure BX (w0 W V w1 : World) (hi : HG) (b : Nat) : Prop where
 below : Below W.heap.size W V
 fr : Fr V w1 w0.heap.size hi.h
 b0 : W.heap.size ≤ b
 b1 : b < V.heap.size
 h : hi.h ≤ W.heap.size
 up : ∀ b, W.heap.size ≤ b → hi.G b
section
variable {w0 W V w1 : World} {lb mb N M : Nat} {hi : HG} {b : Nat} {en : En} {pl : Int}
theorem BX.hx (B : BX w0 W V w1 hi b) : ∀ c, (hi.cut W.heap.size V.heap.size).G c → c < b ∨ b + 1 ≤ c := fun c hc => by
 have h1 := B.b0
 have h2 := B.b1
 rcases hc.2 with h | h <;> omega
theorem BX.lk (B : BX w0 W V w1 hi b) (us : List Value) (H : LK w0 w1 lb mb (hi.cut W.heap.size V.heap.size) N en pl) : LK w0 (w1.setCells b 0 us) lb mb hi N en pl := by
 have gs := (fr_sets b us 0 w1).1
 have hb := B.b0
 have hh := B.h
 exact (H.far gs B.hx (by show hi.h ≤ b; omega)).wide (hi2 := hi) rfl (fun c _ hc => hc.1) (fun c hc => B.up c (Nat.le_trans B.below.size (Nat.le_trans (Nat.le_trans B.fr.size gs.size) hc)))
theorem BX.fw (B : BX w0 W V w1 hi b) (us : List Value) : Fr W (w1.setCells b 0 us) w0.heap.size hi.h := ((fr_of_below B.below).trans B.fr).sets B.b0 us
theorem BX.le (B : BX w0 W V w1 hi b) (us : List Value) (h : LE w1 lb mb M pl) (h1 : lb < hi.h) (h2 : mb < hi.h) : LE (w1.setCells b 0 us) lb mb M pl := by
 have hb := B.b0
 have hh := B.h
 exact h.fr (fr_sets b us 0 w1).1 (.inl (by omega)) (.inl (by omega))
theorem BX.rowP (B : BX w0 W V w1 hi b) (us : List Value) {nn : Nat} {p : PP} {L : List TO} (h : RowP w1 (hi.cut W.heap.size V.heap.size) nn p L) : RowP (w1.setCells b 0 us) hi nn p L := by
 have gs := (fr_sets b us 0 w1).1
 obtain ⟨Lb, L', h1, h2, h3, h4, h5, h6, h7⟩ := h
 exact ⟨Lb, L', (h1.far gs B.hx).wide (fun c _ hc => hc.1), (h2.far gs B.hx).wide (fun c _ hc => hc.1), h3, h4, h5, h6, h7⟩
theorem rowO_up {pr : En × Bool} {S : Except Fa (En × List TO)} {e : Ending} (B : BX w0 W V w1 hi b) (us : List Value) (h : RowO w0 V w1 lb mb (hi.cut W.heap.size V.heap.size) M pr S e) (h1 : lb < hi.h) (h2 : mb < hi.h) {M' : Nat} (hM : M ≤ M') : RowO w0 W (w1.setCells b 0 us) lb mb hi M' pr S e := by
 refine ⟨B.fw us, ?_⟩
 rcases h.2 with ⟨x, e1, e2, e3, e4⟩ | ⟨en1, L, p, pl, N, e1, e2, e3, e4, e5, e6, e7⟩
 ·exact .inl ⟨x, e1, e2, e3, (B.le us e4 h1 h2).mono hM⟩
 ·exact .inr ⟨en1, L, p, pl, N, e1, e2, B.lk us e3, Nat.le_trans e4 hM, e5, e6, B.rowP us e7⟩
def decR (en : En) (sd : Sd) (r : Rw) (s : Nat) : Except Fa (En × List TO) := if decE en r (allN en s) ≠ 0 then .error (sd.p, decE en r (allN en s)) else .ok (addN ⟨putN en.nm r.name ⟨s, allN en s, r.num.toNat, 0, []⟩, en.q, en.b, en.pr, en.d⟩ s r.num.toNat, [])
theorem rowR_qubits (rec : RecT) (en : En) (sd : Sd) (r : Rw) (body : List Rw) (h : r.kind = wQubits) : rowR rec en sd r body = decR en sd r 1 := by
 unfold rowR decR
 rw [if_pos h]
 rfl
theorem rowR_bits (rec : RecT) (en : En) (sd : Sd) (r : Rw) (body : List Rw) (h : r.kind = wBits) : rowR rec en sd r body = decR en sd r 2 := by
 unfold rowR decR
 rw [if_neg (by rw [h]; decide), if_pos h]
 rfl
theorem dec_up {sd : Sd} {r : Rw} {s : Nat} {e : Ending} (B : BX w0 W V w1 hi b) (h : DecO w0 V w1 lb mb (hi.cut W.heap.size V.heap.size) N en pl r s e) (hs : s = 1 ∨ s = 2) (hsp : sd.p = pl) (h1 : lb < hi.h) (h2 : mb < hi.h) {M' : Nat} (hM : N + 1 ≤ M') :
  RowO w0 W (w1.setCells b 0 (ppc pp0)) lb mb hi M' (en, sd.g) (decR en sd r s) (.returned (.tuple #[ppV pp0, .int .i64 (decE en r (allN en s) : Nat)])) := by
 refine ⟨B.fw _, ?_⟩
 by_cases hd : decE en r (allN en s) = 0
 ·obtain ⟨k1, k2⟩ := h.2.2.2 hd
  refine .inr ⟨_, [], pp0, pl, N + 1, by unfold decR; rw [if_neg (by simpa using hd)], by rw [hd]; rfl, B.lk _ k1, hM, k2, ?_, rowP_none _ _ _⟩
  rcases hs with rfl | rfl
  ·exact ⟨fun _ => rfl, Nat.le_add_right _ _⟩
  ·exact ⟨fun _ => rfl, Nat.le_refl _⟩
 ·exact .inl ⟨_, by unfold decR; rw [if_pos hd], ⟨pp0, rfl⟩, hd, by rw [hsp]; exact B.le _ ((h.2.2.1 hd).le (by omega)) h1 h2⟩
theorem DefO.shape {S : Except Fa (En × List TO)} {e : Ending} (h : DefO w0 W w1 lb mb hi M en S e) : ∃ x, e = .returned (.int .i64 x) := by
 rcases h.2 with ⟨x, _, rfl, _⟩ | ⟨_, _, _, _, rfl, _⟩
 ·exact ⟨_, rfl⟩
 ·exact ⟨_, rfl⟩
theorem def_up {S : Except Fa (En × List TO)} {x : Int} (B : BX w0 W V w1 hi b) (h : DefO w0 V w1 lb mb (hi.cut W.heap.size V.heap.size) M en S (.returned (.int .i64 x))) (h1 : lb < hi.h) (h2 : mb < hi.h) : RowO w0 W (w1.setCells b 0 (ppc pp0)) lb mb hi M (en, false) S (.returned (.tuple #[ppV pp0, .int .i64 x])) := by
 refine ⟨B.fw _, ?_⟩
 rcases h.2 with ⟨y, e1, e2, e3, e4⟩ | ⟨en1, pl', N', e1, e2, e3, e4, e5, e6⟩
 ·injection e2 with e2
  exact .inl ⟨y, e1, ⟨pp0, by rw [e2]⟩, e3, B.le _ e4 h1 h2⟩
 ·injection e2 with e2
  exact .inr ⟨en1, [], pp0, pl', N', e1, by rw [e2], B.lk _ e3, e4, e5, ⟨fun h => (by cases h), e6⟩, rowP_none _ _ _⟩
end
end Go.Proofs.YtdjfpghgklkejaaGreatDoor
namespace Go.Proofs.YtdjfpghgklkejaaGreatDoor
open Go.RowKit Go.Sort
set_option maxHeartbeats 2000000 in
set_option maxRecDepth 100000 in
theorem rowW_repeat {W : World} {lb : Nat} (nm : ByteArray) (aa : Option Addr) (al ac : Nat) (nu ro pc : Int) (bba : Option Addr) (bbn bbc : Nat) (p : Int) (n : Nat) (g : Bool) (m v : Nat) (hn : n ≤ 32) (Q : Ending → World → Prop) (V : World) (hV : V = (((W.alloc (.cells #[.string wRepeat, .string nm, .slice aa al ac, .int .i64 nu, .int .i64 ro, .int .i64 pc] 79)).alloc (.cells #[.int .i64 p, .int .i64 (n : Nat), .bool g, .int .u64 (m : Nat), .int .u64 (v : Nat)] 69)).alloc (.cells pzC 113)).alloc (.cells #[.int .i64 p, .int .i64 ((n : Int) + 1), .bool g, .int .u64 (m : Nat), .int .u64 (v : Nat)] 69)) (post : Ending → World → Prop) (F : Calls Tryz.prog 86 #[.pointer (some ⟨lb, 0, none⟩), .agg #[.string wRepeat, .string nm, .slice aa al ac, .int .i64 nu, .int .i64 ro, .int .i64 pc], .slice bba bbn bbc, .agg #[.int .i64 p, .int .i64 (n : Nat), .bool g, .int .u64 (m : Nat), .int .u64 (v : Nat)], .agg #[.int .i64 p, .int .i64 ((n : Int) + 1), .bool g, .int .u64 (m : Nat), .int .u64 (v : Nat)]] V post)
  (hsh : ∀ e w1, post e w1 → (∃ p x, e = .returned (.tuple #[ppV p, .int .i64 x])) ∧ BK w1 (W.heap.size + 1 + 1) pzC 113)
  (hQ : ∀ p x w1, post (.returned (.tuple #[ppV p, .int .i64 x])) w1 → Q (.returned (.tuple #[ppV p, .int .i64 x])) (w1.setCells (W.heap.size + 1 + 1) 0 (ppc p))) :
  Calls Tryz.prog 54 #[.pointer (some ⟨lb, 0, none⟩), .agg #[.string wRepeat, .string nm, .slice aa al ac, .int .i64 nu, .int .i64 ro, .int .i64 pc], .slice bba bbn bbc, .agg #[.int .i64 p, .int .i64 (n : Nat), .bool g, .int .u64 (m : Nat), .int .u64 (v : Nat)]] W Q := by
 have HSH := hid hsh
 have HQ := hid hQ
 have HV := hid hV
 clear hsh hQ hV
 go_enter Tryz.func54, Tryz.ntmps54
 go_wp2_with (go_at_call 86; refine Hid.out ?_)
 refine hid ?_
 rw [show (((W.alloc (.cells #[.string wRepeat, .string nm, .slice aa al ac, .int .i64 nu, .int .i64 ro, .int .i64 pc] 79)).alloc (.cells #[.int .i64 p, .int .i64 (n : Nat), .bool g, .int .u64 (m : Nat), .int .u64 (v : Nat)] 69)).alloc (.cells pzC 113)).alloc (.cells #[.int .i64 p, .int .i64 ((n : Int) + 1), .bool g, .int .u64 (m : Nat), .int .u64 (v : Nat)] 69) = V from HV.out.symm]
 clear HV
 refine F.mono ?_
 rintro e w1 hP
 obtain ⟨⟨pp, x, rfl⟩, bk⟩ := HSH.out e w1 hP
 have HP := hid (HQ.out pp x w1 hP)
 obtain ⟨⟨q1, q2, q3, q4, q5⟩, q6, q7, q8, q9, q10, q11, q12, q13, q14, q15⟩ := pp
 have d3 := bk.cell
 have f3 := bk.free
 have l3 := bk.lt
 clear bk hP HSH HQ F
 go_wp2
 refine bodyPost_ret (v := .tuple #[ppV ⟨⟨q1, q2, q3, q4, q5⟩, q6, q7, q8, q9, q10, q11, q12, q13, q14, q15⟩, .int .i64 x]) (by simp [results, Tryz.results54, go_sem, d3]) rfl ?_
 exact HP.out
set_option maxHeartbeats 2000000 in
set_option maxRecDepth 100000 in
theorem rowW_if {W : World} {lb : Nat} (nm : ByteArray) (aa : Option Addr) (al ac : Nat) (nu ro pc : Int) (bba : Option Addr) (bbn bbc : Nat) (p : Int) (n : Nat) (g : Bool) (m v : Nat) (hn : n ≤ 32) (Q : Ending → World → Prop) (V : World) (hV : V = (((W.alloc (.cells #[.string wIf, .string nm, .slice aa al ac, .int .i64 nu, .int .i64 ro, .int .i64 pc] 79)).alloc (.cells #[.int .i64 p, .int .i64 (n : Nat), .bool g, .int .u64 (m : Nat), .int .u64 (v : Nat)] 69)).alloc (.cells pzC 113)).alloc (.cells #[.int .i64 p, .int .i64 ((n : Int) + 1), .bool g, .int .u64 (m : Nat), .int .u64 (v : Nat)] 69)) (post : Ending → World → Prop) (F : Calls Tryz.prog 87 #[.pointer (some ⟨lb, 0, none⟩), .agg #[.string wIf, .string nm, .slice aa al ac, .int .i64 nu, .int .i64 ro, .int .i64 pc], .slice bba bbn bbc, .agg #[.int .i64 p, .int .i64 (n : Nat), .bool g, .int .u64 (m : Nat), .int .u64 (v : Nat)], .agg #[.int .i64 p, .int .i64 ((n : Int) + 1), .bool g, .int .u64 (m : Nat), .int .u64 (v : Nat)]] V post)
  (hsh : ∀ e w1, post e w1 → (∃ p x, e = .returned (.tuple #[ppV p, .int .i64 x])) ∧ BK w1 (W.heap.size + 1 + 1) pzC 113)
  (hQ : ∀ p x w1, post (.returned (.tuple #[ppV p, .int .i64 x])) w1 → Q (.returned (.tuple #[ppV p, .int .i64 x])) (w1.setCells (W.heap.size + 1 + 1) 0 (ppc p))) :
  Calls Tryz.prog 54 #[.pointer (some ⟨lb, 0, none⟩), .agg #[.string wIf, .string nm, .slice aa al ac, .int .i64 nu, .int .i64 ro, .int .i64 pc], .slice bba bbn bbc, .agg #[.int .i64 p, .int .i64 (n : Nat), .bool g, .int .u64 (m : Nat), .int .u64 (v : Nat)]] W Q := by
 have HSH := hid hsh
 have HQ := hid hQ
 have HV := hid hV
 clear hsh hQ hV
 go_enter Tryz.func54, Tryz.ntmps54
 go_wp2_with (go_at_call 87; refine Hid.out ?_)
 refine hid ?_
 rw [show (((W.alloc (.cells #[.string wIf, .string nm, .slice aa al ac, .int .i64 nu, .int .i64 ro, .int .i64 pc] 79)).alloc (.cells #[.int .i64 p, .int .i64 (n : Nat), .bool g, .int .u64 (m : Nat), .int .u64 (v : Nat)] 69)).alloc (.cells pzC 113)).alloc (.cells #[.int .i64 p, .int .i64 ((n : Int) + 1), .bool g, .int .u64 (m : Nat), .int .u64 (v : Nat)] 69) = V from HV.out.symm]
 clear HV
 refine F.mono ?_
 rintro e w1 hP
 obtain ⟨⟨pp, x, rfl⟩, bk⟩ := HSH.out e w1 hP
 have HP := hid (HQ.out pp x w1 hP)
 obtain ⟨⟨q1, q2, q3, q4, q5⟩, q6, q7, q8, q9, q10, q11, q12, q13, q14, q15⟩ := pp
 have d3 := bk.cell
 have f3 := bk.free
 have l3 := bk.lt
 clear bk hP HSH HQ F
 go_wp2
 refine bodyPost_ret (v := .tuple #[ppV ⟨⟨q1, q2, q3, q4, q5⟩, q6, q7, q8, q9, q10, q11, q12, q13, q14, q15⟩, .int .i64 x]) (by simp [results, Tryz.results54, go_sem, d3]) rfl ?_
 exact HP.out
set_option maxHeartbeats 2000000 in
set_option maxRecDepth 100000 in
theorem rowW_measure {W : World} {lb : Nat} (nm : ByteArray) (aa : Option Addr) (al ac : Nat) (nu ro pc : Int) (bba : Option Addr) (bbn bbc : Nat) (p : Int) (n : Nat) (g : Bool) (m v : Nat) (hn : n ≤ 32) (Q : Ending → World → Prop) (V : World) (hV : V = (((W.alloc (.cells #[.string wMeasure, .string nm, .slice aa al ac, .int .i64 nu, .int .i64 ro, .int .i64 pc] 79)).alloc (.cells #[.int .i64 p, .int .i64 (n : Nat), .bool g, .int .u64 (m : Nat), .int .u64 (v : Nat)] 69)).alloc (.cells pzC 113)).alloc (.cells #[.int .i64 p, .int .i64 ((n : Int) + 1), .bool g, .int .u64 (m : Nat), .int .u64 (v : Nat)] 69)) (post : Ending → World → Prop) (F : Calls Tryz.prog 88 #[.pointer (some ⟨lb, 0, none⟩), .agg #[.string wMeasure, .string nm, .slice aa al ac, .int .i64 nu, .int .i64 ro, .int .i64 pc], .agg #[.int .i64 p, .int .i64 (n : Nat), .bool g, .int .u64 (m : Nat), .int .u64 (v : Nat)]] V post)
  (hsh : ∀ e w1, post e w1 → (∃ p x, e = .returned (.tuple #[ppV p, .int .i64 x])) ∧ BK w1 (W.heap.size + 1 + 1) pzC 113)
  (hQ : ∀ p x w1, post (.returned (.tuple #[ppV p, .int .i64 x])) w1 → Q (.returned (.tuple #[ppV p, .int .i64 x])) (w1.setCells (W.heap.size + 1 + 1) 0 (ppc p))) :
  Calls Tryz.prog 54 #[.pointer (some ⟨lb, 0, none⟩), .agg #[.string wMeasure, .string nm, .slice aa al ac, .int .i64 nu, .int .i64 ro, .int .i64 pc], .slice bba bbn bbc, .agg #[.int .i64 p, .int .i64 (n : Nat), .bool g, .int .u64 (m : Nat), .int .u64 (v : Nat)]] W Q := by
 have HSH := hid hsh
 have HQ := hid hQ
 have HV := hid hV
 clear hsh hQ hV
 go_enter Tryz.func54, Tryz.ntmps54
 go_wp2_with (go_at_call 88; refine Hid.out ?_)
 refine hid ?_
 rw [show (((W.alloc (.cells #[.string wMeasure, .string nm, .slice aa al ac, .int .i64 nu, .int .i64 ro, .int .i64 pc] 79)).alloc (.cells #[.int .i64 p, .int .i64 (n : Nat), .bool g, .int .u64 (m : Nat), .int .u64 (v : Nat)] 69)).alloc (.cells pzC 113)).alloc (.cells #[.int .i64 p, .int .i64 ((n : Int) + 1), .bool g, .int .u64 (m : Nat), .int .u64 (v : Nat)] 69) = V from HV.out.symm]
 clear HV
 refine F.mono ?_
 rintro e w1 hP
 obtain ⟨⟨pp, x, rfl⟩, bk⟩ := HSH.out e w1 hP
 have HP := hid (HQ.out pp x w1 hP)
 obtain ⟨⟨q1, q2, q3, q4, q5⟩, q6, q7, q8, q9, q10, q11, q12, q13, q14, q15⟩ := pp
 have d3 := bk.cell
 have f3 := bk.free
 have l3 := bk.lt
 clear bk hP HSH HQ F
 go_wp2
 refine bodyPost_ret (v := .tuple #[ppV ⟨⟨q1, q2, q3, q4, q5⟩, q6, q7, q8, q9, q10, q11, q12, q13, q14, q15⟩, .int .i64 x]) (by simp [results, Tryz.results54, go_sem, d3]) rfl ?_
 exact HP.out
set_option maxHeartbeats 2000000 in
set_option maxRecDepth 100000 in
theorem rowW_reset {W : World} {lb : Nat} (nm : ByteArray) (aa : Option Addr) (al ac : Nat) (nu ro pc : Int) (bba : Option Addr) (bbn bbc : Nat) (p : Int) (n : Nat) (g : Bool) (m v : Nat) (hn : n ≤ 32) (Q : Ending → World → Prop) (V : World) (hV : V = (((W.alloc (.cells #[.string wReset, .string nm, .slice aa al ac, .int .i64 nu, .int .i64 ro, .int .i64 pc] 79)).alloc (.cells #[.int .i64 p, .int .i64 (n : Nat), .bool g, .int .u64 (m : Nat), .int .u64 (v : Nat)] 69)).alloc (.cells pzC 113)).alloc (.cells #[.int .i64 p, .int .i64 ((n : Int) + 1), .bool g, .int .u64 (m : Nat), .int .u64 (v : Nat)] 69)) (post : Ending → World → Prop) (F : Calls Tryz.prog 89 #[.pointer (some ⟨lb, 0, none⟩), .agg #[.string wReset, .string nm, .slice aa al ac, .int .i64 nu, .int .i64 ro, .int .i64 pc], .agg #[.int .i64 p, .int .i64 (n : Nat), .bool g, .int .u64 (m : Nat), .int .u64 (v : Nat)]] V post)
  (hsh : ∀ e w1, post e w1 → (∃ p x, e = .returned (.tuple #[ppV p, .int .i64 x])) ∧ BK w1 (W.heap.size + 1 + 1) pzC 113)
  (hQ : ∀ p x w1, post (.returned (.tuple #[ppV p, .int .i64 x])) w1 → Q (.returned (.tuple #[ppV p, .int .i64 x])) (w1.setCells (W.heap.size + 1 + 1) 0 (ppc p))) :
  Calls Tryz.prog 54 #[.pointer (some ⟨lb, 0, none⟩), .agg #[.string wReset, .string nm, .slice aa al ac, .int .i64 nu, .int .i64 ro, .int .i64 pc], .slice bba bbn bbc, .agg #[.int .i64 p, .int .i64 (n : Nat), .bool g, .int .u64 (m : Nat), .int .u64 (v : Nat)]] W Q := by
 have HSH := hid hsh
 have HQ := hid hQ
 have HV := hid hV
 clear hsh hQ hV
 go_enter Tryz.func54, Tryz.ntmps54
 go_wp2_with (go_at_call 89; refine Hid.out ?_)
 refine hid ?_
 rw [show (((W.alloc (.cells #[.string wReset, .string nm, .slice aa al ac, .int .i64 nu, .int .i64 ro, .int .i64 pc] 79)).alloc (.cells #[.int .i64 p, .int .i64 (n : Nat), .bool g, .int .u64 (m : Nat), .int .u64 (v : Nat)] 69)).alloc (.cells pzC 113)).alloc (.cells #[.int .i64 p, .int .i64 ((n : Int) + 1), .bool g, .int .u64 (m : Nat), .int .u64 (v : Nat)] 69) = V from HV.out.symm]
 clear HV
 refine F.mono ?_
 rintro e w1 hP
 obtain ⟨⟨pp, x, rfl⟩, bk⟩ := HSH.out e w1 hP
 have HP := hid (HQ.out pp x w1 hP)
 obtain ⟨⟨q1, q2, q3, q4, q5⟩, q6, q7, q8, q9, q10, q11, q12, q13, q14, q15⟩ := pp
 have d3 := bk.cell
 have f3 := bk.free
 have l3 := bk.lt
 clear bk hP HSH HQ F
 go_wp2
 refine bodyPost_ret (v := .tuple #[ppV ⟨⟨q1, q2, q3, q4, q5⟩, q6, q7, q8, q9, q10, q11, q12, q13, q14, q15⟩, .int .i64 x]) (by simp [results, Tryz.results54, go_sem, d3]) rfl ?_
 exact HP.out
set_option maxHeartbeats 2000000 in
set_option maxRecDepth 100000 in
theorem rowW_use {W : World} {lb : Nat} (nm : ByteArray) (aa : Option Addr) (al ac : Nat) (nu ro pc : Int) (bba : Option Addr) (bbn bbc : Nat) (p : Int) (n : Nat) (g : Bool) (m v : Nat) (hn : n ≤ 32) (Q : Ending → World → Prop) (V : World) (hV : V = (((W.alloc (.cells #[.string wUse, .string nm, .slice aa al ac, .int .i64 nu, .int .i64 ro, .int .i64 pc] 79)).alloc (.cells #[.int .i64 p, .int .i64 (n : Nat), .bool g, .int .u64 (m : Nat), .int .u64 (v : Nat)] 69)).alloc (.cells pzC 113)).alloc (.cells #[.int .i64 p, .int .i64 ((n : Int) + 1), .bool g, .int .u64 (m : Nat), .int .u64 (v : Nat)] 69)) (post : Ending → World → Prop) (F : Calls Tryz.prog 90 #[.pointer (some ⟨lb, 0, none⟩), .agg #[.string wUse, .string nm, .slice aa al ac, .int .i64 nu, .int .i64 ro, .int .i64 pc], .agg #[.int .i64 p, .int .i64 (n : Nat), .bool g, .int .u64 (m : Nat), .int .u64 (v : Nat)]] V post)
  (hsh : ∀ e w1, post e w1 → (∃ p x, e = .returned (.tuple #[ppV p, .int .i64 x])) ∧ BK w1 (W.heap.size + 1 + 1) pzC 113)
  (hQ : ∀ p x w1, post (.returned (.tuple #[ppV p, .int .i64 x])) w1 → Q (.returned (.tuple #[ppV p, .int .i64 x])) (w1.setCells (W.heap.size + 1 + 1) 0 (ppc p))) :
  Calls Tryz.prog 54 #[.pointer (some ⟨lb, 0, none⟩), .agg #[.string wUse, .string nm, .slice aa al ac, .int .i64 nu, .int .i64 ro, .int .i64 pc], .slice bba bbn bbc, .agg #[.int .i64 p, .int .i64 (n : Nat), .bool g, .int .u64 (m : Nat), .int .u64 (v : Nat)]] W Q := by
 have HSH := hid hsh
 have HQ := hid hQ
 have HV := hid hV
 clear hsh hQ hV
 go_enter Tryz.func54, Tryz.ntmps54
 go_wp2_with (go_at_call 90; refine Hid.out ?_)
 refine hid ?_
 rw [show (((W.alloc (.cells #[.string wUse, .string nm, .slice aa al ac, .int .i64 nu, .int .i64 ro, .int .i64 pc] 79)).alloc (.cells #[.int .i64 p, .int .i64 (n : Nat), .bool g, .int .u64 (m : Nat), .int .u64 (v : Nat)] 69)).alloc (.cells pzC 113)).alloc (.cells #[.int .i64 p, .int .i64 ((n : Int) + 1), .bool g, .int .u64 (m : Nat), .int .u64 (v : Nat)] 69) = V from HV.out.symm]
 clear HV
 refine F.mono ?_
 rintro e w1 hP
 obtain ⟨⟨pp, x, rfl⟩, bk⟩ := HSH.out e w1 hP
 have HP := hid (HQ.out pp x w1 hP)
 obtain ⟨⟨q1, q2, q3, q4, q5⟩, q6, q7, q8, q9, q10, q11, q12, q13, q14, q15⟩ := pp
 have d3 := bk.cell
 have f3 := bk.free
 have l3 := bk.lt
 clear bk hP HSH HQ F
 go_wp2
 refine bodyPost_ret (v := .tuple #[ppV ⟨⟨q1, q2, q3, q4, q5⟩, q6, q7, q8, q9, q10, q11, q12, q13, q14, q15⟩, .int .i64 x]) (by simp [results, Tryz.results54, go_sem, d3]) rfl ?_
 exact HP.out
set_option maxHeartbeats 2000000 in
set_option maxRecDepth 100000 in
theorem rowW_gate {W : World} {lb : Nat} (nm : ByteArray) (aa : Option Addr) (al ac : Nat) (nu ro pc : Int) (bba : Option Addr) (bbn bbc : Nat) (p : Int) (n : Nat) (g : Bool) (m v : Nat) (hn : n ≤ 32) (Q : Ending → World → Prop) (V : World) (hV : V = (((W.alloc (.cells #[.string wGate, .string nm, .slice aa al ac, .int .i64 nu, .int .i64 ro, .int .i64 pc] 79)).alloc (.cells #[.int .i64 p, .int .i64 (n : Nat), .bool g, .int .u64 (m : Nat), .int .u64 (v : Nat)] 69)).alloc (.cells pzC 113)).alloc (.cells #[.int .i64 p, .int .i64 ((n : Int) + 1), .bool true, .int .u64 (m : Nat), .int .u64 (v : Nat)] 69)) (post : Ending → World → Prop) (F : Calls Tryz.prog 85 #[.pointer (some ⟨lb, 0, none⟩), .agg #[.string wGate, .string nm, .slice aa al ac, .int .i64 nu, .int .i64 ro, .int .i64 pc], .slice bba bbn bbc, .agg #[.int .i64 p, .int .i64 ((n : Int) + 1), .bool true, .int .u64 (m : Nat), .int .u64 (v : Nat)]] V post)
  (hsh : ∀ e w1, post e w1 → (∃ x, e = .returned (.int .i64 x)) ∧ BK w1 (W.heap.size + 1 + 1) pzC 113)
  (hQ : ∀ x w1, post (.returned (.int .i64 x)) w1 → Q (.returned (.tuple #[ppV pp0, .int .i64 x])) (w1.setCells (W.heap.size + 1 + 1) 0 (ppc pp0))) :
  Calls Tryz.prog 54 #[.pointer (some ⟨lb, 0, none⟩), .agg #[.string wGate, .string nm, .slice aa al ac, .int .i64 nu, .int .i64 ro, .int .i64 pc], .slice bba bbn bbc, .agg #[.int .i64 p, .int .i64 (n : Nat), .bool g, .int .u64 (m : Nat), .int .u64 (v : Nat)]] W Q := by
 have HSH := hid hsh
 have HQ := hid hQ
 have HV := hid hV
 clear hsh hQ hV
 go_enter Tryz.func54, Tryz.ntmps54
 go_wp2_with (go_at_call 85; refine Hid.out ?_)
 refine hid ?_
 rw [show (((W.alloc (.cells #[.string wGate, .string nm, .slice aa al ac, .int .i64 nu, .int .i64 ro, .int .i64 pc] 79)).alloc (.cells #[.int .i64 p, .int .i64 (n : Nat), .bool g, .int .u64 (m : Nat), .int .u64 (v : Nat)] 69)).alloc (.cells pzC 113)).alloc (.cells #[.int .i64 p, .int .i64 ((n : Int) + 1), .bool true, .int .u64 (m : Nat), .int .u64 (v : Nat)] 69) = V from HV.out.symm]
 clear HV
 refine F.mono ?_
 rintro e w1 hP
 obtain ⟨⟨x, rfl⟩, bk⟩ := HSH.out e w1 hP
 have HP := hid (HQ.out x w1 hP)
 have d3 := bk.cell
 have f3 := bk.free
 have l3 := bk.lt
 clear bk hP HSH HQ F
 go_wp2
 refine bodyPost_ret (v := .tuple #[ppV pp0, .int .i64 x]) (by simp [results, Tryz.results54, go_sem, d3]) rfl ?_
 exact HP.out
set_option maxHeartbeats 2000000 in
set_option maxRecDepth 100000 in
theorem rowW_qubits {W : World} {lb : Nat} (nm : ByteArray) (aa : Option Addr) (al ac : Nat) (nu ro pc : Int) (bba : Option Addr) (bbn bbc : Nat) (p : Int) (n : Nat) (g : Bool) (m v : Nat) (hn : n ≤ 32) (Q : Ending → World → Prop) (V : World) (hV : V = (((W.alloc (.cells #[.string wQubits, .string nm, .slice aa al ac, .int .i64 nu, .int .i64 ro, .int .i64 pc] 79)).alloc (.cells #[.int .i64 p, .int .i64 (n : Nat), .bool g, .int .u64 (m : Nat), .int .u64 (v : Nat)] 69)).alloc (.cells pzC 113)).alloc (.cells #[.int .i64 p, .int .i64 ((n : Int) + 1), .bool g, .int .u64 (m : Nat), .int .u64 (v : Nat)] 69)) (post : Ending → World → Prop) (F : Calls Tryz.prog 84 #[.pointer (some ⟨lb, 0, none⟩), .agg #[.string wQubits, .string nm, .slice aa al ac, .int .i64 nu, .int .i64 ro, .int .i64 pc], .int .i64 1, .pointer (some ⟨lb, 1, none⟩), .int .i64 64] V.drew post)
  (hsh : ∀ e w1, post e w1 → (∃ x, e = .returned (.int .i64 x)) ∧ BK w1 (W.heap.size + 1 + 1) pzC 113 ∧ BK w1 W.heap.size #[.string wQubits, .string nm, .slice aa al ac, .int .i64 nu, .int .i64 ro, .int .i64 pc] 79)
  (hQ : ∀ x w1, post (.returned (.int .i64 x)) w1 → Q (.returned (.tuple #[ppV pp0, .int .i64 x])) (w1.setCells (W.heap.size + 1 + 1) 0 (ppc pp0))) :
  Calls Tryz.prog 54 #[.pointer (some ⟨lb, 0, none⟩), .agg #[.string wQubits, .string nm, .slice aa al ac, .int .i64 nu, .int .i64 ro, .int .i64 pc], .slice bba bbn bbc, .agg #[.int .i64 p, .int .i64 (n : Nat), .bool g, .int .u64 (m : Nat), .int .u64 (v : Nat)]] W Q := by
 have HSH := hid hsh
 have HQ := hid hQ
 have HV := hid hV
 have b1 : BK V W.heap.size #[.string wQubits, .string nm, .slice aa al ac, .int .i64 nu, .int .i64 ro, .int .i64 pc] 79 := by rw [hV]; exact (((bk_new W _ _).alloc _).alloc _).alloc _
 have SK : Hid ((V.drew.cell? ⟨W.heap.size, 0, none⟩ = some (.string wQubits) ∧ V.drew.cell? ⟨W.heap.size, 1, none⟩ = some (.string nm) ∧ V.drew.cell? ⟨W.heap.size, 2, none⟩ = some (.slice aa al ac) ∧ V.drew.cell? ⟨W.heap.size, 3, none⟩ = some (.int .i64 nu) ∧ V.drew.cell? ⟨W.heap.size, 4, none⟩ = some (.int .i64 ro) ∧ V.drew.cell? ⟨W.heap.size, 5, none⟩ = some (.int .i64 pc)) ∧ W.heap.size < V.drew.heap.size) := ⟨⟨b1.cell 0, b1.cell 1, b1.cell 2, b1.cell 3, b1.cell 4, b1.cell 5⟩, b1.lt⟩
 clear hsh hQ hV b1
 go_enter Tryz.func54, Tryz.ntmps54
 go_upto_region 5 with (fail)
 rw [show (((W.alloc (.cells #[.string wQubits, .string nm, .slice aa al ac, .int .i64 nu, .int .i64 ro, .int .i64 pc] 79)).alloc (.cells #[.int .i64 p, .int .i64 (n : Nat), .bool g, .int .u64 (m : Nat), .int .u64 (v : Nat)] 69)).alloc (.cells pzC 113)).alloc (.cells #[.int .i64 p, .int .i64 ((n : Int) + 1), .bool g, .int .u64 (m : Nat), .int .u64 (v : Nat)] 69) = V from HV.out.symm]
 clear HV
 refine wp_region_noPanic ?_
 refine wp_region_held_drew (S := fun w' => (w'.cell? ⟨W.heap.size, 0, none⟩ = some (.string wQubits) ∧ w'.cell? ⟨W.heap.size, 1, none⟩ = some (.string nm) ∧ w'.cell? ⟨W.heap.size, 2, none⟩ = some (.slice aa al ac) ∧ w'.cell? ⟨W.heap.size, 3, none⟩ = some (.int .i64 nu) ∧ w'.cell? ⟨W.heap.size, 4, none⟩ = some (.int .i64 ro) ∧ w'.cell? ⟨W.heap.size, 5, none⟩ = some (.int .i64 pc)) ∧ W.heap.size < w'.heap.size) (by kernel_rfl) (by exact SK.out) (fun hHeld => ?_)
 refine wpAnyH_take (i := 0) (oi := { dst := some 20, op := Op.build 113 #[], type := 113, pos := "look.go:90", after := #[], guard := none }) (v := ?_) rfl (by kernel_rfl) (by kernel_rfl) (by kernel_rfl) (fun _ _ _ h => h) (Or.inl ⟨by rfl, ?_⟩) (by assumption) ?_
 rotate_left
 (intro w0 hSw; (try dsimp only at hSw); go_simp; try (with_reducible rfl))
 (try simp only [Act.put, List.setIfInBounds_toArray, List.set_cons_zero, List.set_cons_succ])
 refine wpAnyH_take (i := 1) (oi := { dst := some 21, op := Op.move (Operand.tmp 0), type := 110, pos := "look.go:90", after := #[], guard := none }) (v := ?_) rfl (by kernel_rfl) (by kernel_rfl) (by kernel_rfl) (fun _ _ _ h => h) (Or.inl ⟨by rfl, ?_⟩) (by assumption) ?_
 rotate_left
 (intro w0 hSw; (try dsimp only at hSw); go_simp; try (with_reducible rfl))
 (try simp only [Act.put, List.setIfInBounds_toArray, List.set_cons_zero, List.set_cons_succ])
 refine wpAnyH_take (i := 2) (oi := { dst := some 22, op := Op.load 79 (Operand.tmp 5), type := 79, pos := "look.go:90", after := #[], guard := none }) (v := ?_) rfl (by kernel_rfl) (by kernel_rfl) (by kernel_rfl) (fun _ _ _ h => h) (Or.inl ⟨by rfl, ?_⟩) (by assumption) ?_
 rotate_left
 (intro w0 hSw; (try dsimp only at hSw); go_simp; try (with_reducible rfl))
 (try simp only [Act.put, List.setIfInBounds_toArray, List.set_cons_zero, List.set_cons_succ])
 refine wpAnyH_take (i := 3) (oi := { dst := some 23, op := Op.move (Operand.tmp 0), type := 110, pos := "look.go:90", after := #[], guard := none }) (v := ?_) rfl (by kernel_rfl) (by kernel_rfl) (by kernel_rfl) (fun _ _ _ h => h) (Or.inl ⟨by rfl, ?_⟩) (by assumption) ?_
 rotate_left
 (intro w0 hSw; (try dsimp only at hSw); go_simp; try (with_reducible rfl))
 (try simp only [Act.put, List.setIfInBounds_toArray, List.set_cons_zero, List.set_cons_succ])
 refine wpAnyH_take (i := 4) (oi := { dst := some 24, op := Op.nilCheck (Operand.tmp 23), type := 0, pos := "look.go:90", after := #[{ on := 3, ground := Ground.data }], guard := none }) (v := ?_) rfl (by kernel_rfl) (by kernel_rfl) (by kernel_rfl) (fun _ _ _ h => h) (Or.inl ⟨by rfl, ?_⟩) (by assumption) ?_
 rotate_left
 (intro w0 hSw; (try dsimp only at hSw); go_simp; try (with_reducible rfl))
 (try simp only [Act.put, List.setIfInBounds_toArray, List.set_cons_zero, List.set_cons_succ])
 refine wpAnyH_take (i := 5) (oi := { dst := some 25, op := Op.fieldAddr 64 (Operand.tmp 24) 1, type := 0, pos := "look.go:90", after := #[{ on := 4, ground := Ground.data }], guard := none }) (v := ?_) rfl (by kernel_rfl) (by kernel_rfl) (by kernel_rfl) (fun _ _ _ h => h) (Or.inl ⟨by rfl, ?_⟩) (by assumption) ?_
 rotate_left
 (intro w0 hSw; (try dsimp only at hSw); go_simp; try (with_reducible rfl))
 (try simp only [Act.put, List.setIfInBounds_toArray, List.set_cons_zero, List.set_cons_succ])
 refine wpAnyH_ready (rs := [6]) (by kernel_rfl) (by simp) (AllReadyH.cons (o := { dst := some 26, op := Op.call { callee := Callee.value (Operand.func 84), args := #[Operand.tmp 21, Operand.tmp 22, Operand.const (Value.int IntKind.i64 1), Operand.tmp 25, Operand.const (Value.int IntKind.i64 64)], argTypes := #[110, 79, 3, 166, 3] }, type := 30, pos := "look.go:90", after := #[{ on := 1, ground := Ground.data }, { on := 2, ground := Ground.data }, { on := 5, ground := Ground.data }], guard := none }) rfl (fun K hK => ?_) AllReadyH.nil)
 go_simp
 refine F.mono ?_; rintro e w1 hP; obtain ⟨⟨x, rfl⟩, bk, ck⟩ := HSH.out e w1 hP; have HP := hid (HQ.out x w1 hP); have d3 := bk.cell; have f3 := bk.free; have l3 := bk.lt; have CK := hid ck; clear bk hP HSH HQ F ck; try go_simp
 refine hK.out _ _ (by exact ⟨⟨CK.out.cell 0, CK.out.cell 1, CK.out.cell 2, CK.out.cell 3, CK.out.cell 4, CK.out.cell 5⟩, CK.out.lt⟩) (fun hHeld => ?_)
 clear hK K
 (try simp only [Act.put, List.setIfInBounds_toArray, List.set_cons_zero, List.set_cons_succ])
 refine wpAnyH_ready (rs := [7]) (by kernel_rfl) (by simp) (AllReadyH.cons (o := { dst := none, op := Op.store 113 (Operand.tmp 8) (Operand.tmp 20), type := 0, pos := "look.go:90", after := #[{ on := 0, ground := Ground.data }, { on := 6, ground := Ground.chain }, { on := 0, ground := Ground.phase }, { on := 1, ground := Ground.textOnly Departure.lateStores }, { on := 2, ground := Ground.textOnly Departure.lateStores }, { on := 3, ground := Ground.textOnly Departure.lateStores }, { on := 4, ground := Ground.textOnly Departure.lateStores }, { on := 5, ground := Ground.textOnly Departure.lateStores }, { on := 6, ground := Ground.textOnly Departure.lateStoresUnsure }], guard := none }) rfl (fun K hK => ?_) AllReadyH.nil)
 go_simp
 refine hK.out _ _ (by have ck2 := (fr_sets (W.heap.size + 1 + 1) (ppc pp0) 0 w1).1.bk CK.out (.inl (by omega)); exact ⟨⟨ck2.cell 0, ck2.cell 1, ck2.cell 2, ck2.cell 3, ck2.cell 4, ck2.cell 5⟩, ck2.lt⟩) (fun hHeld => ?_)
 clear hK K
 (try simp only [Act.put, List.setIfInBounds_toArray, List.set_cons_zero, List.set_cons_succ])
 refine wpAnyH_ready (rs := [8]) (by kernel_rfl) (by simp) (AllReadyH.cons (o := { dst := some 9, op := Op.assign (Operand.tmp 26), type := 30, pos := "look.go:90", after := #[{ on := 6, ground := Ground.data }, { on := 7, ground := Ground.chain }, { on := 0, ground := Ground.phase }, { on := 1, ground := Ground.phase }, { on := 2, ground := Ground.phase }, { on := 3, ground := Ground.phase }, { on := 4, ground := Ground.phase }, { on := 5, ground := Ground.phase }, { on := 6, ground := Ground.phase }, { on := 7, ground := Ground.phase }], guard := none }) rfl (fun K hK => ?_) AllReadyH.nil)
 go_simp
 refine hK.out _ _ (by exact hHeld) (fun hHeld => ?_)
 clear hK K
 (try simp only [Act.put, List.setIfInBounds_toArray, List.set_cons_zero, List.set_cons_succ])
 refine wpAnyH_done (by kernel_rfl) ?_ _
 refine NoPanic.normal ?_
 go_wp2
 refine bodyPost_ret (v := .tuple #[ppV pp0, .int .i64 x]) (by simp [results, Tryz.results54, go_sem, d3]) rfl ?_
 exact HP.out
set_option maxHeartbeats 2000000 in
set_option maxRecDepth 100000 in
theorem rowW_bits {W : World} {lb : Nat} (nm : ByteArray) (aa : Option Addr) (al ac : Nat) (nu ro pc : Int) (bba : Option Addr) (bbn bbc : Nat) (p : Int) (n : Nat) (g : Bool) (m v : Nat) (hn : n ≤ 32) (Q : Ending → World → Prop) (V : World) (hV : V = (((W.alloc (.cells #[.string wBits, .string nm, .slice aa al ac, .int .i64 nu, .int .i64 ro, .int .i64 pc] 79)).alloc (.cells #[.int .i64 p, .int .i64 (n : Nat), .bool g, .int .u64 (m : Nat), .int .u64 (v : Nat)] 69)).alloc (.cells pzC 113)).alloc (.cells #[.int .i64 p, .int .i64 ((n : Int) + 1), .bool g, .int .u64 (m : Nat), .int .u64 (v : Nat)] 69)) (post : Ending → World → Prop) (F : Calls Tryz.prog 84 #[.pointer (some ⟨lb, 0, none⟩), .agg #[.string wBits, .string nm, .slice aa al ac, .int .i64 nu, .int .i64 ro, .int .i64 pc], .int .i64 2, .pointer (some ⟨lb, 2, none⟩), .int .i64 64] V.drew post)
  (hsh : ∀ e w1, post e w1 → (∃ x, e = .returned (.int .i64 x)) ∧ BK w1 (W.heap.size + 1 + 1) pzC 113 ∧ BK w1 W.heap.size #[.string wBits, .string nm, .slice aa al ac, .int .i64 nu, .int .i64 ro, .int .i64 pc] 79)
  (hQ : ∀ x w1, post (.returned (.int .i64 x)) w1 → Q (.returned (.tuple #[ppV pp0, .int .i64 x])) (w1.setCells (W.heap.size + 1 + 1) 0 (ppc pp0))) :
  Calls Tryz.prog 54 #[.pointer (some ⟨lb, 0, none⟩), .agg #[.string wBits, .string nm, .slice aa al ac, .int .i64 nu, .int .i64 ro, .int .i64 pc], .slice bba bbn bbc, .agg #[.int .i64 p, .int .i64 (n : Nat), .bool g, .int .u64 (m : Nat), .int .u64 (v : Nat)]] W Q := by
 have HSH := hid hsh
 have HQ := hid hQ
 have HV := hid hV
 have b1 : BK V W.heap.size #[.string wBits, .string nm, .slice aa al ac, .int .i64 nu, .int .i64 ro, .int .i64 pc] 79 := by rw [hV]; exact (((bk_new W _ _).alloc _).alloc _).alloc _
 have SK : Hid ((V.drew.cell? ⟨W.heap.size, 0, none⟩ = some (.string wBits) ∧ V.drew.cell? ⟨W.heap.size, 1, none⟩ = some (.string nm) ∧ V.drew.cell? ⟨W.heap.size, 2, none⟩ = some (.slice aa al ac) ∧ V.drew.cell? ⟨W.heap.size, 3, none⟩ = some (.int .i64 nu) ∧ V.drew.cell? ⟨W.heap.size, 4, none⟩ = some (.int .i64 ro) ∧ V.drew.cell? ⟨W.heap.size, 5, none⟩ = some (.int .i64 pc)) ∧ W.heap.size < V.drew.heap.size) := ⟨⟨b1.cell 0, b1.cell 1, b1.cell 2, b1.cell 3, b1.cell 4, b1.cell 5⟩, b1.lt⟩
 clear hsh hQ hV b1
 go_enter Tryz.func54, Tryz.ntmps54
 go_upto_region 7 with (fail)
 rw [show (((W.alloc (.cells #[.string wBits, .string nm, .slice aa al ac, .int .i64 nu, .int .i64 ro, .int .i64 pc] 79)).alloc (.cells #[.int .i64 p, .int .i64 (n : Nat), .bool g, .int .u64 (m : Nat), .int .u64 (v : Nat)] 69)).alloc (.cells pzC 113)).alloc (.cells #[.int .i64 p, .int .i64 ((n : Int) + 1), .bool g, .int .u64 (m : Nat), .int .u64 (v : Nat)] 69) = V from HV.out.symm]
 clear HV
 refine wp_region_noPanic ?_
 refine wp_region_held_drew (S := fun w' => (w'.cell? ⟨W.heap.size, 0, none⟩ = some (.string wBits) ∧ w'.cell? ⟨W.heap.size, 1, none⟩ = some (.string nm) ∧ w'.cell? ⟨W.heap.size, 2, none⟩ = some (.slice aa al ac) ∧ w'.cell? ⟨W.heap.size, 3, none⟩ = some (.int .i64 nu) ∧ w'.cell? ⟨W.heap.size, 4, none⟩ = some (.int .i64 ro) ∧ w'.cell? ⟨W.heap.size, 5, none⟩ = some (.int .i64 pc)) ∧ W.heap.size < w'.heap.size) (by kernel_rfl) (by exact SK.out) (fun hHeld => ?_)
 refine wpAnyH_take (i := 0) (oi := { dst := some 29, op := Op.build 113 #[], type := 113, pos := "look.go:92", after := #[], guard := none }) (v := ?_) rfl (by kernel_rfl) (by kernel_rfl) (by kernel_rfl) (fun _ _ _ h => h) (Or.inl ⟨by rfl, ?_⟩) (by assumption) ?_
 rotate_left
 (intro w0 hSw; (try dsimp only at hSw); go_simp; try (with_reducible rfl))
 (try simp only [Act.put, List.setIfInBounds_toArray, List.set_cons_zero, List.set_cons_succ])
 refine wpAnyH_take (i := 1) (oi := { dst := some 30, op := Op.move (Operand.tmp 0), type := 110, pos := "look.go:92", after := #[], guard := none }) (v := ?_) rfl (by kernel_rfl) (by kernel_rfl) (by kernel_rfl) (fun _ _ _ h => h) (Or.inl ⟨by rfl, ?_⟩) (by assumption) ?_
 rotate_left
 (intro w0 hSw; (try dsimp only at hSw); go_simp; try (with_reducible rfl))
 (try simp only [Act.put, List.setIfInBounds_toArray, List.set_cons_zero, List.set_cons_succ])
 refine wpAnyH_take (i := 2) (oi := { dst := some 31, op := Op.load 79 (Operand.tmp 5), type := 79, pos := "look.go:92", after := #[], guard := none }) (v := ?_) rfl (by kernel_rfl) (by kernel_rfl) (by kernel_rfl) (fun _ _ _ h => h) (Or.inl ⟨by rfl, ?_⟩) (by assumption) ?_
 rotate_left
 (intro w0 hSw; (try dsimp only at hSw); go_simp; try (with_reducible rfl))
 (try simp only [Act.put, List.setIfInBounds_toArray, List.set_cons_zero, List.set_cons_succ])
 refine wpAnyH_take (i := 3) (oi := { dst := some 32, op := Op.move (Operand.tmp 0), type := 110, pos := "look.go:92", after := #[], guard := none }) (v := ?_) rfl (by kernel_rfl) (by kernel_rfl) (by kernel_rfl) (fun _ _ _ h => h) (Or.inl ⟨by rfl, ?_⟩) (by assumption) ?_
 rotate_left
 (intro w0 hSw; (try dsimp only at hSw); go_simp; try (with_reducible rfl))
 (try simp only [Act.put, List.setIfInBounds_toArray, List.set_cons_zero, List.set_cons_succ])
 refine wpAnyH_take (i := 4) (oi := { dst := some 33, op := Op.nilCheck (Operand.tmp 32), type := 0, pos := "look.go:92", after := #[{ on := 3, ground := Ground.data }], guard := none }) (v := ?_) rfl (by kernel_rfl) (by kernel_rfl) (by kernel_rfl) (fun _ _ _ h => h) (Or.inl ⟨by rfl, ?_⟩) (by assumption) ?_
 rotate_left
 (intro w0 hSw; (try dsimp only at hSw); go_simp; try (with_reducible rfl))
 (try simp only [Act.put, List.setIfInBounds_toArray, List.set_cons_zero, List.set_cons_succ])
 refine wpAnyH_take (i := 5) (oi := { dst := some 34, op := Op.fieldAddr 64 (Operand.tmp 33) 2, type := 0, pos := "look.go:92", after := #[{ on := 4, ground := Ground.data }], guard := none }) (v := ?_) rfl (by kernel_rfl) (by kernel_rfl) (by kernel_rfl) (fun _ _ _ h => h) (Or.inl ⟨by rfl, ?_⟩) (by assumption) ?_
 rotate_left
 (intro w0 hSw; (try dsimp only at hSw); go_simp; try (with_reducible rfl))
 (try simp only [Act.put, List.setIfInBounds_toArray, List.set_cons_zero, List.set_cons_succ])
 refine wpAnyH_ready (rs := [6]) (by kernel_rfl) (by simp) (AllReadyH.cons (o := { dst := some 35, op := Op.call { callee := Callee.value (Operand.func 84), args := #[Operand.tmp 30, Operand.tmp 31, Operand.const (Value.int IntKind.i64 2), Operand.tmp 34, Operand.const (Value.int IntKind.i64 64)], argTypes := #[110, 79, 3, 166, 3] }, type := 30, pos := "look.go:92", after := #[{ on := 1, ground := Ground.data }, { on := 2, ground := Ground.data }, { on := 5, ground := Ground.data }], guard := none }) rfl (fun K hK => ?_) AllReadyH.nil)
 go_simp
 refine F.mono ?_; rintro e w1 hP; obtain ⟨⟨x, rfl⟩, bk, ck⟩ := HSH.out e w1 hP; have HP := hid (HQ.out x w1 hP); have d3 := bk.cell; have f3 := bk.free; have l3 := bk.lt; have CK := hid ck; clear bk hP HSH HQ F ck; try go_simp
 refine hK.out _ _ (by exact ⟨⟨CK.out.cell 0, CK.out.cell 1, CK.out.cell 2, CK.out.cell 3, CK.out.cell 4, CK.out.cell 5⟩, CK.out.lt⟩) (fun hHeld => ?_)
 clear hK K
 (try simp only [Act.put, List.setIfInBounds_toArray, List.set_cons_zero, List.set_cons_succ])
 refine wpAnyH_ready (rs := [7]) (by kernel_rfl) (by simp) (AllReadyH.cons (o := { dst := none, op := Op.store 113 (Operand.tmp 8) (Operand.tmp 29), type := 0, pos := "look.go:92", after := #[{ on := 0, ground := Ground.data }, { on := 6, ground := Ground.chain }, { on := 0, ground := Ground.phase }, { on := 1, ground := Ground.textOnly Departure.lateStores }, { on := 2, ground := Ground.textOnly Departure.lateStores }, { on := 3, ground := Ground.textOnly Departure.lateStores }, { on := 4, ground := Ground.textOnly Departure.lateStores }, { on := 5, ground := Ground.textOnly Departure.lateStores }, { on := 6, ground := Ground.textOnly Departure.lateStoresUnsure }], guard := none }) rfl (fun K hK => ?_) AllReadyH.nil)
 go_simp
 refine hK.out _ _ (by have ck2 := (fr_sets (W.heap.size + 1 + 1) (ppc pp0) 0 w1).1.bk CK.out (.inl (by omega)); exact ⟨⟨ck2.cell 0, ck2.cell 1, ck2.cell 2, ck2.cell 3, ck2.cell 4, ck2.cell 5⟩, ck2.lt⟩) (fun hHeld => ?_)
 clear hK K
 (try simp only [Act.put, List.setIfInBounds_toArray, List.set_cons_zero, List.set_cons_succ])
 refine wpAnyH_ready (rs := [8]) (by kernel_rfl) (by simp) (AllReadyH.cons (o := { dst := some 9, op := Op.assign (Operand.tmp 35), type := 30, pos := "look.go:92", after := #[{ on := 6, ground := Ground.data }, { on := 7, ground := Ground.chain }, { on := 0, ground := Ground.phase }, { on := 1, ground := Ground.phase }, { on := 2, ground := Ground.phase }, { on := 3, ground := Ground.phase }, { on := 4, ground := Ground.phase }, { on := 5, ground := Ground.phase }, { on := 6, ground := Ground.phase }, { on := 7, ground := Ground.phase }], guard := none }) rfl (fun K hK => ?_) AllReadyH.nil)
 go_simp
 refine hK.out _ _ (by exact hHeld) (fun hHeld => ?_)
 clear hK K
 (try simp only [Act.put, List.setIfInBounds_toArray, List.set_cons_zero, List.set_cons_succ])
 refine wpAnyH_done (by kernel_rfl) ?_ _
 refine NoPanic.normal ?_
 go_wp2
 refine bodyPost_ret (v := .tuple #[ppV pp0, .int .i64 x]) (by simp [results, Tryz.results54, go_sem, d3]) rfl ?_
 exact HP.out
end Go.Proofs.YtdjfpghgklkejaaGreatDoor
