/-
  Put together of: HB HC HD.
-/
import Derived.Test.YtdjfpghgklkejaaGreatDoorXT
import Derived.Test.YtdjfpghgklkejaaGreatDoorXR
import Derived.Test.YtdjfpghgklkejaaGreatDoorXS
import Derived.Laws.BitsAllLaws
namespace Go.Proofs.YtdjfpghgklkejaaGreatDoor
abbrev nmQ : ByteArray := ⟨#[113]⟩
def nmC (j : Nat) : ByteArray := ⟨(99 :: Lib.itoa (j : Int)).toArray⟩
abbrev Rg := (Nat × Nat) × Nat
def ifRow (x : Rg) (v : Nat) (k : Nat) : Rw := ⟨wIf, nmC x.2, [], (((v &&& regM x.1) >>> x.1.1 : Nat) : Int), (k : Int), 0⟩
def ifRows (v : Nat) : List Rg → List Rw
 | [] => []
 | x :: l => ifRow x v (l.length + 1) :: ifRows v l
def qArgs (qs : List Int) : List Ar := qs.map fun q => ⟨nmQ, q⟩
def bArg (b : Nat) : List Rg → Ar
 | [] => ⟨⟨#[]⟩, 0⟩
 | x :: l => if b < x.1.1 + x.1.2 then ⟨nmC x.2, (b : Int) - x.1.1⟩ else bArg b l
def stRow (o : Oq) (R : List Rg) : Rw :=
 if o.k = 2 then ⟨wMeasure, ⟨#[]⟩, qArgs o.qs ++ [bArg o.b.toNat R], 0, 0, 0⟩
 else if o.k = 3 then ⟨wReset, ⟨#[]⟩, qArgs o.qs, 0, 0, 0⟩
 else ⟨wUse, o.n, qArgs o.qs, 0, 0, 0⟩
def askR (m : Nat) (R : List Rg) : List Rg := R.filter fun x => decide (m &&& regM x.1 ≠ 0)
def opRows (R : List Rg) (o : Oq) : List Rw := ifRows o.v.toNat (askR o.m.toNat R) ++ [stRow o R]
def bitRow (x : Rg) : Rw := ⟨wBits, nmC x.2, [], (x.1.2 : Int), 0, 0⟩
def declRows (q : Int) (R : List Rg) : List Rw := (if 0 < q then [⟨wQubits, nmQ, [], q, 0, 0⟩] else []) ++ R.map bitRow
def shRows (c : Ci) (R : List Rg) : List Rw := declRows c.q R ++ c.ops.flatMap (opRows R)
theorem ifRows_len (v : Nat) : ∀ l : List Rg, (ifRows v l).length = l.length
 | [] => rfl
 | _ :: l => by show (ifRows v l).length + 1 = _; rw [ifRows_len v l, List.length_cons]
theorem nmC_list (j : Nat) : (nmC j).data.toList = 99 :: Lib.decDigits j := by
 show (99 :: Lib.itoa (j : Int)) = _
 rw [itoa_dec (by omega), Int.toNat_natCast]
theorem nmC_inj {i j : Nat} (h : nmC i = nmC j) : i = j := by
 have := congrArg (fun s : ByteArray => s.data.toList) h
 simp only [nmC_list, List.cons.injEq, true_and] at this
 have := congrArg valL this
 rwa [val_dec, val_dec] at this
def secB (s : ByteArray) : Bool := match s.data.toList with | a :: c :: _ => !(decide (a = 99)) || decide (57 < c.toNat) | _ => true
theorem nmC_sec (j : Nat) : secB (nmC j) = false := by
 unfold secB
 rw [nmC_list]
 obtain ⟨h1, h2⟩ := dec_ds j
 cases e : Lib.decDigits j with
 | nil => exact absurd e h2
 | cons d l =>
  have := h1 d (by rw [e]; exact List.mem_cons_self)
  simp
  omega
theorem nms_sec : ∀ s ∈ nms, secB s = true := by
 have : nms.all secB = true := by decide +kernel
 exact fun s hs => List.all_eq_true.1 this s hs
theorem nmC_gar (j : Nat) : gar (nmC j) = 0 := by
 apply Classical.byContradiction
 intro h
 have := nms_sec _ (gar_nms _ h)
 rw [nmC_sec] at this
 cases this
theorem nmQ_gar : gar nmQ = 0 := by
 apply Classical.byContradiction
 intro h
 have h1 := gar_nms _ h
 have : (nms.all fun s => decide (s ≠ nmQ)) = true := by decide +kernel
 exact of_decide_eq_true (List.all_eq_true.1 this _ h1) rfl
theorem nmQ_ne (j : Nat) : nmQ ≠ nmC j := fun h => by
 have := congrArg (fun s : ByteArray => s.data.toList) h
 simp only [nmC_list] at this
 have h1 := (List.cons.inj (show [113] = 99 :: Lib.decDigits j from this)).1
 exact absurd h1 (by decide)
theorem opE_ok {o : Oq} {q : Int} {b n : Nat} (h : opE o q b n = 0) : rfB o = true ∧ rcB o b = true ∧ n ≠ 0 ∧ o.qs.length = n ∧ rnB o q b = true ∧ dupB o.qs = false := by
 unfold opE at h
 split at h
 ·cases h
 ·rename_i h1
  split at h
  ·cases h
  ·rename_i h2
   split at h
   ·cases h
   ·rename_i h3
    split at h
    ·cases h
    ·rename_i h4
     split at h
     ·cases h
     ·rename_i h5
      rw [not_or] at h1
      exact ⟨by simpa using h1.1, by simpa using h1.2, h2, by simpa using h3, by simpa using h4, by simpa using h5⟩
theorem dup_nodup : ∀ {l : List Int}, dupB l = false → l.Nodup := by
 intro l h
 unfold dupB at h
 rw [List.any_eq_false] at h
 rw [List.nodup_iff_pairwise_ne, List.pairwise_iff_getElem]
 intro i j hi hj hij e
 refine h j (List.mem_range.2 hj) ?_
 rw [List.getD_eq_getElem?_getD, List.getElem?_eq_getElem hj, Option.getD_some, decide_eq_true_eq, ← e]
 exact List.mem_take_iff_getElem.2 ⟨i, by omega, rfl⟩
theorem qs_nat {q : Int} : ∀ {l : List Int}, inB q l = true → ilN (l.map Int.toNat) = l ∧ ∀ x ∈ l, 0 ≤ x ∧ x < q
 | [], _ => ⟨rfl, fun _ h => by cases h⟩
 | x :: l, h => by
  unfold inB at h
  rw [List.all_cons, Bool.and_eq_true, Bool.and_eq_true, decide_eq_true_eq, decide_eq_true_eq] at h
  obtain ⟨ih1, ih2⟩ := qs_nat (q := q) (l := l) h.2
  constructor
  ·show ((x.toNat : Nat) : Int) :: ilN (l.map Int.toNat) = _
   rw [ih1, Int.toNat_of_nonneg h.1.1]
  ·intro y hy
   rcases List.mem_cons.1 hy with rfl | hy
   ·exact h.1
   ·exact ih2 y hy
structure Env (en : En) (q : Nat) (R : List Rg) : Prop where
 nq : 0 < q → en.nm nmQ = some ⟨1, 0, q, 0, []⟩
 nc : ∀ x ∈ R, en.nm (nmC x.2) = some ⟨2, x.1.1, x.1.2, 0, []⟩
 ng : ∀ s, 0 < gar s → en.nm s = some ⟨3, 0, gar s, 0, []⟩
theorem el_q {en : En} {q : Nat} {R : List Rg} (he : Env en q R) {x : Int} (h : 0 ≤ x ∧ x < q) : elE en ⟨nmQ, x⟩ 1 = .ok x.toNat := by
 unfold elE
 rw [he.nq (by omega)]
 show (if 1 = 1 then (if x < 0 ∨ (q : Int) ≤ x then .error 112 else .ok (0 + x.toNat)) else .error 110 : Except Nat Nat) = _
 rw [if_pos rfl, if_neg (by omega), Nat.zero_add]
theorem quL_q {en : En} {q : Nat} {R : List Rg} (he : Env en q R) : ∀ {l : List Int}, (∀ x ∈ l, 0 ≤ x ∧ x < (q : Int)) → quL en false (qArgs l) = .ok (l.map Int.toNat)
 | [], _ => rfl
 | x :: l, h => by
  show (match quE en false ⟨nmQ, x⟩ with | .error e => .error e | .ok n => match quL en false (qArgs l) with | .error e => .error e | .ok ns => .ok (n :: ns) : Except Nat (List Nat)) = _
  have e1 : quE en false ⟨nmQ, x⟩ = .ok x.toNat := el_q he (h x List.mem_cons_self)
  rw [e1, quL_q he (fun y hy => h y (List.mem_cons_of_mem _ hy))]
  rfl
theorem bArg_at : ∀ (R : List Rg) (a n b : Nat), Seg a (R.map Prod.fst) n → a ≤ b → b < n → ∃ x ∈ R, bArg b R = ⟨nmC x.2, (b : Int) - x.1.1⟩ ∧ x.1.1 ≤ b ∧ b < x.1.1 + x.1.2
 | [], a, n, b, h, h1, h2 => by have h : a = n := h; omega
 | x :: R, a, n, b, h, h1, h2 => by
  obtain ⟨e1, e2, e3, e4⟩ := h
  unfold bArg
  split
  ·exact ⟨x, List.mem_cons_self, rfl, by omega, by assumption⟩
  ·obtain ⟨y, hy, h⟩ := bArg_at R _ n b e4 (by omega) h2
   exact ⟨y, List.mem_cons_of_mem _ hy, h⟩
theorem el_b {en : En} {q n b : Nat} {R : List Rg} (he : Env en q R) (hR : Seg 0 (R.map Prod.fst) n) (hb : b < n) : elE en (bArg b R) 2 = .ok b := by
 obtain ⟨x, hx, e, h1, h2⟩ := bArg_at R 0 n b hR (Nat.zero_le _) hb
 rw [e]
 unfold elE
 show (match en.nm (nmC x.2) with | some m => _ | none => _) = _
 rw [he.nc x hx]
 show (if 2 = 2 then (if (b : Int) - x.1.1 < 0 ∨ (x.1.2 : Int) ≤ (b : Int) - x.1.1 then .error 112 else .ok (x.1.1 + ((b : Int) - x.1.1).toNat)) else .error 110 : Except Nat Nat) = _
 rw [if_pos rfl, if_neg (by omega)]
 congr 1
 omega
theorem rk_parts {r s : Rw} (h : rk r = s) : r.kind = s.kind ∧ r.name = s.name ∧ r.args = s.args ∧ r.num = s.num ∧ r.rows = s.rows := by subst h; exact ⟨rfl, rfl, rfl, rfl, rfl⟩
theorem one_list {α : Type} {l : List α} (h : l.length = 1) : ∃ x, l = [x] := List.length_eq_one_iff.1 h
theorem form_plain {r : Rw} {sd : Sd} (behind : Nat) (hr : r.rows = 0) (hn : sd.n ≤ 32) (hg : sd.g = false) (hk : r.kind = wUse ∨ r.kind = wMeasure ∨ r.kind = wReset) : ¬ formE r behind sd ≠ 0 := by
 intro h
 apply h
 have hb : hasB r.kind = false := by rcases hk with e | e | e <;> rw [e] <;> decide
 have hnn : hasN r.kind = true := by rcases hk with e | e | e <;> rw [e] <;> decide
 have hm : mayB r.kind sd = true := by
  unfold mayB
  split
  ·rfl
  ·split
   ·rename_i h1 h2
    exact absurd h2 (by rcases hk with e | e | e <;> rw [e] <;> decide)
   ·rw [hg]; rfl
 have hbad : badF r behind = false := by
  unfold badF
  rw [hb, hnn, hr]
  rfl
 unfold formE
 rw [hbad, if_neg (by decide), if_neg (by omega), hm, if_pos rfl]
theorem st_look {en : En} {q n : Nat} {R : List Rg} (he : Env en q R) (hR : Seg 0 (R.map Prod.fst) n) {o : Oq} (ho : opE o q n (opN o) = 0) {r : Rw} (hr : rk r = stRow o R) {sd : Sd} (hg : sd.g = false) (hn : sd.n ≤ 32) (behind : Nat) (rec : RecT) :
  (¬ formE r behind sd ≠ 0) ∧ r.rows = 0 ∧ rowR rec en ⟨r.place, sd.n, sd.g, sd.m, sd.v⟩ r [] = .ok (en, [⟨o.k, o.n, o.qs, o.b, some ⟨r.place, sd.n, false, sd.m, sd.v⟩⟩]) := by
 obtain ⟨g1, g2, g3, g4, g5, g6⟩ := opE_ok ho
 unfold rnB at g5
 rw [Bool.and_eq_true] at g5
 obtain ⟨g5, g7⟩ := g5
 obtain ⟨e1, e2⟩ := qs_nat g5
 unfold rfB at g1
 have hst : stO ⟨r.place, sd.n, sd.g, sd.m, sd.v⟩ = some ⟨r.place, sd.n, false, sd.m, sd.v⟩ := by
  unfold stO
  rw [hg]
  rfl
 unfold stRow at hr
 by_cases k2 : o.k = 2
 ·rw [if_pos k2] at hr
  obtain ⟨q1, q2, q3, q4, q5⟩ := rk_parts hr
  have q1 : r.kind = wMeasure := q1
  have q5 : r.rows = 0 := q5
  refine ⟨form_plain behind q5 hn hg (.inr (.inl q1)), q5, ?_⟩
  have hn1 : opN o = 1 := by unfold opN; rw [if_neg (by omega)]
  rw [hn1] at g4
  obtain ⟨x, hx⟩ := one_list g4
  have ob : 0 ≤ o.b ∧ o.b < n := by
   rw [k2] at g7
   simpa using g7
  have on : o.n = ⟨#[]⟩ := by
   rw [k2] at g1
   have : emB o.n = true := g1
   unfold emB at this
   simpa using this
  have hx2 := e2 x (by rw [hx]; exact List.mem_cons_self)
  have ra : r.args = [⟨nmQ, x⟩, bArg o.b.toNat R] := by rw [q3, hx]; rfl
  unfold rowR
  rw [q1, if_neg (by decide), if_neg (by decide), if_neg (by decide), if_neg (by decide), if_neg (by decide), if_pos rfl, ra]
  show (match elE en ⟨nmQ, x⟩ 1 with | .error e => _ | .ok q => match elE en (bArg o.b.toNat R) 2 with | .error e => _ | .ok b => _) = _
  rw [el_q he hx2, el_b he hR (b := o.b.toNat) (by omega)]
  show Except.ok (en, [(⟨2, ⟨#[]⟩, [((x.toNat : Nat) : Int)], ((o.b.toNat : Nat) : Int), stO ⟨r.place, sd.n, sd.g, sd.m, sd.v⟩⟩ : TO)]) = _
  rw [hst, k2, on, hx, Int.toNat_of_nonneg hx2.1, Int.toNat_of_nonneg ob.1]
 ·rw [if_neg k2] at hr
  by_cases k3 : o.k = 3
  ·rw [if_pos k3] at hr
   obtain ⟨q1, q2, q3, q4, q5⟩ := rk_parts hr
   have q1 : r.kind = wReset := q1
   have q5 : r.rows = 0 := q5
   refine ⟨form_plain behind q5 hn hg (.inr (.inr q1)), q5, ?_⟩
   have hn1 : opN o = 1 := by unfold opN; rw [if_neg (by omega)]
   rw [hn1] at g4
   obtain ⟨x, hx⟩ := one_list g4
   have on : o.n = ⟨#[]⟩ ∧ o.b = 0 := by
    rw [k3] at g1
    have : (emB o.n && o.b == 0) = true := g1
    unfold emB at this
    simpa using this
   have hx2 := e2 x (by rw [hx]; exact List.mem_cons_self)
   have ra : r.args = [⟨nmQ, x⟩] := by rw [q3, hx]; rfl
   unfold rowR
   rw [q1, if_neg (by decide), if_neg (by decide), if_neg (by decide), if_neg (by decide), if_neg (by decide), if_neg (by decide), if_pos rfl, ra]
   show (match elE en ⟨nmQ, x⟩ 1 with | .error e => _ | .ok q => _) = _
   rw [el_q he hx2]
   show Except.ok (en, [(⟨3, ⟨#[]⟩, [((x.toNat : Nat) : Int)], 0, stO ⟨r.place, sd.n, sd.g, sd.m, sd.v⟩⟩ : TO)]) = _
   rw [hst, k3, on.1, on.2, hx, Int.toNat_of_nonneg hx2.1]
  ·rw [if_neg k3] at hr
   obtain ⟨q1, q2, q3, q4, q5⟩ := rk_parts hr
   have q1 : r.kind = wUse := q1
   have q2 : r.name = o.n := q2
   have q3 : r.args = qArgs o.qs := q3
   have q5 : r.rows = 0 := q5
   refine ⟨form_plain behind q5 hn hg (.inl q1), q5, ?_⟩
   have k1 : o.k = 1 ∧ o.b = 0 := by
    by_cases k1 : o.k = 1
    ·rw [k1] at g1
     have : (o.b == 0) = true := g1
     exact ⟨k1, by simpa using this⟩
    ·exfalso
     rw [if_neg (by simpa using k1), if_neg (by simpa using k2), if_neg (by simpa using k3)] at g1
     cases g1
   have hN : opN o = gar o.n := by unfold opN; rw [if_pos k1.1]
   have hm := he.ng o.n (by omega)
   rw [rowR_use _ _ _ _ _ q1, use_ok (m := ⟨3, 0, gar o.n, 0, []⟩) (qs := o.qs.map Int.toNat) (.inl (by unfold srt; rw [q2, hm]; rfl)) (by rw [q2]; exact hm) (by rw [q3]; show (List.map _ o.qs).length = gar o.n; rw [List.length_map]; omega)
    (by rw [q3]; show quL en sd.g _ = _; rw [hg]; exact quL_q he e2) (by rw [← il_nodup, e1]; exact dup_nodup g6) (fun h => by have h : sd.g = true := h; rw [hg] at h; cases h)]
   rw [hst]
   show Except.ok ((⟨en.nm, en.q, en.b, en.pr, if sd.g = true then _ else en.d⟩ : En), if 3 = 3 then [(⟨1, r.name, ilN (o.qs.map Int.toNat), 0, some ⟨r.place, sd.n, false, sd.m, sd.v⟩⟩ : TO)] else _) = _
   rw [if_pos rfl, hg, if_neg (by decide), e1, q2, k1.1, k1.2]
theorem rl_cons {r : Rw} {a b : List Rw} (h : RL (r :: a) b) : ∃ r' b', b = r' :: b' ∧ rk r' = rk r ∧ RL a b' := by
 cases b with
 | nil => cases h
 | cons r' b' =>
  have h : rk r :: a.map rk = rk r' :: b'.map rk := h
  exact ⟨r', b', rfl, (List.cons.inj h).1.symm, (List.cons.inj h).2⟩
theorem rl_app : ∀ {a c b : List Rw}, RL (a ++ c) b → ∃ a' c', b = a' ++ c' ∧ RL a a' ∧ RL c c'
 | [], c, b, h => ⟨[], b, rfl, rfl, h⟩
 | r :: a, c, b, h => by
  obtain ⟨r', b', rfl, h1, h2⟩ := rl_cons h
  obtain ⟨a', c', rfl, h3, h4⟩ := rl_app h2
  exact ⟨r' :: a', c', rfl, RL.cons h1.symm h3, h4⟩
theorem form_if {r : Rw} {sd : Sd} {behind : Nat} (h0 : 0 ≤ r.rows) (hr : r.rows ≤ behind) (hn : sd.n ≤ 32) (hg : sd.g = false) (hk : r.kind = wIf) : ¬ formE r behind sd ≠ 0 := by
 intro h
 apply h
 have hb : hasB r.kind = true := by rw [hk]; decide
 have hm : mayB r.kind sd = true := by
  unfold mayB
  rw [hk, if_neg (by decide), if_neg (by decide), hg]; rfl
 have hbad : badF r behind = false := by
  unfold badF
  rw [hb, if_pos rfl, decide_eq_false (by omega), decide_eq_false (by omega)]
  rfl
 unfold formE
 rw [hbad, if_neg (by decide), if_neg (by omega), hm, if_pos rfl]
theorem ifs_look {en : En} {q n : Nat} {R : List Rg} (he : Env en q R) (hR : Seg 0 (R.map Prod.fst) n) {o : Oq} (ho : opE o q n (opN o) = 0) :
  ∀ (ys : List Rg) (a : Nat) (sd : Sd) (rs : List Rw), RL (ifRows o.v.toNat ys ++ [stRow o R]) rs → (∀ x ∈ ys, x ∈ R) → Srt a (ys.map Prod.fst) → sd.m < 2 ^ a → sd.g = false → sd.n + ys.length ≤ 32 →
  ∃ s, s.m = accM sd.m (ys.map Prod.fst) ∧ s.v = accV o.v.toNat sd.v (ys.map Prod.fst) ∧ ∀ K, rs.length < K → lookB K en sd rs = .ok (en, [⟨o.k, o.n, o.qs, o.b, some s⟩])
 | [], a, sd, rs, h, _, _, _, hg, hn => by
  obtain ⟨r, b', rfl, h1, h2⟩ := rl_cons (show RL [stRow o R] rs from h)
  obtain rfl : b' = [] := by
   cases b' with
   | nil => rfl
   | cons _ _ => cases h2
  have hs : rk (stRow o R) = stRow o R := by unfold stRow; split; rfl; split <;> rfl
  obtain ⟨f1, f2, f3⟩ := st_look he hR ho (h1.trans hs) (sd := sd) hg (by rw [List.length_nil] at hn; omega) (([] : List Rw).length + ([] : List Rw).length) (lookB (([] : List Rw).length + 1))
  refine ⟨⟨r.place, sd.n, false, sd.m, sd.v⟩, rfl, rfl, fun K hK => ?_⟩
  have := look_cons (body := []) (rest := []) (e2 := en) (M2 := []) f1 (by rw [f2]; rfl) f3 (fun K hK => by
   cases K with
   | zero => exact absurd hK (Nat.not_lt_zero _)
   | succ K => rfl) K hK
  exact this
 | x :: ys, a, sd, rs, h, hm, hs, hsd, hg, hn => by
  obtain ⟨r, b', rfl, h1, h2⟩ := rl_cons (show RL (ifRow x o.v.toNat (ys.length + 1) :: (ifRows o.v.toNat ys ++ [stRow o R])) rs from h)
  obtain ⟨q1, q2, q3, q4, q5⟩ := rk_parts (s := ifRow x o.v.toNat (ys.length + 1)) h1
  have q1 : r.kind = wIf := q1
  have q2 : r.name = nmC x.2 := q2
  have q4 : r.num = (((o.v.toNat &&& regM x.1) >>> x.1.1 : Nat) : Int) := q4
  have q5 : r.rows = ((ys.length + 1 : Nat) : Int) := q5
  rw [List.length_cons] at hn
  have hbl : b'.length = ys.length + 1 := by
   have := h2.len
   rw [List.length_append, ifRows_len, List.length_singleton] at this
   omega
  obtain ⟨s1, s2⟩ := hs
  have hsd' : sd.m < 2 ^ x.1.1 := Nat.lt_of_lt_of_le hsd (Nat.pow_le_pow_right (by decide) s1)
  have hmx := he.nc x (hm x List.mem_cons_self)
  obtain ⟨s, t1, t2, t3⟩ := ifs_look he hR ho ys (x.1.1 + x.1.2) ⟨r.place, sd.n + 1, sd.g, sd.m ||| regM x.1, sd.v ||| ((o.v.toNat &&& regM x.1) >>> x.1.1) * 2 ^ x.1.1⟩ b' h2 (fun y hy => hm y (List.mem_cons_of_mem _ hy)) s2 (or_near hsd') hg (by show sd.n + 1 + _ ≤ _; omega)
  refine ⟨s, t1, t2, fun K hK => ?_⟩
  have hlt := part_lt o.v.toNat x.1
  have hrow : rowR (lookB (b'.length + 1)) en ⟨r.place, sd.n, sd.g, sd.m, sd.v⟩ r b' = .ok (en, [⟨o.k, o.n, o.qs, o.b, some s⟩]) := by
   unfold rowR
   rw [q1, if_neg (by decide), if_neg (by decide), if_neg (by decide), if_neg (by decide), if_pos rfl, q2, hmx]
   show (if 2 ≠ 2 then _ else if r.num < 0 ∨ ((2 ^ x.1.2 : Nat) : Int) ≤ r.num then _ else match lookB (b'.length + 1) en ⟨r.place, sd.n + 1, sd.g, sd.m ||| regM x.1, sd.v ||| r.num.toNat * 2 ^ x.1.1⟩ b' with | .error e => _ | .ok (en1, L) => _) = _
   rw [if_neg (by decide), if_neg (by rw [q4, not_or]; exact ⟨Int.not_lt.2 (Int.natCast_nonneg _), Int.not_le.2 (Int.ofNat_lt.2 hlt)⟩), q4, Int.toNat_natCast, t3 _ (Nat.lt_succ_self _)]
   have hzz : sd.m &&& mskN ⟨2, x.1.1, x.1.2, 0, []⟩ = 0 := and_far hsd'
   simp only []
   rw [if_neg (fun h => h.1 hzz)]
  have := look_cons (body := b') (rest := []) (e2 := en) (M2 := []) (form_if (behind := b'.length + ([] : List Rw).length) (by rw [q5]; omega) (by rw [q5, hbl]; simp) (by omega) hg q1) (by rw [q5, hbl]; rfl) hrow (fun K hK => by
   cases K with
   | zero => exact absurd hK (Nat.not_lt_zero _)
   | succ K => rfl) K (by rw [List.append_nil]; exact hK)
  rw [List.append_nil] at this
  exact this
end Go.Proofs.YtdjfpghgklkejaaGreatDoor
namespace Go.Proofs.YtdjfpghgklkejaaGreatDoor
theorem look_nil (en : En) (sd : Sd) : ∀ K, ([] : List Rw).length < K → lookB K en sd [] = .ok (en, []) := fun K hK => by
  cases K with
  | zero => exact absurd hK (Nat.not_lt_zero _)
  | succ K => rfl
theorem form_decl {r : Rw} {sd : Sd} (behind : Nat) (hr : r.rows = 0) (hn : sd.n = 0) (hk : r.kind = wQubits ∨ r.kind = wBits) : ¬ formE r behind sd ≠ 0 := by
  intro h
  apply h
  have hb : hasB r.kind = false := by rcases hk with e | e <;> rw [e] <;> decide
  have hnn : hasN r.kind = true := by rcases hk with e | e <;> rw [e] <;> decide
  have hm : mayB r.kind sd = true := by
    unfold mayB
    rcases hk with e | e <;> rw [e, if_neg (by decide), if_pos (by decide), hn] <;> rfl
  have hbad : badF r behind = false := by
    unfold badF
    rw [hb, hnn, hr]
    rfl
  unfold formE
  rw [hbad, if_neg (by decide), if_neg (by omega), hm, if_pos rfl]
theorem srt_none {en : En} {s : ByteArray} (h : en.nm s = none) : srt en s = 0 := by unfold srt; rw [h]; rfl
theorem decE_ok {en : En} {r : Rw} {all : Nat} (h : en.nm r.name = none) (h1 : 1 ≤ r.num) (h2 : all + r.num ≤ 64) : decE en r all = 0 := by
  unfold decE
  rw [srt_none h, if_neg (by decide), if_neg (by omega), if_neg (by omega)]
theorem bits_look {q : Nat} : ∀ (l : List (Nat × Nat)) (k a n : Nat) (en : En) (R1 : List Rg) (rs : List Rw), Seg a l n → n ≤ 64 → en.b = a → Env en q R1 → (∀ x ∈ R1, x.2 < k) → (∀ j, k ≤ j → en.nm (nmC j) = none) → RL ((l.zipIdx k).map bitRow) rs →
    ∃ en', (∀ K, rs.length < K → lookB K en sd0 rs = .ok (en', [])) ∧ Env en' q (R1 ++ l.zipIdx k) ∧ en'.b = n ∧ en'.q = en.q
  | [], k, a, n, en, R1, rs, hs, _, hb, he, _, _, h => by
    obtain rfl : rs = [] := by
      cases rs with
      | nil => rfl
      | cons _ _ => cases h
    exact ⟨en, look_nil en sd0, by rw [List.zipIdx_nil, List.append_nil]; exact he, hb.trans hs, rfl⟩
  | z :: l, k, a, n, en, R1, rs, hs, hn, hb, he, hk, hno, h => by
    obtain ⟨s1, s2, s3, s4⟩ := hs
    rw [List.zipIdx_cons] at h
    obtain ⟨r, rs', rfl, h1, h2⟩ := rl_cons (show RL (bitRow (z, k) :: (l.zipIdx (k + 1)).map bitRow) rs from h)
    obtain ⟨q1, q2, q3, q4, q5⟩ := rk_parts (s := bitRow (z, k)) h1
    have q1 : r.kind = wBits := q1
    have q2 : r.name = nmC k := q2
    have q4 : r.num = (z.2 : Int) := q4
    have q5 : r.rows = 0 := q5
    have hle := seg_le l _ _ s4
    have hnone := hno k (Nat.le_refl _)
    have hz : r.num.toNat = z.2 := by rw [q4]; exact Int.toNat_natCast _
    obtain ⟨en', t1, t2, t3, t4⟩ := bits_look (q := q) l (k + 1) (a + z.2) n ⟨putN en.nm r.name ⟨2, en.b, r.num.toNat, 0, []⟩, en.q, en.b + r.num.toNat, en.pr, en.d⟩ (R1 ++ [(z, k)]) rs' s4 hn (by show en.b + r.num.toNat = _; omega)
      ⟨fun hq => by show putN en.nm r.name _ nmQ = _; unfold putN; rw [if_neg (by rw [q2]; exact nmQ_ne k)]; exact he.nq hq,
       fun x hx => by
        show putN en.nm r.name _ (nmC x.2) = _
        unfold putN
        rcases List.mem_append.1 hx with hx | hx
        · rw [if_neg (by rw [q2]; intro e; have := nmC_inj e; have := hk x hx; omega)]
          exact he.nc x hx
        · rw [List.mem_singleton] at hx
          subst hx
          rw [if_pos (by rw [q2]), hz, hb, s1],
       fun s hs => by
        show putN en.nm r.name _ s = _
        unfold putN
        rw [if_neg (by rw [q2]; rintro rfl; rw [nmC_gar] at hs; exact absurd hs (Nat.lt_irrefl _))]
        exact he.ng s hs⟩
      (fun x hx => by
        rcases List.mem_append.1 hx with hx | hx
        · have := hk x hx; omega
        · rw [List.mem_singleton] at hx
          subst hx
          exact Nat.lt_succ_self _)
      (fun j hj => by
        show putN en.nm r.name _ (nmC j) = _
        unfold putN
        rw [if_neg (by rw [q2]; intro e; have := nmC_inj e; omega)]
        exact hno j (by omega)) h2
    refine ⟨en', fun K hK => ?_, by rw [List.zipIdx_cons, List.append_assoc] at *; exact t2, t3, t4⟩
    have hrow : rowR (lookB (([] : List Rw).length + 1)) en ⟨r.place, 0, false, 0, 0⟩ r [] = .ok (⟨putN en.nm r.name ⟨2, en.b, r.num.toNat, 0, []⟩, en.q, en.b + r.num.toNat, en.pr, en.d⟩, []) := by
      unfold rowR
      rw [if_neg (by rw [q1]; decide), if_pos q1, decE_ok (by rw [q2]; exact hnone) (by omega) (by omega)]
      rfl
    exact look_cons (body := []) (rest := rs') (sd := sd0) (form_decl _ q5 rfl (.inr q1)) (by rw [q5]; rfl) hrow t1 K hK
theorem en0_c (j : Nat) : en0.nm (nmC j) = none := by
  show (if 0 < gar (nmC j) then some _ else none) = none
  rw [nmC_gar, if_neg (by decide)]
theorem en0_g {s : ByteArray} (h : 0 < gar s) : en0.nm s = some ⟨3, 0, gar s, 0, []⟩ := by
  show (if 0 < gar s then some _ else none) = _
  rw [if_pos h]
theorem decl_look {q : Nat} {l : List (Nat × Nat)} {n : Nat} (hq : q ≤ 64) (hs : Seg 0 l n) (hn : n ≤ 64) {rs : List Rw} (h : RL (declRows q (l.zipIdx)) rs) :
    ∃ en, (∀ K, rs.length < K → lookB K en0 sd0 rs = .ok (en, [])) ∧ Env en q (l.zipIdx) ∧ en.b = n ∧ en.q = q := by
  unfold declRows at h
  rcases Nat.eq_zero_or_pos q with rfl | hp
  · rw [if_neg (by decide)] at h
    obtain ⟨en, t1, t2, t3, t4⟩ := bits_look (q := 0) l 0 0 n en0 [] rs hs hn rfl ⟨fun h => absurd h (Nat.lt_irrefl _), fun x hx => absurd hx List.not_mem_nil, fun s h => en0_g h⟩ (fun x hx => absurd hx List.not_mem_nil) (fun j _ => en0_c j) h
    exact ⟨en, t1, t2, t3, t4⟩
  · rw [if_pos (by omega)] at h
    obtain ⟨r, rs', rfl, h1, h2⟩ := rl_cons (show RL ((⟨wQubits, nmQ, [], (q : Int), 0, 0⟩ : Rw) :: (l.zipIdx).map bitRow) rs from h)
    obtain ⟨q1, q2, q3, q4, q5⟩ := rk_parts (s := ⟨wQubits, nmQ, [], (q : Int), 0, 0⟩) h1
    have q1 : r.kind = wQubits := q1
    have q2 : r.name = nmQ := q2
    have q4 : r.num = (q : Int) := q4
    have q5 : r.rows = 0 := q5
    have hz : r.num.toNat = q := by rw [q4]; exact Int.toNat_natCast _
    have hnone : en0.nm nmQ = none := by
      show (if 0 < gar nmQ then some _ else none) = none
      rw [nmQ_gar, if_neg (by decide)]
    obtain ⟨en', t1, t2, t3, t4⟩ := bits_look (q := q) l 0 0 n ⟨putN en0.nm r.name ⟨1, en0.q, r.num.toNat, 0, []⟩, en0.q + r.num.toNat, en0.b, en0.pr, en0.d⟩ [] rs' hs hn rfl
      ⟨fun _ => by show putN en0.nm r.name _ nmQ = _; unfold putN; rw [if_pos q2.symm, hz]; rfl,
       fun x hx => absurd hx List.not_mem_nil,
       fun s hs => by
        show putN en0.nm r.name _ s = _
        unfold putN
        rw [if_neg (by rw [q2]; rintro rfl; rw [nmQ_gar] at hs; exact absurd hs (Nat.lt_irrefl _))]
        exact en0_g hs⟩ (fun x hx => absurd hx List.not_mem_nil)
      (fun j _ => by
        show putN en0.nm r.name _ (nmC j) = _
        unfold putN
        rw [if_neg (by rw [q2]; exact fun e => nmQ_ne j e.symm)]
        exact en0_c j) h2
    refine ⟨en', fun K hK => ?_, t2, t3, t4.trans (by show 0 + r.num.toNat = q; omega)⟩
    have hrow : rowR (lookB (([] : List Rw).length + 1)) en0 ⟨r.place, 0, false, 0, 0⟩ r [] = .ok (⟨putN en0.nm r.name ⟨1, en0.q, r.num.toNat, 0, []⟩, en0.q + r.num.toNat, en0.b, en0.pr, en0.d⟩, []) := by
      unfold rowR
      rw [if_pos q1, decE_ok (by rw [q2]; exact hnone) (by omega) (by show ((0 : Nat) : Int) + r.num ≤ 64; omega)]
      rfl
    exact look_cons (body := []) (rest := rs') (sd := sd0) (form_decl _ q5 rfl (.inl q1)) (by rw [q5]; rfl) hrow t1 K hK
theorem an_and {v m : Nat} (hv : v < 18446744073709551616) (hm : m < 18446744073709551616) (h : anB (v : Int) (m : Int) = true) : v &&& m = v := by
  unfold anB at h
  rw [u64_andNot_nat v m hv hm] at h
  have h : v &&& (18446744073709551615 - m) = 0 := by simpa using h
  apply Nat.eq_of_testBit_eq
  intro i
  have hi := congrArg (fun x => x.testBit i) h
  simp only [Nat.testBit_and, Nat.zero_testBit] at hi
  rw [show 18446744073709551615 - m = 2 ^ 64 - (m + 1) by omega, Nat.testBit_two_pow_sub_succ (by simpa using hm)] at hi
  rw [Nat.testBit_and]
  cases e : v.testBit i with
  | false => rfl
  | true =>
    have h64 : i < 64 := by
      rcases Nat.lt_or_ge i 64 with h | h
      · exact h
      · rw [Nat.testBit_lt_two_pow (Nat.lt_of_lt_of_le (show v < 2 ^ 64 by simpa using hv) (Nat.pow_le_pow_right (by decide) h))] at e
        cases e
    rw [e, decide_eq_true h64] at hi
    simpa using hi
theorem rc_ok {o : Oq} {b : Nat} (hf : Fit o) (h : rcB o b = true) : o.m.toNat < 2 ^ b ∧ o.v.toNat &&& o.m.toNat = o.v.toNat ∧ o.f = decide (o.m.toNat ≠ 0) := by
  have h0 := hf.m0
  have h1 := hf.m1
  have h2 := hf.v0
  have h3 := hf.v1
  unfold rcB at h
  cases e : o.f with
  | true =>
    rw [e, if_pos rfl, Bool.and_eq_true, Bool.and_eq_true, decide_eq_true_eq] at h
    obtain ⟨g1, g2, g3⟩ := h
    have g1 : o.m ≠ 0 := by simpa using g1
    have g3 : anB ((o.v.toNat : Nat) : Int) ((o.m.toNat : Nat) : Int) = true := by rw [Int.toNat_of_nonneg h0, Int.toNat_of_nonneg h2]; exact g3
    have g2 : ((o.m.toNat : Nat) : Int) / 2 ^ b = 0 := by rw [Int.toNat_of_nonneg h0]; exact g2
    have g1 : o.m.toNat ≠ 0 := by omega
    have hlt : o.m.toNat < 18446744073709551616 := by omega
    have hlv : o.v.toNat < 18446744073709551616 := by omega
    generalize o.m.toNat = m at *
    generalize o.v.toNat = v at *
    refine ⟨?_, an_and hlv hlt g3, (decide_eq_true g1).symm⟩
    have g2 : ((m / 2 ^ b : Nat) : Int) = 0 := by rw [Int.natCast_ediv]; simpa using g2
    have g2 : m / 2 ^ b = 0 := by omega
    rcases Nat.div_eq_zero_iff.1 g2 with h | h
    · exact absurd h (Nat.ne_of_gt (Nat.two_pow_pos b))
    · exact h
  | false =>
    rw [e] at h
    have h : (o.m == 0 && o.v == 0) = true := h
    rw [Bool.and_eq_true] at h
    have e1 : o.m = 0 := by simpa using h.1
    have e2 : o.v = 0 := by simpa using h.2
    rw [e1, e2]
    exact ⟨Nat.two_pow_pos b, rfl, rfl⟩
theorem asked_fst (m : Nat) (l : List (Nat × Nat)) (k : Nat) : (askR m (l.zipIdx k)).map Prod.fst = askd m l := by
  unfold askR askd
  conv => rhs; rw [← List.zipIdx_map_fst k l]
  rw [List.filter_map]
  rfl
theorem ops_look {en : En} {q n : Nat} {l : List (Nat × Nat)} (he : Env en q l.zipIdx) (hs : Seg 0 l n) : ∀ (ops : List Oq) (rs : List Rw), (∀ o ∈ ops, opE o q n (opN o) = 0 ∧ Fit o ∧ (∀ r ∈ l, Whl o.m.toNat r) ∧ (askR o.m.toNat l.zipIdx).length ≤ 32) → RL (ops.flatMap (opRows l.zipIdx)) rs →
    ∃ L, (∀ K, rs.length < K → lookB K en sd0 rs = .ok (en, L)) ∧ L.map opT = ops
  | [], rs, _, h => by
    obtain rfl : rs = [] := by
      cases rs with
      | nil => rfl
      | cons _ _ => cases h
    exact ⟨[], look_nil en sd0, rfl⟩
  | o :: ops, rs, ho, h => by
    rw [List.flatMap_cons] at h
    obtain ⟨a, b, rfl, h1, h2⟩ := rl_app h
    obtain ⟨L, t1, t2⟩ := ops_look he hs ops b (fun x hx => ho x (List.mem_cons_of_mem _ hx)) h2
    obtain ⟨g1, g2, g3, g4⟩ := ho o List.mem_cons_self
    have hfst : (l.zipIdx).map Prod.fst = l := List.zipIdx_map_fst 0 l
    obtain ⟨c1, c2, c3⟩ := rc_ok g2 (opE_ok g1).2.1
    have ha := asked_fst o.m.toNat l 0
    obtain ⟨s, s1, s2, s3⟩ := ifs_look he (by rw [hfst]; exact hs) g1 (askR o.m.toNat l.zipIdx) 0 sd0 a h1 (fun x hx => (List.mem_filter.1 hx).1) (by rw [ha]; exact srt_filter _ l 0 n hs) (by show 0 < 2 ^ 0; decide) rfl (by show 0 + _ ≤ 32; omega)
    rw [ha] at s1 s2
    have s1 : s.m = accM 0 (askd o.m.toNat l) := s1
    have s2 : s.v = accV o.v.toNat 0 (askd o.m.toNat l) := s2
    rw [askd_mask hs g3 c1] at s1
    rw [askd_val hs g3 c1 c2] at s2
    refine ⟨⟨o.k, o.n, o.qs, o.b, some s⟩ :: L, fun K hK => look_app (a.length + 1) a b en en en sd0 [_] L (Nat.lt_succ_self _) (s3 _ (Nat.lt_succ_self _)) t1 K hK, ?_⟩
    rw [List.map_cons, t2]
    congr 1
    have h0 := g2.m0
    have h2 := g2.v0
    show (⟨o.k, o.n, o.qs, o.b, decide (s.m ≠ 0), ((s.m : Nat) : Int), ((s.v : Nat) : Int)⟩ : Oq) = o
    rw [s1, s2, ← c3, Int.toNat_of_nonneg h0, Int.toNat_of_nonneg h2]
theorem lkF_all {q : Int} {b : Nat} : ∀ (l : List Oq) (k h : Nat), (lkF q b l k h).2.2 = 0 → ∀ o ∈ l, opE o q b (opN o) = 0
  | [], _, _, _, o, ho => by cases ho
  | x :: l, k, h, hh, o, ho => by
    unfold lkF at hh
    split at hh
    · rename_i g; exact absurd hh g
    · rename_i g
      split at hh
      · cases hh
      · rcases List.mem_cons.1 ho with rfl | ho
        · exact Classical.not_not.1 g
        · exact lkF_all l _ _ hh o ho
theorem lk_parts {c : Ci} (h : (lk c).2.2 = 0) : 0 ≤ c.q ∧ c.q ≤ 64 ∧ 0 ≤ c.b ∧ c.b ≤ 64 ∧ c.ops.length ≤ 4096 ∧ ∀ o ∈ c.ops, opE o c.q c.b.toNat (opN o) = 0 := by
  unfold lk at h
  split at h
  · cases h
  · rename_i hb
    split at h
    · cases h
    · rename_i hl
      have hb : ¬ badC c := fun e => hb ((bad_iff c).2 e)
      unfold badC at hb
      exact ⟨by omega, by omega, by omega, by omega, by omega, lkF_all _ _ _ h⟩
theorem show_flat {c : Ci} {l : List (Nat × Nat)} {rs : List Rw} (h : (lk c).2.2 = 0) (hs : Seg 0 l c.b.toNat) (ho : ∀ o ∈ c.ops, Fit o ∧ (∀ r ∈ l, Whl o.m.toNat r) ∧ (askR o.m.toNat l.zipIdx).length ≤ 32) (hr : RL (shRows c l.zipIdx) rs) : FlS rs c 0 0 := by
  obtain ⟨p1, p2, p3, p4, p5, p6⟩ := lk_parts h
  obtain ⟨a, b, rfl, h1, h2⟩ := rl_app hr
  obtain ⟨q, hq⟩ : ∃ q : Nat, c.q = q := ⟨c.q.toNat, by omega⟩
  rw [hq] at h1
  obtain ⟨en, t1, t2, t3, t4⟩ := decl_look (by omega) hs (by omega) h1
  obtain ⟨L, u1, u2⟩ := ops_look t2 hs c.ops b (fun o hx => ⟨by rw [← hq]; exact p6 o hx, ho o hx⟩) h2
  have hlook := look_app (a.length + 1) a b en0 en en sd0 [] L (Nat.lt_succ_self _) (t1 _ (Nat.lt_succ_self _)) u1 ((a ++ b).length + 1) (Nat.lt_succ_self _)
  have hc : (⟨(en.q : Int), (en.b : Int), L.map opT⟩ : Ci) = c := by
    rw [t3, t4, u2, ← hq, Int.toNat_of_nonneg p3]
  have hlen : L.length = c.ops.length := by rw [← u2, List.length_map]
  unfold FlS
  rw [hlook]
  show (if 4096 < L.length then _ else if (lk ⟨en.q, en.b, L.map opT⟩).2.2 = 0 then _ else _)
  rw [if_neg (by omega), hc, if_pos h]
  exact ⟨hc.symm, rfl, rfl⟩
end Go.Proofs.YtdjfpghgklkejaaGreatDoor
namespace Go.Proofs.YtdjfpghgklkejaaGreatDoor
theorem shp_q : shp wQubits = some shDecl := by unfold shp; rw [if_pos rfl]
theorem shp_b : shp wBits = some shDecl := by unfold shp; rw [if_neg (by decide), if_pos rfl]
theorem shp_i : shp wIf = some shIf := by unfold shp; rw [if_neg (by decide), if_neg (by decide), if_neg (by decide), if_neg (by decide), if_pos rfl]
theorem shp_m : shp wMeasure = some shMeasure := by unfold shp; rw [if_neg (by decide), if_neg (by decide), if_neg (by decide), if_neg (by decide), if_neg (by decide), if_pos rfl]
theorem shp_r : shp wReset = some shReset := by unfold shp; rw [if_neg (by decide), if_neg (by decide), if_neg (by decide), if_neg (by decide), if_neg (by decide), if_neg (by decide), if_pos rfl]
theorem shp_u : shp wUse = some shUse := by unfold shp; rw [if_neg (by decide), if_neg (by decide), if_neg (by decide), if_neg (by decide), if_neg (by decide), if_neg (by decide), if_neg (by decide), if_pos rfl]
theorem shp_is {k : ByteArray} {x : Sh} (h : shp k = some x) : (shp k).isSome = true := by rw [h]; rfl
theorem shR_of {r : Rw} {x : Sh} (h : shp r.kind = some x) : shR r = x := by unfold shR; rw [h]; rfl
theorem isN_digit {n : Nat} (h : 48 ≤ n ∧ n ≤ 57) : isN n = true := by
 unfold isN isD
 have : (decide (48 ≤ n) && decide (n ≤ 57)) = true := by simp; exact h
 simp [h.1, h.2]
theorem nmC_name (j : Nat) : plnN (nmC j) = true := by
 rw [plnN_p]
 obtain ⟨hd, hn⟩ := dec_ds j
 have e := nmC_list j
 have hz : (nmC j).data.toList.length = (nmC j).size := rfl
 constructor
 ·unfold nmB
  have h1 : isL (cb (nmC j) 0) = true := by rw [cb_list, e]; show isL 99 = true; decide
  have h2 : run isN (nmC j) 0 = (nmC j).size := End.run ⟨Nat.zero_le _, Nat.le_refl _, fun k _ hk => by
   rw [cb_list, e]
   rw [← hz, e] at hk
   rw [List.getElem?_eq_getElem hk]
   show isN (UInt8.toNat _) = true
   cases k with
   | zero => show isN 99 = true; decide
   | succ k =>
    rw [List.getElem_cons_succ]
    exact isN_digit (hd _ (List.getElem_mem _)), by rw [cb_out (Nat.lt_irrefl _)]; exact isN6⟩ isN6
  rw [h1, h2]
  simp
 ·have hne : ∀ w : ByteArray, w.data.toList.head? ≠ some 99 → ¬ nmC j = w := fun w hw e2 => hw (by rw [← e2, e]; rfl)
  unfold ownB
  rw [decide_eq_false (hne _ (by decide)), decide_eq_false (hne _ (by decide)), decide_eq_false (hne _ (by decide)), decide_eq_false (hne _ (by decide)), decide_eq_false (hne _ (by decide)), decide_eq_false (hne _ (by decide)), decide_eq_false (hne _ (by decide))]
  rfl
theorem nmQ_name : plnN nmQ = true := by decide +kernel
theorem nms_name : ∀ s ∈ nms, plnN s = true := by
 have : nms.all plnN = true := by decide +kernel
 exact fun s hs => List.all_eq_true.1 this s hs
theorem qArgs_ok {l : List Int} {q : Int} (h : ∀ x ∈ l, 0 ≤ x ∧ x < q) (hq : q ≤ 64) : (qArgs l).all (argOk true) = true := by
 rw [List.all_eq_true]
 intro a ha
 obtain ⟨x, hx, rfl⟩ := List.mem_map.1 ha
 have := h x hx
 rw [argOk_p]
 exact ⟨nmQ_name, .inr ⟨rfl, numOk_p.2 (by show 0 ≤ x ∧ x ≤ _; omega)⟩⟩
theorem fit_args {r : Rw} (hk : (shp r.kind) = some shMeasure ∨ (shp r.kind) = some shReset ∨ (shp r.kind) = some shUse) (hname : if (shR r).name = true then plnN r.name = true else r.name = ⟨#[]⟩) (hnum : r.num = 0) (ha : r.args.all (argOk true) = true) (hl : (shR r).args = -1 ∨ (r.args.length : Int) = (shR r).args) : fitB r (shR r) = true := by
 unfold fitB
 have e : (shR r).num = false ∧ (shR r).idx = true := by
  unfold shR
  rcases hk with h | h | h <;> rw [h] <;> exact ⟨rfl, rfl⟩
 rw [e.1, e.2, ha, hnum]
 have h1 : (if (shR r).name = true then plnN r.name else decide (r.name = ⟨#[]⟩)) = true := by
  split
  ·rename_i h; rw [if_pos h] at hname; exact hname
  ·rename_i h; rw [if_neg h] at hname; exact decide_eq_true hname
 rw [h1]
 rcases hl with h | h
 ·rw [decide_eq_true h]; rfl
 ·rw [decide_eq_true h, Bool.or_true]; rfl
theorem st_fit {q n : Nat} {l : List (Nat × Nat)} (hs : Seg 0 l n) (hq : q ≤ 64) (hn : n ≤ 64) {o : Oq} (ho : opE o q n (opN o) = 0) : (shp (stRow o l.zipIdx).kind).isSome = true ∧ fitB (stRow o l.zipIdx) (shR (stRow o l.zipIdx)) = true ∧ (stRow o l.zipIdx).rows = 0 ∧ (shR (stRow o l.zipIdx)).body = false := by
 obtain ⟨g1, g2, g3, g4, g5, g6⟩ := opE_ok ho
 unfold rnB at g5
 rw [Bool.and_eq_true] at g5
 obtain ⟨g5, g7⟩ := g5
 obtain ⟨e1, e2⟩ := qs_nat g5
 have hqa := qArgs_ok e2 (by omega)
 have hql : (qArgs o.qs).length = o.qs.length := List.length_map _
 unfold rfB at g1
 unfold stRow
 by_cases k2 : o.k = 2
 ·rw [if_pos k2]
  have hn1 : opN o = 1 := by unfold opN; rw [if_neg (by omega)]
  have ob : 0 ≤ o.b ∧ o.b < n := by
   rw [k2] at g7
   simpa using g7
  obtain ⟨x, hx, e, h1, h2⟩ := bArg_at l.zipIdx 0 n o.b.toNat (by rw [List.zipIdx_map_fst]; exact hs) (Nat.zero_le _) (by omega)
  have hsh := shR_of (r := ⟨wMeasure, ⟨#[]⟩, qArgs o.qs ++ [bArg o.b.toNat l.zipIdx], 0, 0, 0⟩) shp_m
  have hlen : (((qArgs o.qs ++ [bArg o.b.toNat l.zipIdx]).length : Nat) : Int) = 2 := by
   rw [List.length_append, List.length_singleton, hql, g4, hn1]
   rfl
  refine ⟨shp_is shp_m, fit_args (.inl shp_m) (by rw [hsh]; exact rfl) rfl ?_ (.inr (by rw [hsh]; exact hlen)), rfl, by rw [hsh]⟩
  rw [List.all_append, hqa, e]
  show (argOk true _ && true) = true
  rw [Bool.and_true, argOk_p]
  exact ⟨nmC_name _, .inr ⟨rfl, numOk_p.2 (by show 0 ≤ ((o.b.toNat : Nat) : Int) - x.1.1 ∧ ((o.b.toNat : Nat) : Int) - x.1.1 ≤ _; omega)⟩⟩
 ·rw [if_neg k2]
  by_cases k3 : o.k = 3
  ·rw [if_pos k3]
   have hn1 : opN o = 1 := by unfold opN; rw [if_neg (by omega)]
   have hsh := shR_of (r := ⟨wReset, ⟨#[]⟩, qArgs o.qs, 0, 0, 0⟩) shp_r
   have hlen : (((qArgs o.qs).length : Nat) : Int) = 1 := by
    rw [hql, g4, hn1]
    rfl
   exact ⟨shp_is shp_r, fit_args (.inr (.inl shp_r)) (by rw [hsh]; exact rfl) rfl hqa (.inr (by rw [hsh]; exact hlen)), rfl, by rw [hsh]⟩
  ·rw [if_neg k3]
   have k1 : o.k = 1 := by
    by_cases k1 : o.k = 1
    ·exact k1
    ·exfalso
     rw [if_neg (by simpa using k1), if_neg (by simpa using k2), if_neg (by simpa using k3)] at g1
     cases g1
   have hN : opN o = gar o.n := by unfold opN; rw [if_pos k1]
   have hsh := shR_of (r := ⟨wUse, o.n, qArgs o.qs, 0, 0, 0⟩) shp_u
   have hnn : gar o.n ≠ 0 := by rw [← hN]; exact g3
   exact ⟨shp_is shp_u, fit_args (.inr (.inr shp_u)) (by rw [hsh]; exact nms_name _ (gar_nms _ hnn)) rfl hqa (.inl (by rw [hsh])), rfl, by rw [hsh]⟩
theorem fit_num {r : Rw} (hk : (shp r.kind) = some shDecl ∨ (shp r.kind) = some shIf) (hname : plnN r.name = true) (hnum : numOk r.num = true) (ha : r.args = []) : fitB r (shR r) = true := by
 have e : (shR r).name = true ∧ (shR r).num = true ∧ (shR r).args = 0 := by
  unfold shR
  rcases hk with h | h <;> rw [h] <;> exact ⟨rfl, rfl, rfl⟩
 unfold fitB
 rw [e.1, e.2.1, e.2.2, hname, hnum, ha]
 rfl
theorem ifs_chk {q n : Nat} {l : List (Nat × Nat)} (hs : Seg 0 l n) (hq : q ≤ 64) (hn : n ≤ 64) {o : Oq} (ho : opE o q n (opN o) = 0) : ∀ (ys : List Rg) (d : Nat), (∀ x ∈ ys, x.1 ∈ l) → d + ys.length ≤ 32 → ∀ (F : Nat) (c : List Rw), (∀ F, chk F d c = true) → chk F d ((ifRows o.v.toNat ys ++ [stRow o l.zipIdx]) ++ c) = true
 | _, _, _, _, 0, _, _ => rfl
 | [], d, _, _, F + 1, c, hc => by
  obtain ⟨h1, h2, h3, h4⟩ := st_fit hs hq hn ho
  exact chk_put (b := []) h1 h2 (by rw [h3]; rfl) (.inr ⟨h4, rfl⟩) (hc F)
 | x :: ys, d, hm, hd, F + 1, c, hc => by
  rw [List.length_cons] at hd
  have hlt := part_lt o.v.toNat x.1
  have hz := (seg_mem l 0 n hs x.1 (hm x List.mem_cons_self)).2.2.1
  have h32 : 2 ^ x.1.2 ≤ 2 ^ 32 := Nat.pow_le_pow_right (by decide) hz
  have ih := ifs_chk hs hq hn ho ys (d + 1) (fun y hy => hm y (List.mem_cons_of_mem _ hy)) (by omega) F [] (fun F => by cases F <;> rfl)
  rw [List.append_nil] at ih
  refine chk_put (r := ifRow x o.v.toNat (ys.length + 1)) (b := ifRows o.v.toNat ys ++ [stRow o l.zipIdx]) (shp_is shp_i) (fit_num (.inr shp_i) (nmC_name _) (numOk_p.2 ?_) rfl) ?_ (.inl ⟨by rw [shR_of (r := ifRow x o.v.toNat (ys.length + 1)) shp_i], by omega, ih⟩) (hc F)
  ·show 0 ≤ (((o.v.toNat &&& regM x.1) >>> x.1.1 : Nat) : Int) ∧ (((o.v.toNat &&& regM x.1) >>> x.1.1 : Nat) : Int) ≤ 9007199254740991
   have h3 : (2 : Nat) ^ 32 = 4294967296 := by decide
   generalize (o.v.toNat &&& regM x.1) >>> x.1.1 = y at *
   generalize 2 ^ x.1.2 = z at *
   omega
  ·show ((ys.length + 1 : Nat) : Int) = ((ifRows o.v.toNat ys ++ [stRow o l.zipIdx]).length : Nat)
   rw [List.length_append, ifRows_len, List.length_singleton]
theorem asked_mem {m : Nat} {l : List (Nat × Nat)} {x : Rg} (h : x ∈ askR m l.zipIdx) : x.1 ∈ l := by
 have h := (List.mem_filter.1 h).1
 have : x.1 ∈ (l.zipIdx).map Prod.fst := List.mem_map.2 ⟨x, h, rfl⟩
 rwa [List.zipIdx_map_fst] at this
theorem ops_chk {q n : Nat} {l : List (Nat × Nat)} (hs : Seg 0 l n) (hq : q ≤ 64) (hn : n ≤ 64) : ∀ (ops : List Oq), (∀ o ∈ ops, opE o q n (opN o) = 0 ∧ (askR o.m.toNat l.zipIdx).length ≤ 32) → ∀ F, chk F 0 (ops.flatMap (opRows l.zipIdx)) = true
 | [], _, F => by cases F <;> rfl
 | o :: ops, ho, F => by
  rw [List.flatMap_cons]
  obtain ⟨g1, g2⟩ := ho o List.mem_cons_self
  exact ifs_chk hs hq hn g1 _ 0 (fun x hx => asked_mem hx) (by omega) F _ (ops_chk hs hq hn ops (fun x hx => ho x (List.mem_cons_of_mem _ hx)))
theorem decl_chk (R : List Rg) (c : List Rw) (h : ∀ x ∈ R, x.1.2 ≤ 32) (hc : ∀ F, chk F 0 c = true) : ∀ F, chk F 0 (R.map bitRow ++ c) = true := by
 induction R with
 | nil => exact hc
 | cons x R ih =>
  intro F
  cases F with
  | zero => rfl
  | succ F =>
   have hx := h x List.mem_cons_self
   exact chk_put (r := bitRow x) (b := []) (shp_is shp_b) (fit_num (.inl shp_b) (nmC_name _) (numOk_p.2 (by show 0 ≤ ((x.1.2 : Nat) : Int) ∧ ((x.1.2 : Nat) : Int) ≤ _; omega)) rfl) rfl (.inr ⟨by rw [shR_of (r := bitRow x) shp_b], rfl⟩) (ih (fun y hy => h y (List.mem_cons_of_mem _ hy)) F)
theorem show_chk {c : Ci} {l : List (Nat × Nat)} (h : (lk c).2.2 = 0) (hs : Seg 0 l c.b.toNat) (ho : ∀ o ∈ c.ops, (askR o.m.toNat l.zipIdx).length ≤ 32) : ∀ F, chk F 0 (shRows c l.zipIdx) = true := by
 obtain ⟨p1, p2, p3, p4, p5, p6⟩ := lk_parts h
 obtain ⟨q, hq⟩ : ∃ q : Nat, c.q = q := ⟨c.q.toNat, by omega⟩
 have hops := ops_chk (q := q) hs (by omega) (by omega) c.ops (fun o hx => ⟨by rw [← hq]; exact p6 o hx, ho o hx⟩)
 have hbits := decl_chk l.zipIdx _ (fun x hx => (seg_mem l 0 _ hs x.1 (by have : x.1 ∈ (l.zipIdx).map Prod.fst := List.mem_map.2 ⟨x, hx, rfl⟩; rwa [List.zipIdx_map_fst] at this)).2.2.1) hops
 unfold shRows declRows
 intro F
 by_cases h0 : 0 < c.q
 ·rw [if_pos h0, List.append_assoc]
  cases F with
  | zero => rfl
  | succ F =>
   exact chk_put (r := ⟨wQubits, nmQ, [], c.q, 0, 0⟩) (b := []) (shp_is shp_q) (fit_num (.inl shp_q) nmQ_name (numOk_p.2 (by show 0 ≤ c.q ∧ c.q ≤ _; omega)) rfl) rfl (.inr ⟨by rw [shR_of (r := ⟨wQubits, nmQ, [], c.q, 0, 0⟩) shp_q], rfl⟩) (hbits F)
 ·rw [if_neg h0]
  exact hbits F
theorem show_back {c : Ci} {l : List (Nat × Nat)} (h : (lk c).2.2 = 0) (hs : Seg 0 l c.b.toNat) (ho : ∀ o ∈ c.ops, Fit o ∧ (∀ r ∈ l, Whl o.m.toNat r) ∧ (askR o.m.toNat l.zipIdx).length ≤ 32) {s : ByteArray} {e : Nat} (hS : SOut (shRows c l.zipIdx) s e) :
  (e ≠ 0 ∧ s = ⟨#[]⟩) ∨ (e = 0 ∧ s.size ≤ 65536 ∧ ∃ rs, POut s rs 0 0 ∧ FlS rs c 0 0) := by
 have hc := show_chk h hs (fun o hx => (ho o hx).2.2)
 rcases hS with ⟨h1, _⟩ | ⟨_, _, h2, h3⟩ | ⟨_, h1, h2, h3⟩
 ·rw [hc] at h1; cases h1
 ·exact .inl ⟨by omega, h2⟩
 ·obtain ⟨rs, r1, r2⟩ := back_pout _ (hc _) h1
  refine .inr ⟨h3, by rw [h2]; show (bodyB _ _ _).toArray.size ≤ _; rw [List.size_toArray]; exact h1, rs, by rw [h2]; exact r1, show_flat h hs ho r2⟩
end Go.Proofs.YtdjfpghgklkejaaGreatDoor
