/-
  Names of rows that were read are tokens' texts; the law's great.
-/
import Derived.Test.YtiepbfeliehjnaaDoorBB
namespace Go.Proofs.YtiepbfeliehjnaaDoor
open Go.RowKit Go.Sort

/-- All names of a row are at most M bytes long. -/
def NmS (M : Nat) (r : Rw) : Prop := r.name.size ≤ M ∧ ∀ a ∈ r.args, a.n.size ≤ M
def TkM (M : Nat) (l : List Tk) : Prop := ∀ t ∈ l, t.t.size ≤ M
theorem TkM.suf {M : Nat} {l r : List Tk} (h : TkM M l) (hs : r <:+ l) : TkM M r := fun t ht => h t (hs.mem ht)
theorem name_sz {M : Nat} {n : Int} {l r : List Tk} {a : ByteArray} (h : nameP n l = .ok (a, r)) (hr : TkM M l) : a.size ≤ M := by
  obtain ⟨t, rfl, rfl, _⟩ := nameP_len h
  exact hr t List.mem_cons_self
theorem arg_sz {M : Nat} {n : Int} {ix : Bool} {l r : List Tk} {a : Ar} (h : argP n ix l = .ok (a, r)) (hr : TkM M l) : a.n.size ≤ M := by
  unfold argP at h
  cases hn : nameP n l with
  | error e => rw [hn] at h; cases h
  | ok y =>
    obtain ⟨b, r1⟩ := y
    have hb := name_sz hn hr
    rw [hn] at h
    simp only at h
    by_cases hc : ix = true ∧ seesB wLeft r1 = true
    · rw [if_pos hc] at h
      cases hx : numP n r1.tail with
      | error e => rw [hx] at h; cases h
      | ok y =>
        obtain ⟨x, r3⟩ := y
        rw [hx] at h
        simp only at h
        cases hs : signP n wRight r3 with
        | error e => rw [hs] at h; cases h
        | ok y => rw [hs] at h; cases h; exact hb
    · rw [if_neg hc] at h; cases h; exact hb
theorem args_sz {M : Nat} {n : Int} {sh : Sh} : ∀ (f : Nat) {acc aa : List Ar} {l r : List Tk}, TkM M l → argsP n sh f acc l = .ok (aa, r) → (∀ a ∈ acc, a.n.size ≤ M) → ∀ a ∈ aa, a.n.size ≤ M := by
  intro f
  induction f with
  | zero => intro acc aa l r _ h ha; cases h; exact ha
  | succ f ih =>
    intro acc aa l r hr h ha
    unfold argsP at h
    by_cases hm : moreB sh acc.length l = true
    · rw [if_pos hm] at h
      cases he : argP n sh.idx l with
      | error e => rw [he] at h; cases h
      | ok y =>
        obtain ⟨a, r1⟩ := y
        rw [he] at h
        refine ih (hr.suf (argP_suf he)) h (fun b hb => ?_)
        rcases List.mem_append.1 hb with hb | hb
        · exact ha b hb
        · rw [List.mem_singleton] at hb; subst hb; exact arg_sz he hr
    · rw [if_neg hm] at h; cases h; exact ha
theorem mid_sz {M : Nat} {n : Int} {sh : Sh} {l r : List Tk} {nm : ByteArray} {aa : List Ar} {x : Nat} {p : Int} (h : midP n sh l = .ok ((nm, aa, x, p), r)) (hr : TkM M l) : nm.size ≤ M ∧ ∀ a ∈ aa, a.n.size ≤ M := by
  obtain ⟨l1, l2, l3, u, h1, h2, h3, h4, _⟩ := mid_cases h
  refine ⟨?_, args_sz _ (hr.suf (optName_suf h1)) h2 (fun a ha => by cases ha)⟩
  unfold optName at h1
  by_cases e : sh.name = true
  · rw [if_pos e] at h1; exact name_sz h1 hr
  · rw [if_neg e] at h1; cases h1; exact Nat.zero_le _
theorem stmt_sz {M : Nat} {n : Int} {g d : Nat} {l r : List Tk} {rs : List Rw} (ih : ∀ (d : Nat) (l r : List Tk) (rs : List Rw), stmtsP n g d l = .ok (rs, r) → TkM M l → r <:+ l ∧ ∀ x ∈ rs, NmS M x) (h : stmtP n (stmtsP n g) d l = .ok (rs, r)) (hr : TkM M l) :
    r <:+ l ∧ ∀ x ∈ rs, NmS M x := by
  obtain ⟨t, u, nm, aa, x, p, l4, rfl, hm, hh⟩ := stmt_cases h
  obtain ⟨z1, z2⟩ := mid_sz hm (hr.suf (restK_su t u))
  have hsu : l4 <:+ t :: u := (midP_suf hm).trans (restK_su t u)
  rcases hh with ⟨hb, rfl, rfl⟩ | ⟨hb, hd, rs2, l5, hrec, rfl, rfl⟩
  · exact ⟨hsu, fun y hy => by rw [List.mem_singleton] at hy; subst hy; exact ⟨z1, z2⟩⟩
  · obtain ⟨s5, hch⟩ := ih _ _ _ _ hrec (hr.suf hsu)
    refine ⟨((List.tail_suffix l5).trans s5).trans hsu, fun y hy => ?_⟩
    rcases List.mem_cons.1 hy with rfl | hy
    · exact ⟨z1, z2⟩
    · exact hch y hy
theorem stmts_sz {M : Nat} {n : Int} : ∀ (f d : Nat) (l r : List Tk) (rs : List Rw), stmtsP n f d l = .ok (rs, r) → TkM M l → r <:+ l ∧ ∀ x ∈ rs, NmS M x := by
  intro f
  induction f with
  | zero => intro d l r rs h; cases h
  | succ f ih =>
    intro d l r rs h hr
    rcases stmts_cases h with ⟨_, rfl, rfl⟩ | ⟨_, rs1, r1, rs2, h1, h2, rfl⟩
    · exact ⟨List.suffix_refl _, fun x hx => by cases hx⟩
    · obtain ⟨s1, c1⟩ := stmt_sz ih h1 hr
      obtain ⟨s2, c2⟩ := ih _ _ _ _ h2 (hr.suf s1)
      exact ⟨s2.trans s1, fun x hx => by rcases List.mem_append.1 hx with hx | hx; exact c1 x hx; exact c2 x hx⟩
theorem prog_sz {M : Nat} {n : Int} : ∀ (f : Nat) (l : List Tk) (rs : List Rw), progP n f l = .ok rs → TkM M l → ∀ x ∈ rs, NmS M x := by
  intro f
  induction f with
  | zero => intro l rs h; cases h
  | succ f ih =>
    intro l rs h hr
    rcases prog_cases h with ⟨_, rfl⟩ | ⟨_, rs1, r1, rs2, h1, h2, rfl⟩
    · exact fun x hx => by cases hx
    · obtain ⟨s1, c1⟩ := stmt_sz (stmts_sz f) h1 hr
      exact fun x hx => by rcases List.mem_append.1 hx with hx | hx; exact c1 x hx; exact ih _ _ h2 (hr.suf s1) x hx
theorem pout_sz {s : ByteArray} {rs : List Rw} {a : Int} {e : Nat} (h : POut s rs a e) : ∀ x ∈ rs, NmS 65536 x := by
  obtain ⟨l, a0, e0, ho, hh⟩ := h
  rcases hh with ⟨_, rfl, _⟩ | ⟨rfl, hh⟩
  · exact fun x hx => by cases hx
  · rcases hh with ⟨_, _, _, rfl, _⟩ | ⟨hp, _⟩
    · exact fun x hx => by cases hx
    · obtain ⟨h6, hpre⟩ : s.size ≤ 65536 ∧ Pre s s.size l := by
        rcases ho with ⟨_, _, _, h⟩ | ⟨h6, h, _⟩ | ⟨_, _, h, _⟩
        · cases h
        · exact ⟨h6, h⟩
        · cases h
      refine prog_sz _ _ _ hp (fun t ht => ?_)
      obtain ⟨k, hk, rfl⟩ := List.getElem_of_mem ht
      have := hpre.sz k hk
      omega
set_option maxHeartbeats 2000000 in
set_option maxRecDepth 100000 in
theorem great_any (rs : List Rw) (v : Value) (w W : World) (hS : SR w v rs) (hB : Below w.heap.size w W) (hl : rs.length ≤ 9223372036854775807) (hz : Szs rs) :
    Calls Tryd.prog 12 #[v] W fun e W' => (∃ b : Bool, e = .returned (.bool b)) ∧ Below W.heap.size W W' := by
  obtain ⟨a, c, vs, rfl, hc, hv, hA, hR⟩ := hS
  have HA : Hid (∀ k (h : k < rs.length) (h' : k < vs.length), SA w vs[k] rs[k].args) := hA
  have HR : Hid (∀ k, k < rs.length → ∃ b o, a = some ⟨b, o, none⟩ ∧ RR w b o rs vs) := hR
  have HV : Hid (rs.length = vs.length) := hv
  have HB : Hid (Below w.heap.size w W) := hB
  have HZ : Hid (Szs rs) := hz
  clear hA hR hv hB hz
  go_enter Tryd.func12, Tryd.ntmps12
  go_upto_region 3 with (fail)
  go_loopw [3, 10] (fun v3 v10 wr => ∃ (x : Int) (k : Nat), k ≤ rs.length ∧ v3 = .int .i64 x ∧ v10 = .int .i64 k ∧ Hid (Below W.heap.size W wr)) (fun _ v _ => rs.length - (intOf v).toNat)
  case atStart => exact ⟨0, 0, Nat.zero_le _, rfl, rfl, Below.refl _ _⟩
  case round =>
    obtain ⟨x, k, hk, rfl, rfl, hI⟩ := hrel
    by_cases hlt : k < rs.length
    case neg =>
      obtain rfl : k = rs.length := by omega
      go_wp2
      go_ret
      exact ⟨⟨_, rfl⟩, hI.out⟩
    case pos =>
    have hkv : k < vs.length := by rw [← HV.out]; exact hlt
    obtain ⟨b, o, rfl, r0⟩ := HR.out k hlt
    obtain ⟨aa, ac, ev, ec, er⟩ := HA.out k hlt hkv
    have rr := (r0.below HB.out).below hI.out
    have m0 := rr.c0 k hlt
    have m1 := rr.c1 k hlt
    have m2 := rr.c2 k hlt hkv
    have m3 := rr.c3 k hlt
    have m4 := rr.c4 k hlt
    have m5 := rr.c5 k hlt
    have ml := rr.lt
    have hal := (HZ.out _ (List.getElem_mem hlt)).2.1
    rw [ev] at m2
    have ER : Hid (∀ j, j < rs[k].args.length → ∃ b o, aa = some ⟨b, o, none⟩ ∧ RA w b o rs[k].args) := er
    clear rr r0 er ev
    generalize rs[k] = r at *
    obtain ⟨kd, nm, ag, nu, ro, pl⟩ := r
    simp only at m0 m1 m2 m3 m4 m5 hal ec
    go_upto_region 7 with (fail)
    have hJ : Hid (Below W.heap.size W (wr.alloc (.cells #[.string kd, .string nm, .slice aa ag.length ac, .int .i64 nu, .int .i64 ro, .int .i64 pl] 45))) := bal hI.out _
    generalize wr.alloc (.cells #[.string kd, .string nm, .slice aa ag.length ac, .int .i64 nu, .int .i64 ro, .int .i64 pl] 45) = WA at *
    clear m0 m1 m2 m3 m4 m5 ml
    go_loopw [3, 27] (fun v3 v27 wq => ∃ (y : Int) (j : Nat), j ≤ ag.length ∧ v3 = .int .i64 y ∧ v27 = .int .i64 j ∧ Hid (Below W.heap.size W wq)) (fun _ v _ => ag.length - (intOf v).toNat)
    case atStart => exact ⟨_, 0, Nat.zero_le _, rfl, rfl, hJ⟩
    case round =>
      obtain ⟨y, j, hj, rfl, rfl, hQ⟩ := hrel
      by_cases hjl : j < ag.length
      · obtain ⟨ab, ao, rfl, ra0⟩ := ER.out j hjl
        have ra := (ra0.below HB.out).below hQ.out
        have l0 := ra.c0 j hjl
        have l1 := ra.c1 j hjl
        have l2 := ra.lt
        clear ra ra0
        generalize ag[j].n = an at *
        generalize ag[j].x = ax at *
        go_wp2
        go_roundw
        case rel => exact ⟨_, j + 1, by omega, rfl, by go_num, bal hQ.out _⟩
        case measure => simp [intOf]; omega
      · obtain rfl : j = ag.length := by omega
        by_cases hy : 16384 < y
        · go_wp2
          go_ret
          exact ⟨⟨_, rfl⟩, hQ.out⟩
        · go_wp2
          go_roundw
          case rel => exact ⟨_, k + 1, by omega, rfl, by go_num, hQ⟩
          case measure => simp [intOf]; omega
end Go.Proofs.YtiepbfeliehjnaaDoor
