/-
  The law's idle: blanks and remarks alone.
-/
import Derived.Test.YtfjpdekegbnbaaaA6
import Derived.Test.YtfjpdekegbnbaaaM2
namespace Go.Proofs.Ytfjpdekegbnbaaa
open Go.RowKit Go.Sort

theorem idW_at35 {s : ByteArray} {last : Bool} {i k : Nat} (h : idW s last i) (hi : i < s.size) (hc : cb s i = 35) (he : End isR s i k) : (k = s.size ∧ last = true) ∨ (k < s.size ∧ idW s last (k + 1)) := by
  obtain ⟨n, hn, h⟩ := h
  cases n with
  | zero => omega
  | succ n =>
    unfold idF at h
    have := remark_lt hc he
    rw [if_neg (by omega), if_pos hc, he.run isR6] at h
    have := he.sz
    by_cases e : k = s.size
    · rw [if_pos e] at h
      exact .inl ⟨e, h⟩
    · rw [if_neg e] at h
      exact .inr ⟨by omega, n, by omega, h⟩
theorem idW_other {s : ByteArray} {last : Bool} {i : Nat} (h : idW s last i) (hi : i < s.size) (hc : ¬ cb s i = 35) : isB (cb s i) = true := by
  obtain ⟨n, hn, h⟩ := h
  cases n with
  | zero => omega
  | succ n =>
    unfold idF at h
    rw [if_neg (by omega), if_neg hc] at h
    by_cases e : isB (cb s i) = true
    · exact e
    · rw [if_neg e] at h
      exact absurd h (by decide)

set_option maxHeartbeats 2000000 in
theorem idle_any (s : ByteArray) (last : Bool) (w : World) (hs : s.size ≤ 9223372036854775807) (h : idW s last 0) :
    Calls Try.prog 16 #[.string s, .bool last] w fun e w' => e = .returned (.bool true) ∧ w' = w := by
  have H0 : Hid (idW s last 0) := h
  clear h
  go_enter Try.func16, Try.ntmps16
  go_upto_region 2 with (fail)
  go_loopg [5] s.size (fun g v wr => wr = w ∧ ∃ i : Nat, i ≤ s.size ∧ g = s.size - i ∧ v = .int .i64 i ∧ Hid (idW s last i))
  case atStart => exact ⟨rfl, 0, by omega, by omega, rfl, H0⟩
  case round =>
    clear H0
    obtain ⟨rfl, i, hi, rfl, rfl, hI⟩ := hrel
    by_cases hlt : i < s.size
    · by_cases hc : cb s i = 35
      · have he := run_end isR6 (s := s) (i := i) (by omega)
        generalize run isR s i = j at *
        have HE : Hid (End isR s i j) := he
        have HK : Hid ((j = s.size ∧ last = true) ∨ (j < s.size ∧ idW s last (j + 1))) := idW_at35 hI.out hlt hc he
        have hij := remark_lt hc he
        have hjs := he.sz
        rw [cb_at hlt] at hc
        have h35 : ((s[i].toNat : Int) == 35) = true := by simp; omega
        clear hc he
        go_upto_region 5 with (fail)
        go_loopg [5] (j - i) (fun g v wr' => wr' = wr ∧ ∃ k : Nat, i ≤ k ∧ k ≤ j ∧ g = j - k ∧ v = .int .i64 k)
        case atStart => exact ⟨rfl, i, by omega, by omega, rfl, rfl⟩
        case round =>
          obtain ⟨rfl, k, hik, hkj, rfl, rfl⟩ := hrel
          by_cases hk : k < j
          · have hks : k < s.size := by omega
            have h10 := (isR_p.1 (HE.out.all k hik hk)).1
            rw [cb_at hks] at h10
            have h11 : ((s[k].toNat : Int) == 10) = false := by simp; omega
            clear h10
            go_wp2
            go_roundg (j - (k + 1))
            case measure => omega
            case rel => exact ⟨rfl, k + 1, by omega, by omega, rfl, by go_num⟩
          · obtain rfl : k = j := by omega
            rcases HK.out with ⟨rfl, rfl⟩ | ⟨hks, hn⟩
            · go_wp2
              go_ret
              exact ⟨rfl, rfl⟩
            · have h10 := is10 HE.out hks
              rw [cb_at hks] at h10
              have h11 : ((s[k].toNat : Int) == 10) = true := by simp; omega
              have hN : Hid (idW s last (k + 1)) := hn
              have hne : ((k : Int) == (s.size : Int)) = false := by simp; omega
              clear h10 hn
              go_wp2
              go_roundg (s.size - (k + 1))
              case measure => omega
              case rel => exact ⟨rfl, k + 1, by omega, rfl, by go_num, hN⟩
      · have hb := idW_other hI.out hlt hc
        have hN : Hid (idW s last (i + 1)) := (idW_blank hlt hb).1 hI.out
        rw [cb_at hlt] at hb hc
        have h35 : ((s[i].toNat : Int) == 35) = false := by simp; omega
        clear hc hI
        rcases isB_p.1 hb with hc | hc | hc | hc
        all_goals
          clear hb h35
          go_wp2
          go_roundg (s.size - (i + 1))
          case measure => omega
          case rel => exact ⟨rfl, i + 1, by omega, rfl, by go_num, hN⟩
    · obtain rfl : i = s.size := by omega
      go_wp2
      go_ret
      exact ⟨rfl, rfl⟩
end Go.Proofs.Ytfjpdekegbnbaaa
