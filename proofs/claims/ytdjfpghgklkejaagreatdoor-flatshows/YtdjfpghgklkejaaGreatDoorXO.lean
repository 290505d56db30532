/-
  Put together of: LC1.
-/
import Derived.Test.YtdjfpghgklkejaaGreatDoorYF
namespace Go.Proofs.YtdjfpghgklkejaaGreatDoor
open Go.RowKit Go.Sort
theorem empty_of {s:ByteArray} (h:¬0<s.size):s=⟨#[]⟩:=by
 apply ByteArray.ext
 exact Array.eq_empty_of_size_eq_zero (by show s.size=0;omega)
set_option maxHeartbeats 1000000 in
theorem rname_any (s:ByteArray) (w:World) (hs:s.size≤9223372036854775807) :
  Calls Tryz.prog 167 #[.string s] w fun e w'=>e=.returned (.bool (nmB s))∧w'=w:=by
 by_cases h0:0<s.size
 ·have DA:=fun w=>digit_any s[0].toNat w
  have hz:=ne_empty h0
  have he:=run_end isN6 (i:=0) (s:=s) (by omega)
  cases hD:isD s[0].toNat with
  | true=>
   obtain ⟨_,_,h3,_⟩:=nB_of_D hD
   have hm:nmB s=false:=by unfold nmB;rw [cb_at h0,fls h3];rfl
   rw [hm]
   rw [hD] at DA
   clear hD h3 hm he
   go_enter Tryz.func167,Tryz.ntmps167
   go_wp2_with (go_at_call 95;(with_reducible refine (DA _).mono ?_);rintro e w1 ⟨rfl,rfl⟩)
   go_ret
   exact ⟨rfl,rfl⟩
  | false=>
   have hn:nmB s=decide (run isN s 0=s.size):=by
    unfold nmB
    by_cases e:run isN s 0=s.size
    ·have:=he.all 0 (Nat.le_refl _) (by omega)
     rw [cb_at h0] at this ⊢
     rcases isN_p.1 this with g | g
     ·rw [g];simp
     ·rw [hD] at g;exact absurd g (by decide)
    ·rw [decide_eq_false e];simp
   rw [hn]
   rw [hD] at DA
   clear hD hn
   generalize run isN s 0=j at *
   have HE:Hid (End isN s 0 j):=he
   have hjs:=he.sz
   clear he
   go_enter Tryz.func167,Tryz.ntmps167
   go_upto_region 4 with (go_at_call 95;(with_reducible refine (DA _).mono ?_);rintro e w1 ⟨rfl,rfl⟩)
   clear DA
   go_loopg [3] (j+1) (fun g v wr=>wr=w1∧∃k:Nat,k≤j∧g=j+1-k∧v=.int .i64 k)
   case atStart=>exact ⟨rfl,0,by omega,rfl,rfl⟩
   case round=>
    obtain ⟨rfl,k,hkj,rfl,rfl⟩:=hrel
    by_cases hk:k<j
    ·have hks:k<s.size:=by omega
     have hb:=HE.out.all k (by omega) hk
     rw [cb_at hks] at hb
     have LA:=fun w=>letter_any s[k].toNat w
     have DA:=fun w=>digit_any s[k].toNat w
     cases hL:isL s[k].toNat with
     | true=>
      rw [hL] at LA
      clear hb DA hL
      go_wp2_with (go_at_call 94;(with_reducible refine (LA _).mono ?_);rintro e w1 ⟨rfl,rfl⟩)
      go_roundg (j+1-(k+1))
      case measure=>omega
      case rel=>exact ⟨rfl,k+1,by omega,rfl,by go_num⟩
     | false=>
      have hD:isD s[k].toNat=true:=by
       rcases isN_p.1 hb with g | g
       ·rw [hL] at g;exact absurd g (by decide)
       ·exact g
      rw [hL] at LA
      rw [hD] at DA
      clear hb hL hD
      go_wp2_with (first | (go_at_call 94;(with_reducible refine (LA _).mono ?_);rintro e w1 ⟨rfl,rfl⟩) | (go_at_call 95;(with_reducible refine (DA _).mono ?_);rintro e w1 ⟨rfl,rfl⟩))
      go_roundg (j+1-(k+1))
      case measure=>omega
      case rel=>exact ⟨rfl,k+1,by omega,rfl,by go_num⟩
    ·obtain rfl:k=j:=by omega
     by_cases hks:k<s.size
     ·obtain ⟨hL,hD⟩:=isN_f HE.out.no
      rw [cb_at hks] at hL hD
      have LA:=fun w=>letter_any s[k].toNat w
      have DA:=fun w=>digit_any s[k].toNat w
      rw [hL] at LA
      rw [hD] at DA
      clear hL hD
      go_wp2_with (first | (go_at_call 94;(with_reducible refine (LA _).mono ?_);rintro e w9 ⟨rfl,rfl⟩) | (go_at_call 95;(with_reducible refine (DA _).mono ?_);rintro e w9 ⟨rfl,rfl⟩))
      go_ret
      exact ⟨ret_b ⟨fun h=>absurd h (by decide),fun h=>absurd (of_decide_eq_true h) (by omega)⟩,rfl⟩
     ·obtain rfl:k=s.size:=by omega
      go_wp2
      go_ret
      exact ⟨rfl,rfl⟩
 ·obtain rfl:=empty_of h0
  go_enter Tryz.func167,Tryz.ntmps167
  go_wp2
  go_ret
  exact ⟨rfl,rfl⟩
set_option maxHeartbeats 1000000 in
theorem named_any (s:ByteArray) (w:World) (hs:s.size≤9223372036854775807) :
  Calls Tryz.prog 153 #[.string s] w fun e w'=>e=.returned (.bool (plnN s))∧w'=w:=by
 have NA:=fun w=>rname_any s w hs
 have OA:=fun w=>rown_any s w
 unfold plnN
 cases hn:nmB s with
 | true=>
  rw [hn] at NA
  clear hn
  cases ho:ownB s with
  | true=>
   rw [ho] at OA
   clear ho
   go_enter Tryz.func153,Tryz.ntmps153
   go_wp2_with (first | (go_at_call 167;(with_reducible refine (NA _).mono ?_);rintro e w1 ⟨rfl,rfl⟩) | (go_at_call 98;(with_reducible refine (OA _).mono ?_);rintro e w2 ⟨rfl,rfl⟩))
   go_ret
   exact ⟨rfl,rfl⟩
  | false=>
   rw [ho] at OA
   clear ho
   go_enter Tryz.func153,Tryz.ntmps153
   go_wp2_with (first | (go_at_call 167;(with_reducible refine (NA _).mono ?_);rintro e w1 ⟨rfl,rfl⟩) | (go_at_call 98;(with_reducible refine (OA _).mono ?_);rintro e w2 ⟨rfl,rfl⟩))
   go_ret
   exact ⟨rfl,rfl⟩
 | false=>
  rw [hn] at NA
  clear hn
  go_enter Tryz.func153,Tryz.ntmps153
  go_wp2_with (first | (go_at_call 167;(with_reducible refine (NA _).mono ?_);rintro e w1 ⟨rfl,rfl⟩))
  go_ret
  exact ⟨rfl,rfl⟩
theorem argOk_eq (ix:Bool) (a:Ar):argOk ix a=(plnN a.n&&(decide (-1≤a.x)&&decide (a.x≤9007199254740991)&&(ix || decide (a.x= -1)))):=by
 unfold argOk numOk
 cases plnN a.n with
 | false=>rfl
 | true=>
  cases ix with
  | true=>
   simp only [Bool.true_and,Bool.true_or,Bool.and_true]
   rw [Bool.eq_iff_iff]
   simp
   omega
  | false=>
   simp only [Bool.true_and,Bool.false_and,Bool.or_false,Bool.false_or]
   rw [Bool.eq_iff_iff]
   simp
   omega
set_option maxHeartbeats 4000000 in
set_option maxRecDepth 100000 in
theorem arguments_any (ag:List Ar) (n:Int) (ix:Bool) (av:Value) (w W:World) (hS:SA w av ag) (hB:Below w.heap.size w W) (hl:ag.length≤9223372036854775807) (hz:∀a∈ag,a.n.size≤9223372036854775807) :
  Calls Tryz.prog 154 #[av,.int .i64 n,.bool ix] W fun e W'=>e=.returned (.bool ((decide (n<0) || decide ((ag.length:Int)=n))&&ag.all (argOk ix)))∧W'=W:=by
 obtain ⟨aa,ac,rfl,hac,hr⟩:=hS
 have HR:Hid (∀k,k<ag.length→∃b o,aa=some ⟨b,o,none⟩∧RA w b o ag):=hr
 have HZ:Hid (∀a∈ag,a.n.size≤9223372036854775807):=hz
 have HB:Hid (Below w.heap.size w W):=hB
 clear hr hz hB
 by_cases hbad:0≤n∧¬(ag.length:Int)=n
 ·obtain ⟨h0,h1⟩:=hbad
  have q:((ag.length:Int) != n)=true:=by simpa using h1
  rw [decide_eq_false (show ¬n<0 by omega),decide_eq_false h1]
  clear h1
  go_enter Tryz.func154,Tryz.ntmps154
  go_wp2
  go_ret
  exact ⟨rfl,rfl⟩
 have hT:(decide (n<0) || decide ((ag.length:Int)=n))=true:=by
  by_cases h:n<0
  ·rw [decide_eq_true h];rfl
  ·by_cases h2:(ag.length:Int)=n
   ·rw [decide_eq_true h2];simp
   ·exact absurd ⟨by omega,h2⟩ hbad
 rw [hT,Bool.true_and]
 obtain ⟨ALL,hALL⟩:∃b,b=ag.all (argOk ix):=⟨_,rfl⟩
 have HALL:Hid (ALL=ag.all (argOk ix)):=hALL
 rw [←hALL]
 clear hT hALL
 have hway:(n<0)∨(0≤n∧((ag.length:Int) != n)=false):=by
  by_cases h:n<0
  ·exact .inl h
  ·refine .inr ⟨by omega,?_⟩
   by_cases h2:(ag.length:Int)=n
   ·simpa using h2
   ·exact absurd ⟨by omega,h2⟩ hbad
 clear hbad
 rcases hway with hn | ⟨hn,hq⟩
 all_goals
  go_enter Tryz.func154,Tryz.ntmps154
  go_upto_region 4 with (fail)
  go_loopw [7] (fun v wr=>∃k:Nat,k≤ag.length∧v=.int .i64 k∧Hid (wr=W∧∀j (h:j<ag.length),j<k→argOk ix ag[j]=true)) (fun v _=>ag.length-(intOf v).toNat)
  case atStart=>exact ⟨0,Nat.zero_le _,rfl,rfl,fun j _ h=>absurd h (Nat.not_lt_zero _)⟩
  case round=>
   obtain ⟨k,hk,rfl,hI⟩:=hrel
   obtain ⟨hw,hJ⟩:=hI.out
   subst hw
   have HJ:Hid (∀j (h:j<ag.length),j<k→argOk ix ag[j]=true):=hJ
   clear hJ hI
   by_cases hlt:k<ag.length
   case neg=>
    obtain rfl:k=ag.length:=by omega
    have hA:Hid (ALL=true):=by show ALL=true;rw [HALL.out,List.all_eq_true];intro a ha;obtain ⟨j,hj,rfl⟩:=List.getElem_of_mem ha;exact HJ.out j hj hj
    go_wp2
    go_ret
    exact ⟨by rw [hA.out];rfl,rfl⟩
   case pos=>
   have HN:Hid (argOk ix ag[k]=false→ALL=false):=fun h=>by rw [HALL.out,List.all_eq_false];exact ⟨_,List.getElem_mem hlt,by rw [h];simp⟩
   have HY:Hid (argOk ix ag[k]=true→∀j (h:j<ag.length),j<k+1→argOk ix ag[j]=true):=fun h j hj hjk=>by
    by_cases e:j=k
    ·subst e;exact h
    ·exact HJ.out j hj (by omega)
   obtain ⟨rb,rO,rfl,ra0⟩:=HR.out k hlt
   have ra:=ra0.below HB.out
   have l0:=ra.c0 k hlt
   have l1:=ra.c1 k hlt
   have l2:=ra.lt
   have PA:=fun w=>named_any ag[k].n w (HZ.out _ (List.getElem_mem hlt))
   have HE:Hid (argOk ix ag[k]=(plnN ag[k].n&&(decide (-1≤ag[k].x)&&decide (ag[k].x≤9007199254740991)&&(ix || decide (ag[k].x= -1))))):=argOk_eq ix _
   clear ra ra0
   generalize argOk ix ag[k]=OKb at *
   generalize ag[k].n=an at *
   generalize ag[k].x=ax at *
   cases hp:plnN an with
   | false=>
    rw [hp] at PA
    have hAf:Hid (ALL=false):=HN.out (by rw [HE.out,hp];rfl)
    clear hp
    go_wp2_with (go_at_call 153;(with_reducible refine (PA _).mono ?_);rintro e w9 ⟨rfl,hw⟩;rw [hw];clear hw)
    go_ret
    exact ⟨by rw [hAf.out];rfl,rfl⟩
   | true=>
   rw [hp] at PA
   by_cases h1:ax < -1
   case pos=>
    have hAf:Hid (ALL=false):=HN.out (by rw [HE.out,decide_eq_false (show ¬ -1≤ax by omega)];simp)
    clear hp
    go_wp2_with (go_at_call 153;(with_reducible refine (PA _).mono ?_);rintro e w9 ⟨rfl,hw⟩;rw [hw];clear hw)
    go_ret
    exact ⟨by rw [hAf.out];rfl,rfl⟩
   case neg=>
   by_cases h2:9007199254740991<ax
   case pos=>
    have hAf:Hid (ALL=false):=HN.out (by rw [HE.out,decide_eq_false (show ¬ax≤9007199254740991 by omega)];simp)
    clear hp
    go_wp2_with (go_at_call 153;(with_reducible refine (PA _).mono ?_);rintro e w9 ⟨rfl,hw⟩;rw [hw];clear hw)
    go_ret
    exact ⟨by rw [hAf.out];rfl,rfl⟩
   case neg=>
   by_cases h3:ix=false∧¬ax= -1
   case pos=>
    have hAf:Hid (ALL=false):=HN.out (by rw [HE.out,decide_eq_false h3.2,h3.1];simp)
    have q3:(ax != -1)=true:=by simpa using h3.2
    obtain ⟨h3,_⟩:=h3
    subst h3
    clear hp
    go_wp2_with (go_at_call 153;(with_reducible refine (PA _).mono ?_);rintro e w9 ⟨rfl,hw⟩;rw [hw];clear hw)
    go_ret
    exact ⟨by rw [hAf.out];rfl,rfl⟩
   case neg=>
    have hO:OKb=true:=by
     rw [HE.out,hp,decide_eq_true (show -1≤ax by omega),decide_eq_true (show ax≤9007199254740991 by omega)]
     cases hx:ix with
     | true=>rfl
     | false=>
      by_cases h4:ax= -1
      ·rw [decide_eq_true h4];rfl
      ·exact absurd ⟨hx,h4⟩ h3
    have HY2:=HY.out hO
    have h5:(ix=true)∨(ix=false∧(ax != -1)=false):=by
     cases hx:ix with
     | true=>exact .inl rfl
     | false=>
      by_cases h4:ax= -1
      ·exact .inr ⟨rfl,by simpa using h4⟩
      ·exact absurd ⟨hx,h4⟩ h3
    clear hp hO h3
    rcases h5 with h5 | ⟨h5,h6⟩
    all_goals
     subst h5
     go_wp2_with (go_at_call 153;(with_reducible refine (PA _).mono ?_);rintro e w9 ⟨rfl,hw⟩;rw [hw];clear hw)
     go_roundw
     case rel=>exact ⟨k+1,by omega,by go_num,by trivial,HY2⟩
     case measure=>simp [intOf];omega
end Go.Proofs.YtdjfpghgklkejaaGreatDoor
