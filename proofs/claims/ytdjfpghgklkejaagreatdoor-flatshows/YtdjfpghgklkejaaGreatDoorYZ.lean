/-
  Put together of: LC3a LC3b.
-/
import Derived.Test.YtdjfpghgklkejaaGreatDoorYN
namespace Go.Proofs.YtdjfpghgklkejaaGreatDoor
open Go.RowKit Go.Sort
set_option maxHeartbeats 2000000 in
set_option maxRecDepth 100000 in
theorem rfit_qubits (nm:ByteArray) (ag:List Ar) (nu ro pl:Int) (av:Value) (w W:World) (hS:SA w av ag) (hB:Below w.heap.size w W) (hn:nm.size≤9223372036854775807) (hl:ag.length≤9223372036854775807) (hz:∀a∈ag,a.n.size≤9223372036854775807) :
  Calls Tryz.prog 113 #[.agg #[.string ⟨#[113,117,98,105,116,115]⟩,.string nm,av,.int .i64 nu,.int .i64 ro,.int .i64 pl]] W fun e W'=>e=.returned (.bool (rowB ⟨wQubits,nm,ag,nu,ro,pl⟩))∧Below W.heap.size W W':=by
 have AR:=fun w' h=>arguments_any ag 0 true av w w' hS h hl hz
 have NM:=fun w=>named_any nm w hn
 obtain ⟨aa,ac,rfl⟩:∃aa ac,av=.slice aa ag.length ac:=by obtain ⟨aa,ac,e,_⟩:=hS;exact ⟨aa,ac,e⟩
 have HB:Hid (Below w.heap.size w W):=hB
 have HE:Hid (rowB ⟨wQubits,nm,ag,nu,ro,pl⟩=(plnN nm&&numOk nu&&(decide (0≤ro)&&decide (ro=0))&&((decide ((0:Int)<0) || decide ((ag.length:Int)=0))&&ag.all (argOk true)))):=rowB_qubits nm ag nu ro pl
 obtain ⟨RB,hRB⟩:∃b,b=rowB ⟨wQubits,nm,ag,nu,ro,pl⟩:=⟨_,rfl⟩
 rw [←hRB] at HE ⊢
 clear hRB hS hB
 generalize ((decide ((0:Int)<0) || decide ((ag.length:Int)=0))&&ag.all (argOk true))=AB at *
 have hBX:∀o,Hid (Below W.heap.size W (W.alloc o)):=fun o=>bal (Below.refl _ _) _
 have hBW:∀o,Below w.heap.size w (W.alloc o):=fun o=>bal HB.out _
 by_cases he:nm=⟨#[]⟩
 case pos=>
  subst he
  have hp0:plnN ⟨#[]⟩=false:=by decide
  have hF:Hid (RB=false):=by show RB=false;rw [HE.out,hp0];simp
  clear HE
  go_enter Tryz.func113,Tryz.ntmps113
  go_wp2_with (first | (go_at_call 153;(with_reducible refine (NM _).mono ?_);rintro e w1 ⟨rfl,hw⟩;rw [hw];clear hw) | (go_at_call 154;(with_reducible refine (AR _ (hBW _)).mono ?_);rintro e w2 ⟨rfl,hw⟩;rw [hw];clear hw))
  go_ret
  exact ⟨by rw [hF.out];rfl,(hBX _).out⟩
 case neg=>
 have q0:=ne_lit he
 clear he
 cases hp:plnN nm with
 | false=>
  rw [hp] at NM
  have hF:Hid (RB=false):=by show RB=false;rw [HE.out,hp];simp
  clear HE
  go_enter Tryz.func113,Tryz.ntmps113
  go_wp2_with (first | (go_at_call 153;(with_reducible refine (NM _).mono ?_);rintro e w1 ⟨rfl,hw⟩;rw [hw];clear hw) | (go_at_call 154;(with_reducible refine (AR _ (hBW _)).mono ?_);rintro e w2 ⟨rfl,hw⟩;rw [hw];clear hw))
  go_ret
  exact ⟨by rw [hF.out];rfl,(hBX _).out⟩
 | true=>
 rw [hp] at NM HE
 clear hp
 by_cases hr0:ro<0
 case pos=>
  have hF:Hid (RB=false):=by show RB=false;rw [HE.out,decide_eq_false (show ¬0≤ro by omega)];simp
  clear HE
  go_enter Tryz.func113,Tryz.ntmps113
  go_wp2_with (first | (go_at_call 153;(with_reducible refine (NM _).mono ?_);rintro e w1 ⟨rfl,hw⟩;rw [hw];clear hw) | (go_at_call 154;(with_reducible refine (AR _ (hBW _)).mono ?_);rintro e w2 ⟨rfl,hw⟩;rw [hw];clear hw))
  go_ret
  exact ⟨by rw [hF.out];rfl,(hBX _).out⟩
 case neg=>
 rw [decide_eq_true (show 0≤ro by omega)] at HE
 by_cases hr1:ro=0
 case neg=>
  have q1:(ro != 0)=true:=by simpa using hr1
  have hF:Hid (RB=false):=by show RB=false;rw [HE.out,decide_eq_false hr1];simp
  clear HE
  go_enter Tryz.func113,Tryz.ntmps113
  go_wp2_with (first | (go_at_call 153;(with_reducible refine (NM _).mono ?_);rintro e w1 ⟨rfl,hw⟩;rw [hw];clear hw) | (go_at_call 154;(with_reducible refine (AR _ (hBW _)).mono ?_);rintro e w2 ⟨rfl,hw⟩;rw [hw];clear hw))
  go_ret
  exact ⟨by rw [hF.out];rfl,(hBX _).out⟩
 case pos=>
 subst hr1
 rw [decide_eq_true rfl] at HE
 by_cases hm0:nu<0
 case pos=>
  have hq:numOk nu=false:=by unfold numOk;rw [decide_eq_false (show ¬0≤nu by omega)];rfl
  have hF:Hid (RB=false):=by show RB=false;rw [HE.out,hq];simp
  clear HE
  go_enter Tryz.func113,Tryz.ntmps113
  go_wp2_with (first | (go_at_call 153;(with_reducible refine (NM _).mono ?_);rintro e w1 ⟨rfl,hw⟩;rw [hw];clear hw) | (go_at_call 154;(with_reducible refine (AR _ (hBW _)).mono ?_);rintro e w2 ⟨rfl,hw⟩;rw [hw];clear hw))
  go_ret
  exact ⟨by rw [hF.out];rfl,(hBX _).out⟩
 case neg=>
 by_cases hm1:9007199254740991<nu
 case pos=>
  have hq:numOk nu=false:=by unfold numOk;rw [decide_eq_false (show ¬nu≤9007199254740991 by omega)];simp
  have hF:Hid (RB=false):=by show RB=false;rw [HE.out,hq];simp
  clear HE
  go_enter Tryz.func113,Tryz.ntmps113
  go_wp2_with (first | (go_at_call 153;(with_reducible refine (NM _).mono ?_);rintro e w1 ⟨rfl,hw⟩;rw [hw];clear hw) | (go_at_call 154;(with_reducible refine (AR _ (hBW _)).mono ?_);rintro e w2 ⟨rfl,hw⟩;rw [hw];clear hw))
  go_ret
  exact ⟨by rw [hF.out];rfl,(hBX _).out⟩
 case neg=>
 have hq:numOk nu=true:=by unfold numOk;rw [decide_eq_true (show 0≤nu by omega),decide_eq_true (show nu≤9007199254740991 by omega)];rfl
 rw [hq] at HE
 clear hq
 have hF:Hid (RB=AB):=by show RB=AB;rw [HE.out];simp
 clear HE
 go_enter Tryz.func113,Tryz.ntmps113
 go_wp2_with (first | (go_at_call 153;(with_reducible refine (NM _).mono ?_);rintro e w1 ⟨rfl,hw⟩;rw [hw];clear hw) | (go_at_call 154;(with_reducible refine (AR _ (hBW _)).mono ?_);rintro e w2 ⟨rfl,hw⟩;rw [hw];clear hw))
 go_ret
 exact ⟨by rw [hF.out];rfl,(hBX _).out⟩
set_option maxHeartbeats 2000000 in
set_option maxRecDepth 100000 in
theorem rfit_bits (nm:ByteArray) (ag:List Ar) (nu ro pl:Int) (av:Value) (w W:World) (hS:SA w av ag) (hB:Below w.heap.size w W) (hn:nm.size≤9223372036854775807) (hl:ag.length≤9223372036854775807) (hz:∀a∈ag,a.n.size≤9223372036854775807) :
  Calls Tryz.prog 113 #[.agg #[.string ⟨#[98,105,116,115]⟩,.string nm,av,.int .i64 nu,.int .i64 ro,.int .i64 pl]] W fun e W'=>e=.returned (.bool (rowB ⟨wBits,nm,ag,nu,ro,pl⟩))∧Below W.heap.size W W':=by
 have AR:=fun w' h=>arguments_any ag 0 true av w w' hS h hl hz
 have NM:=fun w=>named_any nm w hn
 obtain ⟨aa,ac,rfl⟩:∃aa ac,av=.slice aa ag.length ac:=by obtain ⟨aa,ac,e,_⟩:=hS;exact ⟨aa,ac,e⟩
 have HB:Hid (Below w.heap.size w W):=hB
 have HE:Hid (rowB ⟨wBits,nm,ag,nu,ro,pl⟩=(plnN nm&&numOk nu&&(decide (0≤ro)&&decide (ro=0))&&((decide ((0:Int)<0) || decide ((ag.length:Int)=0))&&ag.all (argOk true)))):=rowB_bits nm ag nu ro pl
 obtain ⟨RB,hRB⟩:∃b,b=rowB ⟨wBits,nm,ag,nu,ro,pl⟩:=⟨_,rfl⟩
 rw [←hRB] at HE ⊢
 clear hRB hS hB
 generalize ((decide ((0:Int)<0) || decide ((ag.length:Int)=0))&&ag.all (argOk true))=AB at *
 have hBX:∀o,Hid (Below W.heap.size W (W.alloc o)):=fun o=>bal (Below.refl _ _) _
 have hBW:∀o,Below w.heap.size w (W.alloc o):=fun o=>bal HB.out _
 by_cases he:nm=⟨#[]⟩
 case pos=>
  subst he
  have hp0:plnN ⟨#[]⟩=false:=by decide
  have hF:Hid (RB=false):=by show RB=false;rw [HE.out,hp0];simp
  clear HE
  go_enter Tryz.func113,Tryz.ntmps113
  go_wp2_with (first | (go_at_call 153;(with_reducible refine (NM _).mono ?_);rintro e w1 ⟨rfl,hw⟩;rw [hw];clear hw) | (go_at_call 154;(with_reducible refine (AR _ (hBW _)).mono ?_);rintro e w2 ⟨rfl,hw⟩;rw [hw];clear hw))
  go_ret
  exact ⟨by rw [hF.out];rfl,(hBX _).out⟩
 case neg=>
 have q0:=ne_lit he
 clear he
 cases hp:plnN nm with
 | false=>
  rw [hp] at NM
  have hF:Hid (RB=false):=by show RB=false;rw [HE.out,hp];simp
  clear HE
  go_enter Tryz.func113,Tryz.ntmps113
  go_wp2_with (first | (go_at_call 153;(with_reducible refine (NM _).mono ?_);rintro e w1 ⟨rfl,hw⟩;rw [hw];clear hw) | (go_at_call 154;(with_reducible refine (AR _ (hBW _)).mono ?_);rintro e w2 ⟨rfl,hw⟩;rw [hw];clear hw))
  go_ret
  exact ⟨by rw [hF.out];rfl,(hBX _).out⟩
 | true=>
 rw [hp] at NM HE
 clear hp
 by_cases hr0:ro<0
 case pos=>
  have hF:Hid (RB=false):=by show RB=false;rw [HE.out,decide_eq_false (show ¬0≤ro by omega)];simp
  clear HE
  go_enter Tryz.func113,Tryz.ntmps113
  go_wp2_with (first | (go_at_call 153;(with_reducible refine (NM _).mono ?_);rintro e w1 ⟨rfl,hw⟩;rw [hw];clear hw) | (go_at_call 154;(with_reducible refine (AR _ (hBW _)).mono ?_);rintro e w2 ⟨rfl,hw⟩;rw [hw];clear hw))
  go_ret
  exact ⟨by rw [hF.out];rfl,(hBX _).out⟩
 case neg=>
 rw [decide_eq_true (show 0≤ro by omega)] at HE
 by_cases hr1:ro=0
 case neg=>
  have q1:(ro != 0)=true:=by simpa using hr1
  have hF:Hid (RB=false):=by show RB=false;rw [HE.out,decide_eq_false hr1];simp
  clear HE
  go_enter Tryz.func113,Tryz.ntmps113
  go_wp2_with (first | (go_at_call 153;(with_reducible refine (NM _).mono ?_);rintro e w1 ⟨rfl,hw⟩;rw [hw];clear hw) | (go_at_call 154;(with_reducible refine (AR _ (hBW _)).mono ?_);rintro e w2 ⟨rfl,hw⟩;rw [hw];clear hw))
  go_ret
  exact ⟨by rw [hF.out];rfl,(hBX _).out⟩
 case pos=>
 subst hr1
 rw [decide_eq_true rfl] at HE
 by_cases hm0:nu<0
 case pos=>
  have hq:numOk nu=false:=by unfold numOk;rw [decide_eq_false (show ¬0≤nu by omega)];rfl
  have hF:Hid (RB=false):=by show RB=false;rw [HE.out,hq];simp
  clear HE
  go_enter Tryz.func113,Tryz.ntmps113
  go_wp2_with (first | (go_at_call 153;(with_reducible refine (NM _).mono ?_);rintro e w1 ⟨rfl,hw⟩;rw [hw];clear hw) | (go_at_call 154;(with_reducible refine (AR _ (hBW _)).mono ?_);rintro e w2 ⟨rfl,hw⟩;rw [hw];clear hw))
  go_ret
  exact ⟨by rw [hF.out];rfl,(hBX _).out⟩
 case neg=>
 by_cases hm1:9007199254740991<nu
 case pos=>
  have hq:numOk nu=false:=by unfold numOk;rw [decide_eq_false (show ¬nu≤9007199254740991 by omega)];simp
  have hF:Hid (RB=false):=by show RB=false;rw [HE.out,hq];simp
  clear HE
  go_enter Tryz.func113,Tryz.ntmps113
  go_wp2_with (first | (go_at_call 153;(with_reducible refine (NM _).mono ?_);rintro e w1 ⟨rfl,hw⟩;rw [hw];clear hw) | (go_at_call 154;(with_reducible refine (AR _ (hBW _)).mono ?_);rintro e w2 ⟨rfl,hw⟩;rw [hw];clear hw))
  go_ret
  exact ⟨by rw [hF.out];rfl,(hBX _).out⟩
 case neg=>
 have hq:numOk nu=true:=by unfold numOk;rw [decide_eq_true (show 0≤nu by omega),decide_eq_true (show nu≤9007199254740991 by omega)];rfl
 rw [hq] at HE
 clear hq
 have hF:Hid (RB=AB):=by show RB=AB;rw [HE.out];simp
 clear HE
 go_enter Tryz.func113,Tryz.ntmps113
 go_wp2_with (first | (go_at_call 153;(with_reducible refine (NM _).mono ?_);rintro e w1 ⟨rfl,hw⟩;rw [hw];clear hw) | (go_at_call 154;(with_reducible refine (AR _ (hBW _)).mono ?_);rintro e w2 ⟨rfl,hw⟩;rw [hw];clear hw))
 go_ret
 exact ⟨by rw [hF.out];rfl,(hBX _).out⟩
set_option maxHeartbeats 2000000 in
set_option maxRecDepth 100000 in
theorem rfit_gate (nm:ByteArray) (ag:List Ar) (nu ro pl:Int) (av:Value) (w W:World) (hS:SA w av ag) (hB:Below w.heap.size w W) (hn:nm.size≤9223372036854775807) (hl:ag.length≤9223372036854775807) (hz:∀a∈ag,a.n.size≤9223372036854775807) :
  Calls Tryz.prog 113 #[.agg #[.string ⟨#[103,97,116,101]⟩,.string nm,av,.int .i64 nu,.int .i64 ro,.int .i64 pl]] W fun e W'=>e=.returned (.bool (rowB ⟨wGate,nm,ag,nu,ro,pl⟩))∧Below W.heap.size W W':=by
 have AR:=fun w' h=>arguments_any ag (-1) false av w w' hS h hl hz
 have NM:=fun w=>named_any nm w hn
 obtain ⟨aa,ac,rfl⟩:∃aa ac,av=.slice aa ag.length ac:=by obtain ⟨aa,ac,e,_⟩:=hS;exact ⟨aa,ac,e⟩
 have HB:Hid (Below w.heap.size w W):=hB
 have HE:Hid (rowB ⟨wGate,nm,ag,nu,ro,pl⟩=(plnN nm&&decide (nu=0)&&(decide (0≤ro))&&((decide (((-1):Int)<0) || decide ((ag.length:Int)=(-1)))&&ag.all (argOk false)))):=rowB_gate nm ag nu ro pl
 obtain ⟨RB,hRB⟩:∃b,b=rowB ⟨wGate,nm,ag,nu,ro,pl⟩:=⟨_,rfl⟩
 rw [←hRB] at HE ⊢
 clear hRB hS hB
 generalize ((decide (((-1):Int)<0) || decide ((ag.length:Int)=(-1)))&&ag.all (argOk false))=AB at *
 have hBX:∀o,Hid (Below W.heap.size W (W.alloc o)):=fun o=>bal (Below.refl _ _) _
 have hBW:∀o,Below w.heap.size w (W.alloc o):=fun o=>bal HB.out _
 by_cases he:nm=⟨#[]⟩
 case pos=>
  subst he
  have hp0:plnN ⟨#[]⟩=false:=by decide
  have hF:Hid (RB=false):=by show RB=false;rw [HE.out,hp0];simp
  clear HE
  go_enter Tryz.func113,Tryz.ntmps113
  go_wp2_with (first | (go_at_call 153;(with_reducible refine (NM _).mono ?_);rintro e w1 ⟨rfl,hw⟩;rw [hw];clear hw) | (go_at_call 154;(with_reducible refine (AR _ (hBW _)).mono ?_);rintro e w2 ⟨rfl,hw⟩;rw [hw];clear hw))
  go_ret
  exact ⟨by rw [hF.out];rfl,(hBX _).out⟩
 case neg=>
 have q0:=ne_lit he
 clear he
 cases hp:plnN nm with
 | false=>
  rw [hp] at NM
  have hF:Hid (RB=false):=by show RB=false;rw [HE.out,hp];simp
  clear HE
  go_enter Tryz.func113,Tryz.ntmps113
  go_wp2_with (first | (go_at_call 153;(with_reducible refine (NM _).mono ?_);rintro e w1 ⟨rfl,hw⟩;rw [hw];clear hw) | (go_at_call 154;(with_reducible refine (AR _ (hBW _)).mono ?_);rintro e w2 ⟨rfl,hw⟩;rw [hw];clear hw))
  go_ret
  exact ⟨by rw [hF.out];rfl,(hBX _).out⟩
 | true=>
 rw [hp] at NM HE
 clear hp
 by_cases hr0:ro<0
 case pos=>
  have hF:Hid (RB=false):=by show RB=false;rw [HE.out,decide_eq_false (show ¬0≤ro by omega)];simp
  clear HE
  go_enter Tryz.func113,Tryz.ntmps113
  go_wp2_with (first | (go_at_call 153;(with_reducible refine (NM _).mono ?_);rintro e w1 ⟨rfl,hw⟩;rw [hw];clear hw) | (go_at_call 154;(with_reducible refine (AR _ (hBW _)).mono ?_);rintro e w2 ⟨rfl,hw⟩;rw [hw];clear hw))
  go_ret
  exact ⟨by rw [hF.out];rfl,(hBX _).out⟩
 case neg=>
 rw [decide_eq_true (show 0≤ro by omega)] at HE
 by_cases hm0:nu<0
 case pos=>
  have hF:Hid (RB=false):=by show RB=false;rw [HE.out,decide_eq_false (show ¬nu=0 by omega)];simp
  clear HE
  go_enter Tryz.func113,Tryz.ntmps113
  go_wp2_with (first | (go_at_call 153;(with_reducible refine (NM _).mono ?_);rintro e w1 ⟨rfl,hw⟩;rw [hw];clear hw) | (go_at_call 154;(with_reducible refine (AR _ (hBW _)).mono ?_);rintro e w2 ⟨rfl,hw⟩;rw [hw];clear hw))
  go_ret
  exact ⟨by rw [hF.out];rfl,(hBX _).out⟩
 case neg=>
 by_cases hm1:9007199254740991<nu
 case pos=>
  have hF:Hid (RB=false):=by show RB=false;rw [HE.out,decide_eq_false (show ¬nu=0 by omega)];simp
  clear HE
  go_enter Tryz.func113,Tryz.ntmps113
  go_wp2_with (first | (go_at_call 153;(with_reducible refine (NM _).mono ?_);rintro e w1 ⟨rfl,hw⟩;rw [hw];clear hw) | (go_at_call 154;(with_reducible refine (AR _ (hBW _)).mono ?_);rintro e w2 ⟨rfl,hw⟩;rw [hw];clear hw))
  go_ret
  exact ⟨by rw [hF.out];rfl,(hBX _).out⟩
 case neg=>
 by_cases hm2:nu=0
 case neg=>
  have q2:(nu != 0)=true:=by simpa using hm2
  have hF:Hid (RB=false):=by show RB=false;rw [HE.out,decide_eq_false hm2];simp
  clear HE
  go_enter Tryz.func113,Tryz.ntmps113
  go_wp2_with (first | (go_at_call 153;(with_reducible refine (NM _).mono ?_);rintro e w1 ⟨rfl,hw⟩;rw [hw];clear hw) | (go_at_call 154;(with_reducible refine (AR _ (hBW _)).mono ?_);rintro e w2 ⟨rfl,hw⟩;rw [hw];clear hw))
  go_ret
  exact ⟨by rw [hF.out];rfl,(hBX _).out⟩
 case pos=>
 subst hm2
 rw [decide_eq_true rfl] at HE
 have hF:Hid (RB=AB):=by show RB=AB;rw [HE.out];simp
 clear HE
 go_enter Tryz.func113,Tryz.ntmps113
 go_wp2_with (first | (go_at_call 153;(with_reducible refine (NM _).mono ?_);rintro e w1 ⟨rfl,hw⟩;rw [hw];clear hw) | (go_at_call 154;(with_reducible refine (AR _ (hBW _)).mono ?_);rintro e w2 ⟨rfl,hw⟩;rw [hw];clear hw))
 go_ret
 exact ⟨by rw [hF.out];rfl,(hBX _).out⟩
end Go.Proofs.YtdjfpghgklkejaaGreatDoor
namespace Go.Proofs.YtdjfpghgklkejaaGreatDoor
open Go.RowKit Go.Sort
set_option maxHeartbeats 2000000 in
set_option maxRecDepth 100000 in
theorem rfit_repeat (nm:ByteArray) (ag:List Ar) (nu ro pl:Int) (av:Value) (w W:World) (hS:SA w av ag) (hB:Below w.heap.size w W) (_hn:nm.size≤9223372036854775807) (hl:ag.length≤9223372036854775807) (hz:∀a∈ag,a.n.size≤9223372036854775807) :
  Calls Tryz.prog 113 #[.agg #[.string ⟨#[114,101,112,101,97,116]⟩,.string nm,av,.int .i64 nu,.int .i64 ro,.int .i64 pl]] W fun e W'=>e=.returned (.bool (rowB ⟨wRepeat,nm,ag,nu,ro,pl⟩))∧Below W.heap.size W W':=by
 have AR:=fun w' h=>arguments_any ag 0 true av w w' hS h hl hz
 obtain ⟨aa,ac,rfl⟩:∃aa ac,av=.slice aa ag.length ac:=by obtain ⟨aa,ac,e,_⟩:=hS;exact ⟨aa,ac,e⟩
 have HB:Hid (Below w.heap.size w W):=hB
 have HE:Hid (rowB ⟨wRepeat,nm,ag,nu,ro,pl⟩=(decide (nm=⟨#[]⟩)&&numOk nu&&(decide (0≤ro))&&((decide ((0:Int)<0) || decide ((ag.length:Int)=0))&&ag.all (argOk true)))):=rowB_repeat nm ag nu ro pl
 obtain ⟨RB,hRB⟩:∃b,b=rowB ⟨wRepeat,nm,ag,nu,ro,pl⟩:=⟨_,rfl⟩
 rw [←hRB] at HE ⊢
 clear hRB hS hB
 generalize ((decide ((0:Int)<0) || decide ((ag.length:Int)=0))&&ag.all (argOk true))=AB at *
 have hBX:∀o,Hid (Below W.heap.size W (W.alloc o)):=fun o=>bal (Below.refl _ _) _
 have hBW:∀o,Below w.heap.size w (W.alloc o):=fun o=>bal HB.out _
 by_cases he:nm=⟨#[]⟩
 case neg=>
  have q0:=ne_lit he
  have hF:Hid (RB=false):=by show RB=false;rw [HE.out,decide_eq_false he];simp
  clear HE
  go_enter Tryz.func113,Tryz.ntmps113
  go_wp2_with (first | (go_at_call 154;(with_reducible refine (AR _ (hBW _)).mono ?_);rintro e w2 ⟨rfl,hw⟩;rw [hw];clear hw))
  go_ret
  exact ⟨by rw [hF.out];rfl,(hBX _).out⟩
 case pos=>
 subst he
 rw [decide_eq_true rfl] at HE
 by_cases hr0:ro<0
 case pos=>
  have hF:Hid (RB=false):=by show RB=false;rw [HE.out,decide_eq_false (show ¬0≤ro by omega)];simp
  clear HE
  go_enter Tryz.func113,Tryz.ntmps113
  go_wp2_with (first | (go_at_call 154;(with_reducible refine (AR _ (hBW _)).mono ?_);rintro e w2 ⟨rfl,hw⟩;rw [hw];clear hw))
  go_ret
  exact ⟨by rw [hF.out];rfl,(hBX _).out⟩
 case neg=>
 rw [decide_eq_true (show 0≤ro by omega)] at HE
 by_cases hm0:nu<0
 case pos=>
  have hq:numOk nu=false:=by unfold numOk;rw [decide_eq_false (show ¬0≤nu by omega)];rfl
  have hF:Hid (RB=false):=by show RB=false;rw [HE.out,hq];simp
  clear HE
  go_enter Tryz.func113,Tryz.ntmps113
  go_wp2_with (first | (go_at_call 154;(with_reducible refine (AR _ (hBW _)).mono ?_);rintro e w2 ⟨rfl,hw⟩;rw [hw];clear hw))
  go_ret
  exact ⟨by rw [hF.out];rfl,(hBX _).out⟩
 case neg=>
 by_cases hm1:9007199254740991<nu
 case pos=>
  have hq:numOk nu=false:=by unfold numOk;rw [decide_eq_false (show ¬nu≤9007199254740991 by omega)];simp
  have hF:Hid (RB=false):=by show RB=false;rw [HE.out,hq];simp
  clear HE
  go_enter Tryz.func113,Tryz.ntmps113
  go_wp2_with (first | (go_at_call 154;(with_reducible refine (AR _ (hBW _)).mono ?_);rintro e w2 ⟨rfl,hw⟩;rw [hw];clear hw))
  go_ret
  exact ⟨by rw [hF.out];rfl,(hBX _).out⟩
 case neg=>
 have hq:numOk nu=true:=by unfold numOk;rw [decide_eq_true (show 0≤nu by omega),decide_eq_true (show nu≤9007199254740991 by omega)];rfl
 rw [hq] at HE
 clear hq
 have hF:Hid (RB=AB):=by show RB=AB;rw [HE.out];simp
 clear HE
 go_enter Tryz.func113,Tryz.ntmps113
 go_wp2_with (first | (go_at_call 154;(with_reducible refine (AR _ (hBW _)).mono ?_);rintro e w2 ⟨rfl,hw⟩;rw [hw];clear hw))
 go_ret
 exact ⟨by rw [hF.out];rfl,(hBX _).out⟩
set_option maxHeartbeats 2000000 in
set_option maxRecDepth 100000 in
theorem rfit_if (nm:ByteArray) (ag:List Ar) (nu ro pl:Int) (av:Value) (w W:World) (hS:SA w av ag) (hB:Below w.heap.size w W) (hn:nm.size≤9223372036854775807) (hl:ag.length≤9223372036854775807) (hz:∀a∈ag,a.n.size≤9223372036854775807) :
  Calls Tryz.prog 113 #[.agg #[.string ⟨#[105,102]⟩,.string nm,av,.int .i64 nu,.int .i64 ro,.int .i64 pl]] W fun e W'=>e=.returned (.bool (rowB ⟨wIf,nm,ag,nu,ro,pl⟩))∧Below W.heap.size W W':=by
 have AR:=fun w' h=>arguments_any ag 0 true av w w' hS h hl hz
 have NM:=fun w=>named_any nm w hn
 obtain ⟨aa,ac,rfl⟩:∃aa ac,av=.slice aa ag.length ac:=by obtain ⟨aa,ac,e,_⟩:=hS;exact ⟨aa,ac,e⟩
 have HB:Hid (Below w.heap.size w W):=hB
 have HE:Hid (rowB ⟨wIf,nm,ag,nu,ro,pl⟩=(plnN nm&&numOk nu&&(decide (0≤ro))&&((decide ((0:Int)<0) || decide ((ag.length:Int)=0))&&ag.all (argOk true)))):=rowB_if nm ag nu ro pl
 obtain ⟨RB,hRB⟩:∃b,b=rowB ⟨wIf,nm,ag,nu,ro,pl⟩:=⟨_,rfl⟩
 rw [←hRB] at HE ⊢
 clear hRB hS hB
 generalize ((decide ((0:Int)<0) || decide ((ag.length:Int)=0))&&ag.all (argOk true))=AB at *
 have hBX:∀o,Hid (Below W.heap.size W (W.alloc o)):=fun o=>bal (Below.refl _ _) _
 have hBW:∀o,Below w.heap.size w (W.alloc o):=fun o=>bal HB.out _
 by_cases he:nm=⟨#[]⟩
 case pos=>
  subst he
  have hp0:plnN ⟨#[]⟩=false:=by decide
  have hF:Hid (RB=false):=by show RB=false;rw [HE.out,hp0];simp
  clear HE
  go_enter Tryz.func113,Tryz.ntmps113
  go_wp2_with (first | (go_at_call 153;(with_reducible refine (NM _).mono ?_);rintro e w1 ⟨rfl,hw⟩;rw [hw];clear hw) | (go_at_call 154;(with_reducible refine (AR _ (hBW _)).mono ?_);rintro e w2 ⟨rfl,hw⟩;rw [hw];clear hw))
  go_ret
  exact ⟨by rw [hF.out];rfl,(hBX _).out⟩
 case neg=>
 have q0:=ne_lit he
 clear he
 cases hp:plnN nm with
 | false=>
  rw [hp] at NM
  have hF:Hid (RB=false):=by show RB=false;rw [HE.out,hp];simp
  clear HE
  go_enter Tryz.func113,Tryz.ntmps113
  go_wp2_with (first | (go_at_call 153;(with_reducible refine (NM _).mono ?_);rintro e w1 ⟨rfl,hw⟩;rw [hw];clear hw) | (go_at_call 154;(with_reducible refine (AR _ (hBW _)).mono ?_);rintro e w2 ⟨rfl,hw⟩;rw [hw];clear hw))
  go_ret
  exact ⟨by rw [hF.out];rfl,(hBX _).out⟩
 | true=>
 rw [hp] at NM HE
 clear hp
 by_cases hr0:ro<0
 case pos=>
  have hF:Hid (RB=false):=by show RB=false;rw [HE.out,decide_eq_false (show ¬0≤ro by omega)];simp
  clear HE
  go_enter Tryz.func113,Tryz.ntmps113
  go_wp2_with (first | (go_at_call 153;(with_reducible refine (NM _).mono ?_);rintro e w1 ⟨rfl,hw⟩;rw [hw];clear hw) | (go_at_call 154;(with_reducible refine (AR _ (hBW _)).mono ?_);rintro e w2 ⟨rfl,hw⟩;rw [hw];clear hw))
  go_ret
  exact ⟨by rw [hF.out];rfl,(hBX _).out⟩
 case neg=>
 rw [decide_eq_true (show 0≤ro by omega)] at HE
 by_cases hm0:nu<0
 case pos=>
  have hq:numOk nu=false:=by unfold numOk;rw [decide_eq_false (show ¬0≤nu by omega)];rfl
  have hF:Hid (RB=false):=by show RB=false;rw [HE.out,hq];simp
  clear HE
  go_enter Tryz.func113,Tryz.ntmps113
  go_wp2_with (first | (go_at_call 153;(with_reducible refine (NM _).mono ?_);rintro e w1 ⟨rfl,hw⟩;rw [hw];clear hw) | (go_at_call 154;(with_reducible refine (AR _ (hBW _)).mono ?_);rintro e w2 ⟨rfl,hw⟩;rw [hw];clear hw))
  go_ret
  exact ⟨by rw [hF.out];rfl,(hBX _).out⟩
 case neg=>
 by_cases hm1:9007199254740991<nu
 case pos=>
  have hq:numOk nu=false:=by unfold numOk;rw [decide_eq_false (show ¬nu≤9007199254740991 by omega)];simp
  have hF:Hid (RB=false):=by show RB=false;rw [HE.out,hq];simp
  clear HE
  go_enter Tryz.func113,Tryz.ntmps113
  go_wp2_with (first | (go_at_call 153;(with_reducible refine (NM _).mono ?_);rintro e w1 ⟨rfl,hw⟩;rw [hw];clear hw) | (go_at_call 154;(with_reducible refine (AR _ (hBW _)).mono ?_);rintro e w2 ⟨rfl,hw⟩;rw [hw];clear hw))
  go_ret
  exact ⟨by rw [hF.out];rfl,(hBX _).out⟩
 case neg=>
 have hq:numOk nu=true:=by unfold numOk;rw [decide_eq_true (show 0≤nu by omega),decide_eq_true (show nu≤9007199254740991 by omega)];rfl
 rw [hq] at HE
 clear hq
 have hF:Hid (RB=AB):=by show RB=AB;rw [HE.out];simp
 clear HE
 go_enter Tryz.func113,Tryz.ntmps113
 go_wp2_with (first | (go_at_call 153;(with_reducible refine (NM _).mono ?_);rintro e w1 ⟨rfl,hw⟩;rw [hw];clear hw) | (go_at_call 154;(with_reducible refine (AR _ (hBW _)).mono ?_);rintro e w2 ⟨rfl,hw⟩;rw [hw];clear hw))
 go_ret
 exact ⟨by rw [hF.out];rfl,(hBX _).out⟩
set_option maxHeartbeats 2000000 in
set_option maxRecDepth 100000 in
theorem rfit_measure (nm:ByteArray) (ag:List Ar) (nu ro pl:Int) (av:Value) (w W:World) (hS:SA w av ag) (hB:Below w.heap.size w W) (_hn:nm.size≤9223372036854775807) (hl:ag.length≤9223372036854775807) (hz:∀a∈ag,a.n.size≤9223372036854775807) :
  Calls Tryz.prog 113 #[.agg #[.string ⟨#[109,101,97,115,117,114,101]⟩,.string nm,av,.int .i64 nu,.int .i64 ro,.int .i64 pl]] W fun e W'=>e=.returned (.bool (rowB ⟨wMeasure,nm,ag,nu,ro,pl⟩))∧Below W.heap.size W W':=by
 have AR:=fun w' h=>arguments_any ag 2 true av w w' hS h hl hz
 obtain ⟨aa,ac,rfl⟩:∃aa ac,av=.slice aa ag.length ac:=by obtain ⟨aa,ac,e,_⟩:=hS;exact ⟨aa,ac,e⟩
 have HB:Hid (Below w.heap.size w W):=hB
 have HE:Hid (rowB ⟨wMeasure,nm,ag,nu,ro,pl⟩=(decide (nm=⟨#[]⟩)&&decide (nu=0)&&(decide (0≤ro)&&decide (ro=0))&&((decide ((2:Int)<0) || decide ((ag.length:Int)=2))&&ag.all (argOk true)))):=rowB_measure nm ag nu ro pl
 obtain ⟨RB,hRB⟩:∃b,b=rowB ⟨wMeasure,nm,ag,nu,ro,pl⟩:=⟨_,rfl⟩
 rw [←hRB] at HE ⊢
 clear hRB hS hB
 generalize ((decide ((2:Int)<0) || decide ((ag.length:Int)=2))&&ag.all (argOk true))=AB at *
 have hBX:∀o,Hid (Below W.heap.size W (W.alloc o)):=fun o=>bal (Below.refl _ _) _
 have hBW:∀o,Below w.heap.size w (W.alloc o):=fun o=>bal HB.out _
 by_cases he:nm=⟨#[]⟩
 case neg=>
  have q0:=ne_lit he
  have hF:Hid (RB=false):=by show RB=false;rw [HE.out,decide_eq_false he];simp
  clear HE
  go_enter Tryz.func113,Tryz.ntmps113
  go_wp2_with (first | (go_at_call 154;(with_reducible refine (AR _ (hBW _)).mono ?_);rintro e w2 ⟨rfl,hw⟩;rw [hw];clear hw))
  go_ret
  exact ⟨by rw [hF.out];rfl,(hBX _).out⟩
 case pos=>
 subst he
 rw [decide_eq_true rfl] at HE
 by_cases hr0:ro<0
 case pos=>
  have hF:Hid (RB=false):=by show RB=false;rw [HE.out,decide_eq_false (show ¬0≤ro by omega)];simp
  clear HE
  go_enter Tryz.func113,Tryz.ntmps113
  go_wp2_with (first | (go_at_call 154;(with_reducible refine (AR _ (hBW _)).mono ?_);rintro e w2 ⟨rfl,hw⟩;rw [hw];clear hw))
  go_ret
  exact ⟨by rw [hF.out];rfl,(hBX _).out⟩
 case neg=>
 rw [decide_eq_true (show 0≤ro by omega)] at HE
 by_cases hr1:ro=0
 case neg=>
  have q1:(ro != 0)=true:=by simpa using hr1
  have hF:Hid (RB=false):=by show RB=false;rw [HE.out,decide_eq_false hr1];simp
  clear HE
  go_enter Tryz.func113,Tryz.ntmps113
  go_wp2_with (first | (go_at_call 154;(with_reducible refine (AR _ (hBW _)).mono ?_);rintro e w2 ⟨rfl,hw⟩;rw [hw];clear hw))
  go_ret
  exact ⟨by rw [hF.out];rfl,(hBX _).out⟩
 case pos=>
 subst hr1
 rw [decide_eq_true rfl] at HE
 by_cases hm0:nu<0
 case pos=>
  have hF:Hid (RB=false):=by show RB=false;rw [HE.out,decide_eq_false (show ¬nu=0 by omega)];simp
  clear HE
  go_enter Tryz.func113,Tryz.ntmps113
  go_wp2_with (first | (go_at_call 154;(with_reducible refine (AR _ (hBW _)).mono ?_);rintro e w2 ⟨rfl,hw⟩;rw [hw];clear hw))
  go_ret
  exact ⟨by rw [hF.out];rfl,(hBX _).out⟩
 case neg=>
 by_cases hm1:9007199254740991<nu
 case pos=>
  have hF:Hid (RB=false):=by show RB=false;rw [HE.out,decide_eq_false (show ¬nu=0 by omega)];simp
  clear HE
  go_enter Tryz.func113,Tryz.ntmps113
  go_wp2_with (first | (go_at_call 154;(with_reducible refine (AR _ (hBW _)).mono ?_);rintro e w2 ⟨rfl,hw⟩;rw [hw];clear hw))
  go_ret
  exact ⟨by rw [hF.out];rfl,(hBX _).out⟩
 case neg=>
 by_cases hm2:nu=0
 case neg=>
  have q2:(nu != 0)=true:=by simpa using hm2
  have hF:Hid (RB=false):=by show RB=false;rw [HE.out,decide_eq_false hm2];simp
  clear HE
  go_enter Tryz.func113,Tryz.ntmps113
  go_wp2_with (first | (go_at_call 154;(with_reducible refine (AR _ (hBW _)).mono ?_);rintro e w2 ⟨rfl,hw⟩;rw [hw];clear hw))
  go_ret
  exact ⟨by rw [hF.out];rfl,(hBX _).out⟩
 case pos=>
 subst hm2
 rw [decide_eq_true rfl] at HE
 have hF:Hid (RB=AB):=by show RB=AB;rw [HE.out];simp
 clear HE
 go_enter Tryz.func113,Tryz.ntmps113
 go_wp2_with (first | (go_at_call 154;(with_reducible refine (AR _ (hBW _)).mono ?_);rintro e w2 ⟨rfl,hw⟩;rw [hw];clear hw))
 go_ret
 exact ⟨by rw [hF.out];rfl,(hBX _).out⟩
end Go.Proofs.YtdjfpghgklkejaaGreatDoor
