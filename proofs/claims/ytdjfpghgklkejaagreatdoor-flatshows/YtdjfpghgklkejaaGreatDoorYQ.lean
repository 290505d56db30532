/-
  Put together of: LC7a LC3c.
-/
import Derived.Test.YtdjfpghgklkejaaGreatDoorYJ
import Derived.Test.YtdjfpghgklkejaaGreatDoorYN
namespace Go.Proofs.YtdjfpghgklkejaaGreatDoor
open Go.RowKit Go.Sort
set_option maxHeartbeats 2000000 in
set_option maxRecDepth 100000 in
theorem rhead_qubits (nm:ByteArray) (ag:List Ar) (nu ro pl:Int) (av:Value) (w W:World) (hS:SA w av ag) (hB:Below w.heap.size w W) (hne:nm≠⟨#[]⟩) (hnz:nm.size≤1099511627776) (hnu:0≤nu∧nu≤9007199254740991) (hl:ag.length≤1099511627776) (hz:∀a∈ag,a.n.size≤1099511627776) (hx:∀a∈ag,a.x≤9007199254740991) (hT:(hdB ⟨wQubits,nm,ag,nu,ro,pl⟩).length≤1099511627776) :
  Calls Tryz.prog 114 #[.agg #[.string ⟨#[113,117,98,105,116,115]⟩,.string nm,av,.int .i64 nu,.int .i64 ro,.int .i64 pl]] W fun e W'=>e=.returned (.string ⟨(hdB ⟨wQubits,nm,ag,nu,ro,pl⟩).toArray⟩)∧Below W.heap.size W W':=by
 obtain ⟨aa,ac,rfl,hac,hr⟩:=hS
 have HR:Hid (∀k,k<ag.length→∃b o,aa=some ⟨b,o,none⟩∧RA w b o ag):=hr
 have HZ:Hid (∀a∈ag,a.n.size≤1099511627776):=hz
 have HXX:Hid (∀a∈ag,a.x≤9007199254740991):=hx
 clear hr hz hx
 have q0:=ne_lit hne
 obtain ⟨P,hP⟩:∃P:ByteArray,P=(⟨#[113,117,98,105,116,115]⟩++⟨#[32]⟩++nm++⟨#[32]⟩++numT nu:ByteArray):=⟨_,rfl⟩
 have HP:Hid (hdB ⟨wQubits,nm,ag,nu,ro,pl⟩=P.data.toList++ag.flatMap shwB):=by
  show _=_
  rw [hP]
  unfold hdB hd0 hd1
  rw [if_neg (show ¬wQubits=wUse by decide),if_neg hne]
  rw [if_pos (show numKd wQubits=true by decide)]
  simp [ByteArray.data_append]
 rw [HP.out,List.length_append] at hT
 have hPz:P.data.toList.length=P.size:=rfl
 obtain ⟨TX,hTX⟩:∃T:ByteArray,T=⟨(hdB ⟨wQubits,nm,ag,nu,ro,pl⟩).toArray⟩:=⟨_,rfl⟩
 have HTX:Hid (TX=⟨(P.data.toList++ag.flatMap shwB).toArray⟩):=by show TX=_;rw [hTX,HP.out]
 rw [←hTX]
 clear hTX HP
 have HPQ:Hid (P=(⟨#[113,117,98,105,116,115]⟩++⟨#[32]⟩++nm++⟨#[32]⟩++numT nu:ByteArray)):=hP
 clear hP
 have DC:=fun w=>decimal_any nu w (by omega) (by omega)
 have hnl:=num_len nu (by omega) (by omega)
 generalize numT nu=nt at *
 have z0:¬9223372036854775807<(⟨#[113,117,98,105,116,115]⟩:ByteArray).size+(⟨#[32]⟩:ByteArray).size:=by (try simp only [ByteArray.size_append]);show ¬9223372036854775807<6+1;omega
 have y0:¬9223372036854775807<6+1:=by omega
 have z1:¬9223372036854775807<(⟨#[113,117,98,105,116,115]⟩++⟨#[32]⟩:ByteArray).size+nm.size:=by (try simp only [ByteArray.size_append]);show ¬9223372036854775807<6+1+nm.size;omega
 have y1:¬9223372036854775807<6+1+nm.size:=by omega
 have z2:¬9223372036854775807<(⟨#[113,117,98,105,116,115]⟩++⟨#[32]⟩++nm:ByteArray).size+(⟨#[32]⟩:ByteArray).size:=by (try simp only [ByteArray.size_append]);show ¬9223372036854775807<6+1+nm.size+1;omega
 have y2:¬9223372036854775807<6+1+nm.size+1:=by omega
 have z3:¬9223372036854775807<(⟨#[113,117,98,105,116,115]⟩++⟨#[32]⟩++nm++⟨#[32]⟩:ByteArray).size+nt.size:=by (try simp only [ByteArray.size_append]);show ¬9223372036854775807<6+1+nm.size+1+nt.size;omega
 have y3:¬9223372036854775807<6+1+nm.size+1+nt.size:=by omega
 obtain ⟨X,hX⟩:∃X,X=W.alloc (.cells #[.string ⟨#[113,117,98,105,116,115]⟩,.string nm,.slice aa ag.length ac,.int .i64 nu,.int .i64 ro,.int .i64 pl] 79):=⟨_,rfl⟩
 have HX:Hid (X=W.alloc (.cells #[.string ⟨#[113,117,98,105,116,115]⟩,.string nm,.slice aa ag.length ac,.int .i64 nu,.int .i64 ro,.int .i64 pl] 79)):=hX
 have bX:BK X W.heap.size #[.string ⟨#[113,117,98,105,116,115]⟩,.string nm,.slice aa ag.length ac,.int .i64 nu,.int .i64 ro,.int .i64 pl] 79:=by rw [hX];exact bk_new _ _ _
 have hWX:Hid (Below W.heap.size W X):=by rw [hX];exact bal (Below.refl _ _) _
 have hwX:Hid (Below w.heap.size w X):=btr hB hWX.out
 have FC:∀ {wr:World},Below X.heap.size X wr→wr.cell? ⟨W.heap.size,0,none⟩=some (.string ⟨#[113,117,98,105,116,115]⟩)∧wr.cell? ⟨W.heap.size,1,none⟩=some (.string nm)∧wr.cell? ⟨W.heap.size,2,none⟩=some (.slice aa ag.length ac)∧wr.cell? ⟨W.heap.size,3,none⟩=some (.int .i64 nu)∧W.heap.size<wr.heap.size:=fun h=>by
  have b9:BK _ W.heap.size _ _:=(h.block _ bX.lt).trans bX
  exact ⟨b9.cell 0,b9.cell 1,b9.cell 2,b9.cell 3,b9.lt⟩
 obtain ⟨x0,x1,x2,x3,x4⟩:=FC (Below.refl _ _)
 have hB0:Hid (Below X.heap.size X X):=Below.refl _ _
 clear bX hX hB
 go_enter Tryz.func114,Tryz.ntmps114
 go_upto_region 1 with (fail)
 rw [←HX.out]
 go_upto_region 9 with (go_at_call 155;(with_reducible refine (DC _).mono ?_);rintro e w1 ⟨rfl,h1⟩;obtain ⟨y0_,y1_,y2_,y3_,y4_⟩:=FC h1)
 have hW1:Hid _:=h1
 try rw [←HPQ.out]
 go_loopw [3,4] (fun v3 v4 wr=>∃(k:Nat) (S:ByteArray),k≤ag.length∧v3=.string S∧v4=.int .i64 k∧S.size≤1099511627776∧Hid (S=⟨(P.data.toList++(ag.take k).flatMap shwB).toArray⟩∧Below X.heap.size X wr)) (fun _ v _=>ag.length-(intOf v).toNat)
 case atStart=>exact ⟨0,P,Nat.zero_le _,rfl,rfl,by omega,by rw [List.take_zero];simp,hW1.out⟩
 case round=>
  clear x0 x1 x2 x3 x4
  obtain ⟨k,S,hk,rfl,rfl,hSz,hI⟩:=hrel
  obtain ⟨x0,x1,x2,x3,x4⟩:=FC hI.out.2
  by_cases hlt:k<ag.length
  case neg=>
   obtain rfl:k=ag.length:=by omega
   have hE:Hid (S=TX):=by show S=TX;rw [hI.out.1,List.take_length,HTX.out]
   go_wp2
   go_ret
   exact ⟨by rw [←hE.out];rfl,btr hWX.out hI.out.2⟩
  case pos=>
  obtain ⟨rb,rO,rfl,ra0⟩:=HR.out k hlt
  have ra:=(ra0.below hwX.out).below hI.out.2
  have l0:=ra.c0 k hlt
  have l1:=ra.c1 k hlt
  have l2:=ra.lt
  have hmem:=List.getElem_mem hlt
  have SW:=fun w=>shown_any ag[k].n ag[k].x w (HZ.out _ hmem) (HXX.out _ hmem)
  have HTK:Hid ((ag.take (k+1)).flatMap shwB=(ag.take k).flatMap shwB++shwB ag[k]):=by show _=_;rw [List.take_succ_eq_append_getElem hlt,List.flatMap_append];simp
  have hLL:P.size+((ag.take k).flatMap shwB).length+(shwB ag[k]).length≤1099511627776:=by
   have e:ag.flatMap shwB=(ag.take (k+1)).flatMap shwB++(ag.drop (k+1)).flatMap shwB:=by rw [←List.flatMap_append,List.take_append_drop]
   have:=congrArg List.length e
   rw [HTK.out,List.length_append,List.length_append] at this
   omega
  have hSL:S.size=P.size+((ag.take k).flatMap shwB).length:=by rw [hI.out.1];show (P.data.toList++_).toArray.size=_;rw [List.size_toArray,List.length_append,hPz]
  have HSB:Hid ((⟨(shwB ag[k]).toArray⟩:ByteArray).size=(shwB ag[k]).length):=by show (shwB ag[k]).toArray.size=_;rw [List.size_toArray]
  obtain ⟨B,hB9⟩:∃B:ByteArray,B=⟨(shwB ag[k]).toArray⟩:=⟨_,rfl⟩
  have HB9:Hid (B=⟨(shwB ag[k]).toArray⟩):=hB9
  have hBz:S.size+B.size≤1099511627776:=by rw [hB9,HSB.out];omega
  have NXT:Hid ((S++B:ByteArray)=⟨(P.data.toList++(ag.take (k+1)).flatMap shwB).toArray⟩):=by
   show _=_
   rw [HTK.out,hI.out.1,HB9.out,bytes_app,List.append_assoc]
  have hkz:¬9223372036854775807<S.size+B.size:=by omega
  have SW2:∀w,Calls Tryz.prog 156 #[.agg #[.string ag[k].n,.int .i64 ag[k].x]] w fun e w'=>e=.returned (.string B)∧Below w.heap.size w w':=fun w=>by rw [hB9];exact SW w
  clear ra ra0 hmem SW hLL hSL hB9 HSB HB9
  generalize ag[k].n=an at *
  generalize ag[k].x=ax at *
  go_wp2_with (go_at_call 156;(with_reducible refine (SW2 _).mono ?_);rintro e w5 ⟨rfl,h5⟩)
  go_roundw
  case rel=>exact ⟨k+1,_,by omega,rfl,by go_num,by rw [ByteArray.size_append];exact hBz,NXT.out,btr hI.out.2 h5⟩
  case measure=>simp [intOf];omega
set_option maxHeartbeats 2000000 in
set_option maxRecDepth 100000 in
theorem rhead_bits (nm:ByteArray) (ag:List Ar) (nu ro pl:Int) (av:Value) (w W:World) (hS:SA w av ag) (hB:Below w.heap.size w W) (hne:nm≠⟨#[]⟩) (hnz:nm.size≤1099511627776) (hnu:0≤nu∧nu≤9007199254740991) (hl:ag.length≤1099511627776) (hz:∀a∈ag,a.n.size≤1099511627776) (hx:∀a∈ag,a.x≤9007199254740991) (hT:(hdB ⟨wBits,nm,ag,nu,ro,pl⟩).length≤1099511627776) :
  Calls Tryz.prog 114 #[.agg #[.string ⟨#[98,105,116,115]⟩,.string nm,av,.int .i64 nu,.int .i64 ro,.int .i64 pl]] W fun e W'=>e=.returned (.string ⟨(hdB ⟨wBits,nm,ag,nu,ro,pl⟩).toArray⟩)∧Below W.heap.size W W':=by
 obtain ⟨aa,ac,rfl,hac,hr⟩:=hS
 have HR:Hid (∀k,k<ag.length→∃b o,aa=some ⟨b,o,none⟩∧RA w b o ag):=hr
 have HZ:Hid (∀a∈ag,a.n.size≤1099511627776):=hz
 have HXX:Hid (∀a∈ag,a.x≤9007199254740991):=hx
 clear hr hz hx
 have q0:=ne_lit hne
 obtain ⟨P,hP⟩:∃P:ByteArray,P=(⟨#[98,105,116,115]⟩++⟨#[32]⟩++nm++⟨#[32]⟩++numT nu:ByteArray):=⟨_,rfl⟩
 have HP:Hid (hdB ⟨wBits,nm,ag,nu,ro,pl⟩=P.data.toList++ag.flatMap shwB):=by
  show _=_
  rw [hP]
  unfold hdB hd0 hd1
  rw [if_neg (show ¬wBits=wUse by decide),if_neg hne]
  rw [if_pos (show numKd wBits=true by decide)]
  simp [ByteArray.data_append]
 rw [HP.out,List.length_append] at hT
 have hPz:P.data.toList.length=P.size:=rfl
 obtain ⟨TX,hTX⟩:∃T:ByteArray,T=⟨(hdB ⟨wBits,nm,ag,nu,ro,pl⟩).toArray⟩:=⟨_,rfl⟩
 have HTX:Hid (TX=⟨(P.data.toList++ag.flatMap shwB).toArray⟩):=by show TX=_;rw [hTX,HP.out]
 rw [←hTX]
 clear hTX HP
 have HPQ:Hid (P=(⟨#[98,105,116,115]⟩++⟨#[32]⟩++nm++⟨#[32]⟩++numT nu:ByteArray)):=hP
 clear hP
 have DC:=fun w=>decimal_any nu w (by omega) (by omega)
 have hnl:=num_len nu (by omega) (by omega)
 generalize numT nu=nt at *
 have z0:¬9223372036854775807<(⟨#[98,105,116,115]⟩:ByteArray).size+(⟨#[32]⟩:ByteArray).size:=by (try simp only [ByteArray.size_append]);show ¬9223372036854775807<4+1;omega
 have y0:¬9223372036854775807<4+1:=by omega
 have z1:¬9223372036854775807<(⟨#[98,105,116,115]⟩++⟨#[32]⟩:ByteArray).size+nm.size:=by (try simp only [ByteArray.size_append]);show ¬9223372036854775807<4+1+nm.size;omega
 have y1:¬9223372036854775807<4+1+nm.size:=by omega
 have z2:¬9223372036854775807<(⟨#[98,105,116,115]⟩++⟨#[32]⟩++nm:ByteArray).size+(⟨#[32]⟩:ByteArray).size:=by (try simp only [ByteArray.size_append]);show ¬9223372036854775807<4+1+nm.size+1;omega
 have y2:¬9223372036854775807<4+1+nm.size+1:=by omega
 have z3:¬9223372036854775807<(⟨#[98,105,116,115]⟩++⟨#[32]⟩++nm++⟨#[32]⟩:ByteArray).size+nt.size:=by (try simp only [ByteArray.size_append]);show ¬9223372036854775807<4+1+nm.size+1+nt.size;omega
 have y3:¬9223372036854775807<4+1+nm.size+1+nt.size:=by omega
 obtain ⟨X,hX⟩:∃X,X=W.alloc (.cells #[.string ⟨#[98,105,116,115]⟩,.string nm,.slice aa ag.length ac,.int .i64 nu,.int .i64 ro,.int .i64 pl] 79):=⟨_,rfl⟩
 have HX:Hid (X=W.alloc (.cells #[.string ⟨#[98,105,116,115]⟩,.string nm,.slice aa ag.length ac,.int .i64 nu,.int .i64 ro,.int .i64 pl] 79)):=hX
 have bX:BK X W.heap.size #[.string ⟨#[98,105,116,115]⟩,.string nm,.slice aa ag.length ac,.int .i64 nu,.int .i64 ro,.int .i64 pl] 79:=by rw [hX];exact bk_new _ _ _
 have hWX:Hid (Below W.heap.size W X):=by rw [hX];exact bal (Below.refl _ _) _
 have hwX:Hid (Below w.heap.size w X):=btr hB hWX.out
 have FC:∀ {wr:World},Below X.heap.size X wr→wr.cell? ⟨W.heap.size,0,none⟩=some (.string ⟨#[98,105,116,115]⟩)∧wr.cell? ⟨W.heap.size,1,none⟩=some (.string nm)∧wr.cell? ⟨W.heap.size,2,none⟩=some (.slice aa ag.length ac)∧wr.cell? ⟨W.heap.size,3,none⟩=some (.int .i64 nu)∧W.heap.size<wr.heap.size:=fun h=>by
  have b9:BK _ W.heap.size _ _:=(h.block _ bX.lt).trans bX
  exact ⟨b9.cell 0,b9.cell 1,b9.cell 2,b9.cell 3,b9.lt⟩
 obtain ⟨x0,x1,x2,x3,x4⟩:=FC (Below.refl _ _)
 have hB0:Hid (Below X.heap.size X X):=Below.refl _ _
 clear bX hX hB
 go_enter Tryz.func114,Tryz.ntmps114
 go_upto_region 1 with (fail)
 rw [←HX.out]
 go_upto_region 9 with (go_at_call 155;(with_reducible refine (DC _).mono ?_);rintro e w1 ⟨rfl,h1⟩;obtain ⟨y0_,y1_,y2_,y3_,y4_⟩:=FC h1)
 have hW1:Hid _:=h1
 try rw [←HPQ.out]
 go_loopw [3,4] (fun v3 v4 wr=>∃(k:Nat) (S:ByteArray),k≤ag.length∧v3=.string S∧v4=.int .i64 k∧S.size≤1099511627776∧Hid (S=⟨(P.data.toList++(ag.take k).flatMap shwB).toArray⟩∧Below X.heap.size X wr)) (fun _ v _=>ag.length-(intOf v).toNat)
 case atStart=>exact ⟨0,P,Nat.zero_le _,rfl,rfl,by omega,by rw [List.take_zero];simp,hW1.out⟩
 case round=>
  clear x0 x1 x2 x3 x4
  obtain ⟨k,S,hk,rfl,rfl,hSz,hI⟩:=hrel
  obtain ⟨x0,x1,x2,x3,x4⟩:=FC hI.out.2
  by_cases hlt:k<ag.length
  case neg=>
   obtain rfl:k=ag.length:=by omega
   have hE:Hid (S=TX):=by show S=TX;rw [hI.out.1,List.take_length,HTX.out]
   go_wp2
   go_ret
   exact ⟨by rw [←hE.out];rfl,btr hWX.out hI.out.2⟩
  case pos=>
  obtain ⟨rb,rO,rfl,ra0⟩:=HR.out k hlt
  have ra:=(ra0.below hwX.out).below hI.out.2
  have l0:=ra.c0 k hlt
  have l1:=ra.c1 k hlt
  have l2:=ra.lt
  have hmem:=List.getElem_mem hlt
  have SW:=fun w=>shown_any ag[k].n ag[k].x w (HZ.out _ hmem) (HXX.out _ hmem)
  have HTK:Hid ((ag.take (k+1)).flatMap shwB=(ag.take k).flatMap shwB++shwB ag[k]):=by show _=_;rw [List.take_succ_eq_append_getElem hlt,List.flatMap_append];simp
  have hLL:P.size+((ag.take k).flatMap shwB).length+(shwB ag[k]).length≤1099511627776:=by
   have e:ag.flatMap shwB=(ag.take (k+1)).flatMap shwB++(ag.drop (k+1)).flatMap shwB:=by rw [←List.flatMap_append,List.take_append_drop]
   have:=congrArg List.length e
   rw [HTK.out,List.length_append,List.length_append] at this
   omega
  have hSL:S.size=P.size+((ag.take k).flatMap shwB).length:=by rw [hI.out.1];show (P.data.toList++_).toArray.size=_;rw [List.size_toArray,List.length_append,hPz]
  have HSB:Hid ((⟨(shwB ag[k]).toArray⟩:ByteArray).size=(shwB ag[k]).length):=by show (shwB ag[k]).toArray.size=_;rw [List.size_toArray]
  obtain ⟨B,hB9⟩:∃B:ByteArray,B=⟨(shwB ag[k]).toArray⟩:=⟨_,rfl⟩
  have HB9:Hid (B=⟨(shwB ag[k]).toArray⟩):=hB9
  have hBz:S.size+B.size≤1099511627776:=by rw [hB9,HSB.out];omega
  have NXT:Hid ((S++B:ByteArray)=⟨(P.data.toList++(ag.take (k+1)).flatMap shwB).toArray⟩):=by
   show _=_
   rw [HTK.out,hI.out.1,HB9.out,bytes_app,List.append_assoc]
  have hkz:¬9223372036854775807<S.size+B.size:=by omega
  have SW2:∀w,Calls Tryz.prog 156 #[.agg #[.string ag[k].n,.int .i64 ag[k].x]] w fun e w'=>e=.returned (.string B)∧Below w.heap.size w w':=fun w=>by rw [hB9];exact SW w
  clear ra ra0 hmem SW hLL hSL hB9 HSB HB9
  generalize ag[k].n=an at *
  generalize ag[k].x=ax at *
  go_wp2_with (go_at_call 156;(with_reducible refine (SW2 _).mono ?_);rintro e w5 ⟨rfl,h5⟩)
  go_roundw
  case rel=>exact ⟨k+1,_,by omega,rfl,by go_num,by rw [ByteArray.size_append];exact hBz,NXT.out,btr hI.out.2 h5⟩
  case measure=>simp [intOf];omega
set_option maxHeartbeats 2000000 in
set_option maxRecDepth 100000 in
theorem rhead_gate (nm:ByteArray) (ag:List Ar) (nu ro pl:Int) (av:Value) (w W:World) (hS:SA w av ag) (hB:Below w.heap.size w W) (hne:nm≠⟨#[]⟩) (hnz:nm.size≤1099511627776) (hl:ag.length≤1099511627776) (hz:∀a∈ag,a.n.size≤1099511627776) (hx:∀a∈ag,a.x≤9007199254740991) (hT:(hdB ⟨wGate,nm,ag,nu,ro,pl⟩).length≤1099511627776) :
  Calls Tryz.prog 114 #[.agg #[.string ⟨#[103,97,116,101]⟩,.string nm,av,.int .i64 nu,.int .i64 ro,.int .i64 pl]] W fun e W'=>e=.returned (.string ⟨(hdB ⟨wGate,nm,ag,nu,ro,pl⟩).toArray⟩)∧Below W.heap.size W W':=by
 obtain ⟨aa,ac,rfl,hac,hr⟩:=hS
 have HR:Hid (∀k,k<ag.length→∃b o,aa=some ⟨b,o,none⟩∧RA w b o ag):=hr
 have HZ:Hid (∀a∈ag,a.n.size≤1099511627776):=hz
 have HXX:Hid (∀a∈ag,a.x≤9007199254740991):=hx
 clear hr hz hx
 have q0:=ne_lit hne
 obtain ⟨P,hP⟩:∃P:ByteArray,P=(⟨#[103,97,116,101]⟩++⟨#[32]⟩++nm:ByteArray):=⟨_,rfl⟩
 have HP:Hid (hdB ⟨wGate,nm,ag,nu,ro,pl⟩=P.data.toList++ag.flatMap shwB):=by
  show _=_
  rw [hP]
  unfold hdB hd0 hd1
  rw [if_neg (show ¬wGate=wUse by decide),if_neg hne]
  rw [if_neg (show ¬numKd wGate=true by decide)]
  simp [ByteArray.data_append]
 rw [HP.out,List.length_append] at hT
 have hPz:P.data.toList.length=P.size:=rfl
 obtain ⟨TX,hTX⟩:∃T:ByteArray,T=⟨(hdB ⟨wGate,nm,ag,nu,ro,pl⟩).toArray⟩:=⟨_,rfl⟩
 have HTX:Hid (TX=⟨(P.data.toList++ag.flatMap shwB).toArray⟩):=by show TX=_;rw [hTX,HP.out]
 rw [←hTX]
 clear hTX HP
 have HPQ:Hid (P=(⟨#[103,97,116,101]⟩++⟨#[32]⟩++nm:ByteArray)):=hP
 clear hP
 have z0:¬9223372036854775807<(⟨#[103,97,116,101]⟩:ByteArray).size+(⟨#[32]⟩:ByteArray).size:=by (try simp only [ByteArray.size_append]);show ¬9223372036854775807<4+1;omega
 have y0:¬9223372036854775807<4+1:=by omega
 have z1:¬9223372036854775807<(⟨#[103,97,116,101]⟩++⟨#[32]⟩:ByteArray).size+nm.size:=by (try simp only [ByteArray.size_append]);show ¬9223372036854775807<4+1+nm.size;omega
 have y1:¬9223372036854775807<4+1+nm.size:=by omega
 obtain ⟨X,hX⟩:∃X,X=W.alloc (.cells #[.string ⟨#[103,97,116,101]⟩,.string nm,.slice aa ag.length ac,.int .i64 nu,.int .i64 ro,.int .i64 pl] 79):=⟨_,rfl⟩
 have HX:Hid (X=W.alloc (.cells #[.string ⟨#[103,97,116,101]⟩,.string nm,.slice aa ag.length ac,.int .i64 nu,.int .i64 ro,.int .i64 pl] 79)):=hX
 have bX:BK X W.heap.size #[.string ⟨#[103,97,116,101]⟩,.string nm,.slice aa ag.length ac,.int .i64 nu,.int .i64 ro,.int .i64 pl] 79:=by rw [hX];exact bk_new _ _ _
 have hWX:Hid (Below W.heap.size W X):=by rw [hX];exact bal (Below.refl _ _) _
 have hwX:Hid (Below w.heap.size w X):=btr hB hWX.out
 have FC:∀ {wr:World},Below X.heap.size X wr→wr.cell? ⟨W.heap.size,0,none⟩=some (.string ⟨#[103,97,116,101]⟩)∧wr.cell? ⟨W.heap.size,1,none⟩=some (.string nm)∧wr.cell? ⟨W.heap.size,2,none⟩=some (.slice aa ag.length ac)∧wr.cell? ⟨W.heap.size,3,none⟩=some (.int .i64 nu)∧W.heap.size<wr.heap.size:=fun h=>by
  have b9:BK _ W.heap.size _ _:=(h.block _ bX.lt).trans bX
  exact ⟨b9.cell 0,b9.cell 1,b9.cell 2,b9.cell 3,b9.lt⟩
 obtain ⟨x0,x1,x2,x3,x4⟩:=FC (Below.refl _ _)
 have hB0:Hid (Below X.heap.size X X):=Below.refl _ _
 clear bX hX hB
 go_enter Tryz.func114,Tryz.ntmps114
 go_upto_region 1 with (fail)
 rw [←HX.out]
 go_upto_region 9 with (fail)
 have hW1:Hid _:=hB0.out
 try rw [←HPQ.out]
 go_loopw [3,4] (fun v3 v4 wr=>∃(k:Nat) (S:ByteArray),k≤ag.length∧v3=.string S∧v4=.int .i64 k∧S.size≤1099511627776∧Hid (S=⟨(P.data.toList++(ag.take k).flatMap shwB).toArray⟩∧Below X.heap.size X wr)) (fun _ v _=>ag.length-(intOf v).toNat)
 case atStart=>exact ⟨0,P,Nat.zero_le _,rfl,rfl,by omega,by rw [List.take_zero];simp,hW1.out⟩
 case round=>
  clear x0 x1 x2 x3 x4
  obtain ⟨k,S,hk,rfl,rfl,hSz,hI⟩:=hrel
  obtain ⟨x0,x1,x2,x3,x4⟩:=FC hI.out.2
  by_cases hlt:k<ag.length
  case neg=>
   obtain rfl:k=ag.length:=by omega
   have hE:Hid (S=TX):=by show S=TX;rw [hI.out.1,List.take_length,HTX.out]
   go_wp2
   go_ret
   exact ⟨by rw [←hE.out];rfl,btr hWX.out hI.out.2⟩
  case pos=>
  obtain ⟨rb,rO,rfl,ra0⟩:=HR.out k hlt
  have ra:=(ra0.below hwX.out).below hI.out.2
  have l0:=ra.c0 k hlt
  have l1:=ra.c1 k hlt
  have l2:=ra.lt
  have hmem:=List.getElem_mem hlt
  have SW:=fun w=>shown_any ag[k].n ag[k].x w (HZ.out _ hmem) (HXX.out _ hmem)
  have HTK:Hid ((ag.take (k+1)).flatMap shwB=(ag.take k).flatMap shwB++shwB ag[k]):=by show _=_;rw [List.take_succ_eq_append_getElem hlt,List.flatMap_append];simp
  have hLL:P.size+((ag.take k).flatMap shwB).length+(shwB ag[k]).length≤1099511627776:=by
   have e:ag.flatMap shwB=(ag.take (k+1)).flatMap shwB++(ag.drop (k+1)).flatMap shwB:=by rw [←List.flatMap_append,List.take_append_drop]
   have:=congrArg List.length e
   rw [HTK.out,List.length_append,List.length_append] at this
   omega
  have hSL:S.size=P.size+((ag.take k).flatMap shwB).length:=by rw [hI.out.1];show (P.data.toList++_).toArray.size=_;rw [List.size_toArray,List.length_append,hPz]
  have HSB:Hid ((⟨(shwB ag[k]).toArray⟩:ByteArray).size=(shwB ag[k]).length):=by show (shwB ag[k]).toArray.size=_;rw [List.size_toArray]
  obtain ⟨B,hB9⟩:∃B:ByteArray,B=⟨(shwB ag[k]).toArray⟩:=⟨_,rfl⟩
  have HB9:Hid (B=⟨(shwB ag[k]).toArray⟩):=hB9
  have hBz:S.size+B.size≤1099511627776:=by rw [hB9,HSB.out];omega
  have NXT:Hid ((S++B:ByteArray)=⟨(P.data.toList++(ag.take (k+1)).flatMap shwB).toArray⟩):=by
   show _=_
   rw [HTK.out,hI.out.1,HB9.out,bytes_app,List.append_assoc]
  have hkz:¬9223372036854775807<S.size+B.size:=by omega
  have SW2:∀w,Calls Tryz.prog 156 #[.agg #[.string ag[k].n,.int .i64 ag[k].x]] w fun e w'=>e=.returned (.string B)∧Below w.heap.size w w':=fun w=>by rw [hB9];exact SW w
  clear ra ra0 hmem SW hLL hSL hB9 HSB HB9
  generalize ag[k].n=an at *
  generalize ag[k].x=ax at *
  go_wp2_with (go_at_call 156;(with_reducible refine (SW2 _).mono ?_);rintro e w5 ⟨rfl,h5⟩)
  go_roundw
  case rel=>exact ⟨k+1,_,by omega,rfl,by go_num,by rw [ByteArray.size_append];exact hBz,NXT.out,btr hI.out.2 h5⟩
  case measure=>simp [intOf];omega
set_option maxHeartbeats 2000000 in
set_option maxRecDepth 100000 in
theorem rhead_repeat (ag:List Ar) (nu ro pl:Int) (av:Value) (w W:World) (hS:SA w av ag) (hB:Below w.heap.size w W) (hnu:0≤nu∧nu≤9007199254740991) (hl:ag.length≤1099511627776) (hz:∀a∈ag,a.n.size≤1099511627776) (hx:∀a∈ag,a.x≤9007199254740991) (hT:(hdB ⟨wRepeat,⟨#[]⟩,ag,nu,ro,pl⟩).length≤1099511627776) :
  Calls Tryz.prog 114 #[.agg #[.string ⟨#[114,101,112,101,97,116]⟩,.string ⟨#[]⟩,av,.int .i64 nu,.int .i64 ro,.int .i64 pl]] W fun e W'=>e=.returned (.string ⟨(hdB ⟨wRepeat,⟨#[]⟩,ag,nu,ro,pl⟩).toArray⟩)∧Below W.heap.size W W':=by
 obtain ⟨aa,ac,rfl,hac,hr⟩:=hS
 have HR:Hid (∀k,k<ag.length→∃b o,aa=some ⟨b,o,none⟩∧RA w b o ag):=hr
 have HZ:Hid (∀a∈ag,a.n.size≤1099511627776):=hz
 have HXX:Hid (∀a∈ag,a.x≤9007199254740991):=hx
 clear hr hz hx
 obtain ⟨P,hP⟩:∃P:ByteArray,P=(⟨#[114,101,112,101,97,116]⟩++⟨#[32]⟩++numT nu:ByteArray):=⟨_,rfl⟩
 have HP:Hid (hdB ⟨wRepeat,⟨#[]⟩,ag,nu,ro,pl⟩=P.data.toList++ag.flatMap shwB):=by
  show _=_
  rw [hP]
  unfold hdB hd0 hd1
  rw [if_neg (show ¬wRepeat=wUse by decide),if_pos rfl]
  rw [if_pos (show numKd wRepeat=true by decide)]
  simp [ByteArray.data_append]
 rw [HP.out,List.length_append] at hT
 have hPz:P.data.toList.length=P.size:=rfl
 obtain ⟨TX,hTX⟩:∃T:ByteArray,T=⟨(hdB ⟨wRepeat,⟨#[]⟩,ag,nu,ro,pl⟩).toArray⟩:=⟨_,rfl⟩
 have HTX:Hid (TX=⟨(P.data.toList++ag.flatMap shwB).toArray⟩):=by show TX=_;rw [hTX,HP.out]
 rw [←hTX]
 clear hTX HP
 have HPQ:Hid (P=(⟨#[114,101,112,101,97,116]⟩++⟨#[32]⟩++numT nu:ByteArray)):=hP
 clear hP
 have DC:=fun w=>decimal_any nu w (by omega) (by omega)
 have hnl:=num_len nu (by omega) (by omega)
 generalize numT nu=nt at *
 have z0:¬9223372036854775807<(⟨#[114,101,112,101,97,116]⟩:ByteArray).size+(⟨#[32]⟩:ByteArray).size:=by (try simp only [ByteArray.size_append]);show ¬9223372036854775807<6+1;omega
 have y0:¬9223372036854775807<6+1:=by omega
 have z1:¬9223372036854775807<(⟨#[114,101,112,101,97,116]⟩++⟨#[32]⟩:ByteArray).size+nt.size:=by (try simp only [ByteArray.size_append]);show ¬9223372036854775807<6+1+nt.size;omega
 have y1:¬9223372036854775807<6+1+nt.size:=by omega
 obtain ⟨X,hX⟩:∃X,X=W.alloc (.cells #[.string ⟨#[114,101,112,101,97,116]⟩,.string ⟨#[]⟩,.slice aa ag.length ac,.int .i64 nu,.int .i64 ro,.int .i64 pl] 79):=⟨_,rfl⟩
 have HX:Hid (X=W.alloc (.cells #[.string ⟨#[114,101,112,101,97,116]⟩,.string ⟨#[]⟩,.slice aa ag.length ac,.int .i64 nu,.int .i64 ro,.int .i64 pl] 79)):=hX
 have bX:BK X W.heap.size #[.string ⟨#[114,101,112,101,97,116]⟩,.string ⟨#[]⟩,.slice aa ag.length ac,.int .i64 nu,.int .i64 ro,.int .i64 pl] 79:=by rw [hX];exact bk_new _ _ _
 have hWX:Hid (Below W.heap.size W X):=by rw [hX];exact bal (Below.refl _ _) _
 have hwX:Hid (Below w.heap.size w X):=btr hB hWX.out
 have FC:∀ {wr:World},Below X.heap.size X wr→wr.cell? ⟨W.heap.size,0,none⟩=some (.string ⟨#[114,101,112,101,97,116]⟩)∧wr.cell? ⟨W.heap.size,1,none⟩=some (.string ⟨#[]⟩)∧wr.cell? ⟨W.heap.size,2,none⟩=some (.slice aa ag.length ac)∧wr.cell? ⟨W.heap.size,3,none⟩=some (.int .i64 nu)∧W.heap.size<wr.heap.size:=fun h=>by
  have b9:BK _ W.heap.size _ _:=(h.block _ bX.lt).trans bX
  exact ⟨b9.cell 0,b9.cell 1,b9.cell 2,b9.cell 3,b9.lt⟩
 obtain ⟨x0,x1,x2,x3,x4⟩:=FC (Below.refl _ _)
 have hB0:Hid (Below X.heap.size X X):=Below.refl _ _
 clear bX hX hB
 go_enter Tryz.func114,Tryz.ntmps114
 go_upto_region 1 with (fail)
 rw [←HX.out]
 go_upto_region 9 with (go_at_call 155;(with_reducible refine (DC _).mono ?_);rintro e w1 ⟨rfl,h1⟩;obtain ⟨y0_,y1_,y2_,y3_,y4_⟩:=FC h1)
 have hW1:Hid _:=h1
 try rw [←HPQ.out]
 go_loopw [3,4] (fun v3 v4 wr=>∃(k:Nat) (S:ByteArray),k≤ag.length∧v3=.string S∧v4=.int .i64 k∧S.size≤1099511627776∧Hid (S=⟨(P.data.toList++(ag.take k).flatMap shwB).toArray⟩∧Below X.heap.size X wr)) (fun _ v _=>ag.length-(intOf v).toNat)
 case atStart=>exact ⟨0,P,Nat.zero_le _,rfl,rfl,by omega,by rw [List.take_zero];simp,hW1.out⟩
 case round=>
  clear x0 x1 x2 x3 x4
  obtain ⟨k,S,hk,rfl,rfl,hSz,hI⟩:=hrel
  obtain ⟨x0,x1,x2,x3,x4⟩:=FC hI.out.2
  by_cases hlt:k<ag.length
  case neg=>
   obtain rfl:k=ag.length:=by omega
   have hE:Hid (S=TX):=by show S=TX;rw [hI.out.1,List.take_length,HTX.out]
   go_wp2
   go_ret
   exact ⟨by rw [←hE.out];rfl,btr hWX.out hI.out.2⟩
  case pos=>
  obtain ⟨rb,rO,rfl,ra0⟩:=HR.out k hlt
  have ra:=(ra0.below hwX.out).below hI.out.2
  have l0:=ra.c0 k hlt
  have l1:=ra.c1 k hlt
  have l2:=ra.lt
  have hmem:=List.getElem_mem hlt
  have SW:=fun w=>shown_any ag[k].n ag[k].x w (HZ.out _ hmem) (HXX.out _ hmem)
  have HTK:Hid ((ag.take (k+1)).flatMap shwB=(ag.take k).flatMap shwB++shwB ag[k]):=by show _=_;rw [List.take_succ_eq_append_getElem hlt,List.flatMap_append];simp
  have hLL:P.size+((ag.take k).flatMap shwB).length+(shwB ag[k]).length≤1099511627776:=by
   have e:ag.flatMap shwB=(ag.take (k+1)).flatMap shwB++(ag.drop (k+1)).flatMap shwB:=by rw [←List.flatMap_append,List.take_append_drop]
   have:=congrArg List.length e
   rw [HTK.out,List.length_append,List.length_append] at this
   omega
  have hSL:S.size=P.size+((ag.take k).flatMap shwB).length:=by rw [hI.out.1];show (P.data.toList++_).toArray.size=_;rw [List.size_toArray,List.length_append,hPz]
  have HSB:Hid ((⟨(shwB ag[k]).toArray⟩:ByteArray).size=(shwB ag[k]).length):=by show (shwB ag[k]).toArray.size=_;rw [List.size_toArray]
  obtain ⟨B,hB9⟩:∃B:ByteArray,B=⟨(shwB ag[k]).toArray⟩:=⟨_,rfl⟩
  have HB9:Hid (B=⟨(shwB ag[k]).toArray⟩):=hB9
  have hBz:S.size+B.size≤1099511627776:=by rw [hB9,HSB.out];omega
  have NXT:Hid ((S++B:ByteArray)=⟨(P.data.toList++(ag.take (k+1)).flatMap shwB).toArray⟩):=by
   show _=_
   rw [HTK.out,hI.out.1,HB9.out,bytes_app,List.append_assoc]
  have hkz:¬9223372036854775807<S.size+B.size:=by omega
  have SW2:∀w,Calls Tryz.prog 156 #[.agg #[.string ag[k].n,.int .i64 ag[k].x]] w fun e w'=>e=.returned (.string B)∧Below w.heap.size w w':=fun w=>by rw [hB9];exact SW w
  clear ra ra0 hmem SW hLL hSL hB9 HSB HB9
  generalize ag[k].n=an at *
  generalize ag[k].x=ax at *
  go_wp2_with (go_at_call 156;(with_reducible refine (SW2 _).mono ?_);rintro e w5 ⟨rfl,h5⟩)
  go_roundw
  case rel=>exact ⟨k+1,_,by omega,rfl,by go_num,by rw [ByteArray.size_append];exact hBz,NXT.out,btr hI.out.2 h5⟩
  case measure=>simp [intOf];omega
end Go.Proofs.YtdjfpghgklkejaaGreatDoor
namespace Go.Proofs.YtdjfpghgklkejaaGreatDoor
open Go.RowKit Go.Sort
set_option maxHeartbeats 2000000 in
set_option maxRecDepth 100000 in
theorem rfit_reset (nm:ByteArray) (ag:List Ar) (nu ro pl:Int) (av:Value) (w W:World) (hS:SA w av ag) (hB:Below w.heap.size w W) (_hn:nm.size≤9223372036854775807) (hl:ag.length≤9223372036854775807) (hz:∀a∈ag,a.n.size≤9223372036854775807) :
  Calls Tryz.prog 113 #[.agg #[.string ⟨#[114,101,115,101,116]⟩,.string nm,av,.int .i64 nu,.int .i64 ro,.int .i64 pl]] W fun e W'=>e=.returned (.bool (rowB ⟨wReset,nm,ag,nu,ro,pl⟩))∧Below W.heap.size W W':=by
 have AR:=fun w' h=>arguments_any ag 1 true av w w' hS h hl hz
 obtain ⟨aa,ac,rfl⟩:∃aa ac,av=.slice aa ag.length ac:=by obtain ⟨aa,ac,e,_⟩:=hS;exact ⟨aa,ac,e⟩
 have HB:Hid (Below w.heap.size w W):=hB
 have HE:Hid (rowB ⟨wReset,nm,ag,nu,ro,pl⟩=(decide (nm=⟨#[]⟩)&&decide (nu=0)&&(decide (0≤ro)&&decide (ro=0))&&((decide ((1:Int)<0) || decide ((ag.length:Int)=1))&&ag.all (argOk true)))):=rowB_reset nm ag nu ro pl
 obtain ⟨RB,hRB⟩:∃b,b=rowB ⟨wReset,nm,ag,nu,ro,pl⟩:=⟨_,rfl⟩
 rw [←hRB] at HE ⊢
 clear hRB hS hB
 generalize ((decide ((1:Int)<0) || decide ((ag.length:Int)=1))&&ag.all (argOk true))=AB at *
 have hBX:∀o,Hid (Below W.heap.size W (W.alloc o)):=fun o=>bal (Below.refl _ _) _
 have hBW:∀o,Below w.heap.size w (W.alloc o):=fun o=>bal HB.out _
 by_cases he:nm=⟨#[]⟩
 case neg=>
  have q0:=ne_lit he
  have hF:Hid (RB=false):=by show RB=false;rw [HE.out,decide_eq_false he];simp
  clear HE
  go_enter Tryz.func113,Tryz.ntmps113
  go_wp2_with (first | (go_at_call 154;(with_reducible refine (AR _ (hBW _)).mono ?_);rintro e w2 ⟨rfl,hw⟩;rw [hw];clear hw))
  go_ret
  exact ⟨by rw [hF.out];rfl,(hBX _).out⟩
 case pos=>
 subst he
 rw [decide_eq_true rfl] at HE
 by_cases hr0:ro<0
 case pos=>
  have hF:Hid (RB=false):=by show RB=false;rw [HE.out,decide_eq_false (show ¬0≤ro by omega)];simp
  clear HE
  go_enter Tryz.func113,Tryz.ntmps113
  go_wp2_with (first | (go_at_call 154;(with_reducible refine (AR _ (hBW _)).mono ?_);rintro e w2 ⟨rfl,hw⟩;rw [hw];clear hw))
  go_ret
  exact ⟨by rw [hF.out];rfl,(hBX _).out⟩
 case neg=>
 rw [decide_eq_true (show 0≤ro by omega)] at HE
 by_cases hr1:ro=0
 case neg=>
  have q1:(ro != 0)=true:=by simpa using hr1
  have hF:Hid (RB=false):=by show RB=false;rw [HE.out,decide_eq_false hr1];simp
  clear HE
  go_enter Tryz.func113,Tryz.ntmps113
  go_wp2_with (first | (go_at_call 154;(with_reducible refine (AR _ (hBW _)).mono ?_);rintro e w2 ⟨rfl,hw⟩;rw [hw];clear hw))
  go_ret
  exact ⟨by rw [hF.out];rfl,(hBX _).out⟩
 case pos=>
 subst hr1
 rw [decide_eq_true rfl] at HE
 by_cases hm0:nu<0
 case pos=>
  have hF:Hid (RB=false):=by show RB=false;rw [HE.out,decide_eq_false (show ¬nu=0 by omega)];simp
  clear HE
  go_enter Tryz.func113,Tryz.ntmps113
  go_wp2_with (first | (go_at_call 154;(with_reducible refine (AR _ (hBW _)).mono ?_);rintro e w2 ⟨rfl,hw⟩;rw [hw];clear hw))
  go_ret
  exact ⟨by rw [hF.out];rfl,(hBX _).out⟩
 case neg=>
 by_cases hm1:9007199254740991<nu
 case pos=>
  have hF:Hid (RB=false):=by show RB=false;rw [HE.out,decide_eq_false (show ¬nu=0 by omega)];simp
  clear HE
  go_enter Tryz.func113,Tryz.ntmps113
  go_wp2_with (first | (go_at_call 154;(with_reducible refine (AR _ (hBW _)).mono ?_);rintro e w2 ⟨rfl,hw⟩;rw [hw];clear hw))
  go_ret
  exact ⟨by rw [hF.out];rfl,(hBX _).out⟩
 case neg=>
 by_cases hm2:nu=0
 case neg=>
  have q2:(nu != 0)=true:=by simpa using hm2
  have hF:Hid (RB=false):=by show RB=false;rw [HE.out,decide_eq_false hm2];simp
  clear HE
  go_enter Tryz.func113,Tryz.ntmps113
  go_wp2_with (first | (go_at_call 154;(with_reducible refine (AR _ (hBW _)).mono ?_);rintro e w2 ⟨rfl,hw⟩;rw [hw];clear hw))
  go_ret
  exact ⟨by rw [hF.out];rfl,(hBX _).out⟩
 case pos=>
 subst hm2
 rw [decide_eq_true rfl] at HE
 have hF:Hid (RB=AB):=by show RB=AB;rw [HE.out];simp
 clear HE
 go_enter Tryz.func113,Tryz.ntmps113
 go_wp2_with (first | (go_at_call 154;(with_reducible refine (AR _ (hBW _)).mono ?_);rintro e w2 ⟨rfl,hw⟩;rw [hw];clear hw))
 go_ret
 exact ⟨by rw [hF.out];rfl,(hBX _).out⟩
set_option maxHeartbeats 2000000 in
set_option maxRecDepth 100000 in
theorem rfit_use (nm:ByteArray) (ag:List Ar) (nu ro pl:Int) (av:Value) (w W:World) (hS:SA w av ag) (hB:Below w.heap.size w W) (hn:nm.size≤9223372036854775807) (hl:ag.length≤9223372036854775807) (hz:∀a∈ag,a.n.size≤9223372036854775807) :
  Calls Tryz.prog 113 #[.agg #[.string ⟨#[117,115,101]⟩,.string nm,av,.int .i64 nu,.int .i64 ro,.int .i64 pl]] W fun e W'=>e=.returned (.bool (rowB ⟨wUse,nm,ag,nu,ro,pl⟩))∧Below W.heap.size W W':=by
 have AR:=fun w' h=>arguments_any ag (-1) true av w w' hS h hl hz
 have NM:=fun w=>named_any nm w hn
 obtain ⟨aa,ac,rfl⟩:∃aa ac,av=.slice aa ag.length ac:=by obtain ⟨aa,ac,e,_⟩:=hS;exact ⟨aa,ac,e⟩
 have HB:Hid (Below w.heap.size w W):=hB
 have HE:Hid (rowB ⟨wUse,nm,ag,nu,ro,pl⟩=(plnN nm&&decide (nu=0)&&(decide (0≤ro)&&decide (ro=0))&&((decide (((-1):Int)<0) || decide ((ag.length:Int)=(-1)))&&ag.all (argOk true)))):=rowB_use nm ag nu ro pl
 obtain ⟨RB,hRB⟩:∃b,b=rowB ⟨wUse,nm,ag,nu,ro,pl⟩:=⟨_,rfl⟩
 rw [←hRB] at HE ⊢
 clear hRB hS hB
 generalize ((decide (((-1):Int)<0) || decide ((ag.length:Int)=(-1)))&&ag.all (argOk true))=AB at *
 have hBX:∀o,Hid (Below W.heap.size W (W.alloc o)):=fun o=>bal (Below.refl _ _) _
 have hBW:∀o,Below w.heap.size w (W.alloc o):=fun o=>bal HB.out _
 by_cases he:nm=⟨#[]⟩
 case pos=>
  subst he
  have hp0:plnN ⟨#[]⟩=false:=by decide
  have hF:Hid (RB=false):=by show RB=false;rw [HE.out,hp0];simp
  clear HE
  go_enter Tryz.func113,Tryz.ntmps113
  go_wp2_with (first | (go_at_call 153;(with_reducible refine (NM _).mono ?_);rintro e w1 ⟨rfl,hw⟩;rw [hw];clear hw) | (go_at_call 154;(with_reducible refine (AR _ (hBW _)).mono ?_);rintro e w2 ⟨rfl,hw⟩;rw [hw];clear hw))
  go_ret
  exact ⟨by rw [hF.out];rfl,(hBX _).out⟩
 case neg=>
 have q0:=ne_lit he
 clear he
 cases hp:plnN nm with
 | false=>
  rw [hp] at NM
  have hF:Hid (RB=false):=by show RB=false;rw [HE.out,hp];simp
  clear HE
  go_enter Tryz.func113,Tryz.ntmps113
  go_wp2_with (first | (go_at_call 153;(with_reducible refine (NM _).mono ?_);rintro e w1 ⟨rfl,hw⟩;rw [hw];clear hw) | (go_at_call 154;(with_reducible refine (AR _ (hBW _)).mono ?_);rintro e w2 ⟨rfl,hw⟩;rw [hw];clear hw))
  go_ret
  exact ⟨by rw [hF.out];rfl,(hBX _).out⟩
 | true=>
 rw [hp] at NM HE
 clear hp
 by_cases hr0:ro<0
 case pos=>
  have hF:Hid (RB=false):=by show RB=false;rw [HE.out,decide_eq_false (show ¬0≤ro by omega)];simp
  clear HE
  go_enter Tryz.func113,Tryz.ntmps113
  go_wp2_with (first | (go_at_call 153;(with_reducible refine (NM _).mono ?_);rintro e w1 ⟨rfl,hw⟩;rw [hw];clear hw) | (go_at_call 154;(with_reducible refine (AR _ (hBW _)).mono ?_);rintro e w2 ⟨rfl,hw⟩;rw [hw];clear hw))
  go_ret
  exact ⟨by rw [hF.out];rfl,(hBX _).out⟩
 case neg=>
 rw [decide_eq_true (show 0≤ro by omega)] at HE
 by_cases hr1:ro=0
 case neg=>
  have q1:(ro != 0)=true:=by simpa using hr1
  have hF:Hid (RB=false):=by show RB=false;rw [HE.out,decide_eq_false hr1];simp
  clear HE
  go_enter Tryz.func113,Tryz.ntmps113
  go_wp2_with (first | (go_at_call 153;(with_reducible refine (NM _).mono ?_);rintro e w1 ⟨rfl,hw⟩;rw [hw];clear hw) | (go_at_call 154;(with_reducible refine (AR _ (hBW _)).mono ?_);rintro e w2 ⟨rfl,hw⟩;rw [hw];clear hw))
  go_ret
  exact ⟨by rw [hF.out];rfl,(hBX _).out⟩
 case pos=>
 subst hr1
 rw [decide_eq_true rfl] at HE
 by_cases hm0:nu<0
 case pos=>
  have hF:Hid (RB=false):=by show RB=false;rw [HE.out,decide_eq_false (show ¬nu=0 by omega)];simp
  clear HE
  go_enter Tryz.func113,Tryz.ntmps113
  go_wp2_with (first | (go_at_call 153;(with_reducible refine (NM _).mono ?_);rintro e w1 ⟨rfl,hw⟩;rw [hw];clear hw) | (go_at_call 154;(with_reducible refine (AR _ (hBW _)).mono ?_);rintro e w2 ⟨rfl,hw⟩;rw [hw];clear hw))
  go_ret
  exact ⟨by rw [hF.out];rfl,(hBX _).out⟩
 case neg=>
 by_cases hm1:9007199254740991<nu
 case pos=>
  have hF:Hid (RB=false):=by show RB=false;rw [HE.out,decide_eq_false (show ¬nu=0 by omega)];simp
  clear HE
  go_enter Tryz.func113,Tryz.ntmps113
  go_wp2_with (first | (go_at_call 153;(with_reducible refine (NM _).mono ?_);rintro e w1 ⟨rfl,hw⟩;rw [hw];clear hw) | (go_at_call 154;(with_reducible refine (AR _ (hBW _)).mono ?_);rintro e w2 ⟨rfl,hw⟩;rw [hw];clear hw))
  go_ret
  exact ⟨by rw [hF.out];rfl,(hBX _).out⟩
 case neg=>
 by_cases hm2:nu=0
 case neg=>
  have q2:(nu != 0)=true:=by simpa using hm2
  have hF:Hid (RB=false):=by show RB=false;rw [HE.out,decide_eq_false hm2];simp
  clear HE
  go_enter Tryz.func113,Tryz.ntmps113
  go_wp2_with (first | (go_at_call 153;(with_reducible refine (NM _).mono ?_);rintro e w1 ⟨rfl,hw⟩;rw [hw];clear hw) | (go_at_call 154;(with_reducible refine (AR _ (hBW _)).mono ?_);rintro e w2 ⟨rfl,hw⟩;rw [hw];clear hw))
  go_ret
  exact ⟨by rw [hF.out];rfl,(hBX _).out⟩
 case pos=>
 subst hm2
 rw [decide_eq_true rfl] at HE
 have hF:Hid (RB=AB):=by show RB=AB;rw [HE.out];simp
 clear HE
 go_enter Tryz.func113,Tryz.ntmps113
 go_wp2_with (first | (go_at_call 153;(with_reducible refine (NM _).mono ?_);rintro e w1 ⟨rfl,hw⟩;rw [hw];clear hw) | (go_at_call 154;(with_reducible refine (AR _ (hBW _)).mono ?_);rintro e w2 ⟨rfl,hw⟩;rw [hw];clear hw))
 go_ret
 exact ⟨by rw [hF.out];rfl,(hBX _).out⟩
end Go.Proofs.YtdjfpghgklkejaaGreatDoor
