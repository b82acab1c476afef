import PyProof.Rows.All
import Wide.All
import OpenK.AllK
import Wide.FinOn
import HandS.ForMost
import HandS.ForExc
import HandS.Wide
import HandS.IsInst
import HandS.SortInts
import HandS.Codes
import HandS.ExcInit
import HandS.ExcField
import HandS.ExcIs
import KE.DatumOrd
import KE.KExcIs
import HandS.SortKw
import HandS.TryMany
import HandS.ExcOwn
import HandS.FStr
import HandS.Text
import HandS.Dict
import HandS.Defaults
import HandS.Rev
import HandS.Conv
import HandS.RaiseMore
import HandS.Walk
import HandS.CallSlots
import HandS.MakeKwOnly
import HandS.OwnEq
import HandS.MakeKw
import HandS.ClsMeth
import PyProof.Rows.SortStr
import PyProof.Rows.SortKeyStr
import HandS.SetKeys
import HandS.ExcValue
import HandS.Property
import HandS.StrMore
import HandS.DictComp
import HandS.NoneIn
import HandS.ListItems
import HandS.SortRule
import HandS.OwnIter
import HandS.IterVal
import PyProof.FString5
import PySem.Challenge.RW_outshiners_k07_webs_refuse_in_order
set_option Elab.async false
set_option linter.all false
set_option maxRecDepth 100000
namespace Z
open PySem PySem.Spec PyProof.Rows L2
structure Has (P : Program) (w : World) (K : PySem.W.Frag) (mg : Str → Option Value) (base : Heap) (x : Str) (k : Nat) (ps : List Str) (sp : Sp) : Prop where
  ex : ∃ f fd, FnOk P w K mg base CX0 k f fd ps sp ∧ mg x = some (.ref f) ∧ PySem.W.keepIn K (.ref f) = true ∧ Binds K fd ps []
section
variable {P : Program} {w : World} {K : PySem.W.Frag} {mg : Str → Option Value} {base : Heap}
theorem Has.mono {x : Str} {j k : Nat} {ps : List Str} {sp : Sp} (h : Has P w K mg base x j ps sp) (l : j ≤ k) : Has P w K mg base x k ps sp := by
  obtain ⟨f, fd, F, r⟩ := h.ex
  exact ⟨f, fd, F.mono l, r⟩
end
theorem pe_callH {X : Cx} {x : Str} {k : Nat} {ps : List Str} {sp : Sp} {e : Expr} {es : List Expr} {t : TA} {p pos : Pos} (h : Has X.prog X.w X.K X.mg X.base x k ps sp) (hr : Room k X.A) (hg : Gl X x) (ha : PA X (e :: es) t)
    (hdb : (x == ("__debug__" : Str)) = false := by decide) (he : starEach (e :: es) X.env = (false, eval e X.env) :: starEach es X.env := by rfl) (hpl : (backTo pos (starEach es X.env)).any (·.1) = false := by rfl) :
    PE X (.Call (.Name x p) (e :: es) [] pos) (tCall sp [] E0 t) := by
  obtain ⟨f, fd, F, hm, hk, hb⟩ := h.ex
  exact pe_call F hr hg hm hk hb .nil pass0 ha hdb he hpl
theorem sl_of' {K : PySem.W.Frag} {H : Hp} {a : Addr} {xs : List V} (h : H a = some (.lst xs)) : SqL K H a xs := .inl (.inl h)
section
variable {σ : L2.St} {H : Hp} {D : Ends} {t u : TS} {te ta tb : TE} {tt tu : TT} {Q : VK} {i : Nat} {v x : V} {r : R2} {tA tR : TA} {QA : List V → Hp → Prop} {QT : Bool → Hp → Prop}
theorem rd_seq (h : t { D with nx := u D } σ H) : tSeq t u D σ H := h
theorem rd_asg (h : te σ H fun x H1 => D.nx (σ.set i (some x)) H1) : tAsg te (gName i) D σ H := h
theorem rd_asgS {to ti : TE} {ts : TSet} (h : te σ H fun x H1 => to σ H1 fun o H1 => ti σ H1 fun i H2 => ts o i x H2 fun H3 => D.nx σ H3) : tAsg te (gSub to ti ts) D σ H := h
theorem rd_ret (h : te σ H D.rt) : tRet te D σ H := h
theorem rd_ifS (h : tt σ H fun b H1 => if b = true then t D σ H1 else u D σ H1) : tIfS tt t u D σ H := h
theorem rd_next (h : D.nx σ H) : tNext D σ H := h
theorem rd_drop (h : te σ H fun _ H1 => D.nx σ H1) : tDrop te D σ H := h
theorem rd_var (e : σ[i]? = some (some v)) (h : Q v H) : tVar i σ H Q := ⟨v, e, h⟩
theorem rd_c (h : Q v H) : tC v σ H Q := h
theorem rd_op (h : ta σ H fun x H1 => tb σ H1 fun y H2 => r x y H2 Q) : tOp r ta tb σ H Q := h
theorem rd_un {r : V → Hp → VK → Prop} (h : ta σ H fun x H1 => r x H1 Q) : tUn r ta σ H Q := h
theorem rd_nil (h : QA [] H) : tNil σ H QA := h
theorem rd_cons (h : ta σ H fun x H1 => tR σ H1 fun xs H2 => QA (x :: xs) H2) : tCons ta tR σ H QA := h
theorem rd_cb {r : List V → Hp → VK → Prop} (h : tA σ H fun vs H1 => r vs H1 Q) : tCB r tA σ H Q := h
theorem rd_call {sp : Sp} {E : XK} (h : tA σ H fun vs H1 => sp vs H1 Q E) : tCall sp [] E tA σ H Q := by
  show tA σ H fun vs H1 => sp (vs ++ []) H1 Q E
  simp only [List.append_nil]
  exact h
theorem rd_test (h : te σ H fun x H' => ∃ k, x = .bl k ∧ QT k H') : tTest te σ H QT := h
theorem rd_tB (h : te σ H fun x H' => ∃ k, x = .bl k ∧ QT k H') : tB te σ H QT := h
theorem rd_bx {b : Bool} {R : Bool → Prop} (h : R b) : ∃ k, V.bl b = .bl k ∧ R k := ⟨b, rfl, h⟩
theorem rd_nn {R : Prop} (h : R) : V.non = V.non ∧ R := ⟨rfl, h⟩
theorem rd_not (h : tt σ H fun c H1 => QT (!c) H1) : tNot tt σ H QT := h
theorem rd_and (h : tt σ H fun c H1 => if c = true then tu σ H1 QT else QT false H1) : tAnd tt tu σ H QT := h
theorem rd_or (h : tt σ H fun c H1 => if c = true then QT true H1 else tu σ H1 QT) : tOr tt tu σ H QT := h
theorem rd_andV (h : ta σ H fun x H1 => ∃ c, x = .bl c ∧ if c = true then tb σ H1 Q else Q (.bl false) H1) : tAndV ta tb σ H Q := h
theorem rd_orV (h : ta σ H fun x H1 => ∃ c, x = .bl c ∧ if c = true then Q (.bl true) H1 else tb σ H1 Q) : tOrV ta tb σ H Q := h
theorem rd_notV (h : ta σ H fun x H1 => ∃ c, x = .bl c ∧ Q (.bl (!c)) H1) : tNotV ta σ H Q := h
theorem rd_if (h : tt σ H fun c H1 => if c = true then ta σ H1 Q else tb σ H1 Q) : tIf tt ta tb σ H Q := h
theorem rd_I0 {g : Int → Int → V} {i j : Int} (h : Q (g i j) H) : rI0 g (.int i) (.int j) H Q := ⟨i, j, rfl, rfl, h⟩
theorem rd_I {C : Int → Int → Prop} {g : Int → Int → V} {i j : Int} (c : C i j) (h : Q (g i j) H) : rI C g (.int i) (.int j) H Q := ⟨i, j, rfl, rfl, c, h⟩
theorem rd_U {g : Int → V} {i : Int} (h : Q (g i) H) : rU g (.int i) H Q := ⟨i, rfl, h⟩
theorem rd_eqI {i j : Int} (h : Q (.bl (decide (i = j))) H) : rEq (.int i) (.int j) H Q := ⟨rfl, by
  have e : decide (V.int i = V.int j) = decide (i = j) := by simp
  rw [e]; exact h⟩
theorem rd_neI {i j : Int} (h : Q (.bl (!decide (i = j))) H) : rNe (.int i) (.int j) H Q := ⟨rfl, by
  have e : decide (V.int i = V.int j) = decide (i = j) := by simp
  rw [e]; exact h⟩
theorem rd_lst (h : tA σ H fun xs H1 => xs.length ≤ sizeLine ∧ ∀ p, H1 p = none → Q (.ref p) (upd H1 p (.lst xs))) : tLst tA σ H Q := h
theorem rd_tup (h : tA σ H fun xs H1 => xs.length ≤ sizeLine ∧ ∀ p, H1 p = none → Q (.ref p) (upd H1 p (.tup xs))) : tTup tA σ H Q := h
theorem rd_sl {r : V → Option Int → Option Int → Hp → VK → Prop} {tl th : TO} (h : te σ H fun x H1 => tl σ H1 fun l H2 => th σ H2 fun u H3 => r x l u H3 Q) : tSl r te tl th σ H Q := h
theorem rd_bm {K : PySem.W.Frag} {T : String} {r : V → List V → Hp → VK → Prop} (h : te σ H fun x H1 => tyV K T x H1 ∧ tA σ H1 fun xs H2 => r x xs H2 Q) : tBM K T r te tA σ H Q := h
theorem rd_chain {r r' : R2} {tc : TE} (h : ta σ H fun x H1 => tb σ H1 fun y H2 => r x y H2 fun z H3 => ∃ k, z = .bl k ∧ if k = true then tc σ H3 fun z' H4 => r' y z' H4 Q else Q (.bl false) H3) : tChain r r' ta tb tc σ H Q := h
theorem rd_int1 {i : Int} {R : Int → Prop} {R' : Bool → Prop} (h : R i) : (∃ j, [V.int i] = [V.int j] ∧ R j) ∨ (∃ k, [V.int i] = [V.bl k] ∧ R' k) := .inl ⟨i, rfl, h⟩
theorem rd_max2 {i j : Int} {R : Int → Int → Prop} (h : R i j) : ∃ i' j', [V.int i, V.int j] = [V.int i', V.int j'] ∧ R i' j' := ⟨i, j, rfl, h⟩
theorem rd_min2 {i j : Int} {R : Int → Int → Prop} (h : R i j) : ∃ i' j', [V.int i, V.int j] = [V.int i', V.int j'] ∧ R i' j' := ⟨i, j, rfl, h⟩
theorem rd_ixL {K : PySem.W.Frag} {p : Addr} {xs : List V} {i : Int} {v : V} {Q : VK} (h : H p = some (.lst xs)) (e : atI xs i = some v) (q : Q v H) : rIxL K (.ref p) (.int i) H Q := ⟨p, xs, i, v, rfl, rfl, .inl (.inl h), e, q⟩
theorem rd_setL {p : Addr} {xs : List V} {k : Int} {j : Nat} {v : V} {Q : Hp → Prop} (h : H p = some (.lst xs)) (e : ixN xs.length k = some j) (q : Q (upd H p (.lst (xs.set j v)))) : rSetL (.ref p) (.int k) v H Q := ⟨p, xs, k, j, rfl, rfl, h, e, q⟩
theorem rd_part {te : TE} {Q : Option Int → Hp → Prop} (h : te σ H fun x H1 => ∃ i, x = .int i ∧ Q (some i) H1) : tPart te σ H Q := h
theorem rd_nopart {Q : Option Int → Hp → Prop} (h : Q none H) : tNoPart σ H Q := h
theorem rd_cut (Mid : L2.St → Hp → Prop) (h : t { D with nx := Mid } σ H) (h2 : ∀ σ' H', Mid σ' H' → u D σ' H') : C8.tCut t u D σ H := ⟨Mid, h, h2⟩
theorem rd_setS {p : Addr} {xs : List V} {k : Int} {j : Nat} {v : V} {Q : Hp → Prop} (e : ixN xs.length k = some j) (q : Q (upd H p (.lst (xs.set j v)))) : rSetL (.ref p) (.int k) v (upd H p (.lst xs)) Q := ⟨p, xs, k, j, rfl, rfl, upd_same, e, by rw [upd_upd]; exact q⟩
theorem rd_p9 {Q : VK} (h : Q (.int 1000000000) H) : rI CPow (fun i j => .int (i ^ j.toNat)) (.int 10) (.int 9) H Q := ⟨10, 9, rfl, rfl, ⟨by decide, by decide, by decide⟩, h⟩
theorem rd_p11 {Q : VK} (h : Q (.int 100000000000) H) : rI CPow (fun i j => .int (i ^ j.toNat)) (.int 10) (.int 11) H Q := ⟨10, 11, rfl, rfl, ⟨by decide, by decide, by decide⟩, h⟩
theorem rd_p12 {Q : VK} (h : Q (.int 1000000000000) H) : rI CPow (fun i j => .int (i ^ j.toNat)) (.int 10) (.int 12) H Q := ⟨10, 12, rfl, rfl, ⟨by decide, by decide, by decide⟩, h⟩
theorem rd_p13 {Q : VK} (h : Q (.int 10000000000000) H) : rI CPow (fun i j => .int (i ^ j.toNat)) (.int 10) (.int 13) H Q := ⟨10, 13, rfl, rfl, ⟨by decide, by decide, by decide⟩, h⟩
theorem rd_p18 {Q : VK} (h : Q (.int 1000000000000000000) H) : rI CPow (fun i j => .int (i ^ j.toNat)) (.int 10) (.int 18) H Q := ⟨10, 18, rfl, rfl, ⟨by decide, by decide, by decide⟩, h⟩
theorem rd_p30 {Q : VK} (h : Q (.int 1000000000000000000000000000000) H) : rI CPow (fun i j => .int (i ^ j.toNat)) (.int 10) (.int 30) H Q := ⟨10, 30, rfl, rfl, ⟨by decide, by decide, by decide⟩, h⟩
theorem rd_p40 {Q : VK} (h : Q (.int 10000000000000000000000000000000000000000) H) : rI CPow (fun i j => .int (i ^ j.toNat)) (.int 10) (.int 40) H Q := ⟨10, 40, rfl, rfl, ⟨by decide, by decide, by decide⟩, h⟩
theorem rd_seqL {K : PySem.W.Frag} {a : Addr} {xs : List V} {R : List V → Prop} (h : H a = some (.lst xs)) (q : R xs) : ∃ p ys, [V.ref a] = [V.ref p] ∧ (SqL K H p ys ∨ SqT K H p ys) ∧ R ys := ⟨a, xs, rfl, .inl (.inl (.inl h)), q⟩
theorem rd_seqT {K : PySem.W.Frag} {a : Addr} {xs : List V} {R : List V → Prop} (h : H a = some (.tup xs)) (q : R xs) : ∃ p ys, [V.ref a] = [V.ref p] ∧ (SqL K H p ys ∨ SqT K H p ys) ∧ R ys := ⟨a, xs, rfl, .inr (.inl (.inl h)), q⟩
theorem atI_get {xs : List V} {i : Int} (h0 : 0 ≤ i) (h1 : i < xs.length) : ∃ (hb : i.toNat < xs.length), atI xs i = some (xs[i.toNat]'hb) := by
  have hb : i.toNat < xs.length := by omega
  refine ⟨hb, ?_⟩
  unfold atI ixN
  rw [if_pos h0, if_pos h1]
  simp [hb]
theorem atI_ints {xs : List Int} {i : Int} (h0 : 0 ≤ i) (h1 : i < xs.length) : ∃ n, n ∈ xs ∧ xs[i.toNat]? = some n ∧ atI (xs.map V.int) i = some (.int n) := by
  have hb : i.toNat < xs.length := by omega
  refine ⟨xs[i.toNat], List.getElem_mem hb, by simp [hb], ?_⟩
  unfold atI ixN
  rw [if_pos h0, if_pos (by simpa using h1)]
  simp [hb]
theorem rd_for {wi : TI} {g : TG} {tb : TS} (h : wi σ H fun J H1 => ∃ W : Nat → Nat → L2.St → Hp → Prop, (∃ m, W 0 m σ H1) ∧ ∀ i m σ H, W i m σ H →
  (J.stop i H ∧ D.nx σ H) ∨ (J.go i H ∧ ∃ N : L2.St → Hp → Prop, (∀ σ' H', N σ' H' → ∃ m', m' < m ∧ W (i + 1) m' σ' H') ∧ ∀ x H', J.yld i H x H' → g x σ H' fun σ2 H2 => tb { D with nx := N, ct := N, bk := D.nx } σ2 H2)) : tFor wi g tb D σ H := h
theorem rd_iRng1 {ta : TA} {R : It → Hp → Prop} (h : ta σ H fun vs H1 => ∃ j : Int, vs = [.int j] ∧ -(2 ^ 62) ≤ j ∧ j < 2 ^ 62 ∧ R (Itr 0 j.toNat) H1) : iRng1 ta σ H R := h
theorem rd_iList {K : PySem.W.Frag} {R : It → Hp → Prop} (h : te σ H fun x H1 => ∃ a, x = .ref a ∧ (∃ xs, SqL K H1 a xs) ∧ R (Itl K a) H1) : iList K te σ H R := h
theorem for_rng {n : Nat} {k : Nat} {tb : TS} (Pv : Nat → L2.St → Hp → Prop) (h0 : Pv 0 σ H)
    (hs : ∀ i σ H, i < n → Pv i σ H → tb { D with nx := Pv (i + 1), ct := Pv (i + 1), bk := D.nx } (σ.set k (some (.int i))) H) (hd : ∀ σ H, Pv n σ H → D.nx σ H) :
    ∃ W : Nat → Nat → L2.St → Hp → Prop, (∃ m, W 0 m σ H) ∧ ∀ i m σ H, W i m σ H →
      ((Itr 0 n).stop i H ∧ D.nx σ H) ∨ ((Itr 0 n).go i H ∧ ∃ N : L2.St → Hp → Prop, (∀ σ' H', N σ' H' → ∃ m', m' < m ∧ W (i + 1) m' σ' H') ∧ ∀ x H', (Itr 0 n).yld i H x H' → gName k x σ H' fun σ2 H2 => tb { D with nx := N, ct := N, bk := D.nx } σ2 H2) := by
  refine for_range (lo := 0) Pv h0 (fun i σ H hi hp => ?_) hd
  have e : (V.int (0 + (i : Int))) = V.int i := by rw [Int.zero_add]
  rw [e]
  exact hs i σ H hi hp
theorem for_lst {K : PySem.W.Frag} {a : Addr} {xs : List V} {k : Nat} {tb : TS} (Pv : Nat → L2.St → Hp → Prop) (h0 : Pv 0 σ H) (hl : ∀ i σ H, Pv i σ H → H a = some (.lst xs))
    (hs : ∀ i x σ H, xs[i]? = some x → Pv i σ H → tb { D with nx := Pv (i + 1), ct := Pv (i + 1), bk := D.nx } (σ.set k (some x)) H) (hd : ∀ σ H, Pv xs.length σ H → D.nx σ H) :
    ∃ W : Nat → Nat → L2.St → Hp → Prop, (∃ m, W 0 m σ H) ∧ ∀ i m σ H, W i m σ H →
      ((Itl K a).stop i H ∧ D.nx σ H) ∨ ((Itl K a).go i H ∧ ∃ N : L2.St → Hp → Prop, (∀ σ' H', N σ' H' → ∃ m', m' < m ∧ W (i + 1) m' σ' H') ∧ ∀ x H', (Itl K a).yld i H x H' → gName k x σ H' fun σ2 H2 => tb { D with nx := N, ct := N, bk := D.nx } σ2 H2) :=
  for_list Pv h0 (fun i σ H _ hp => sl_of' (hl i σ H hp)) hs hd
theorem kb_NoneType_int : kitB "NoneType" "int" = some false := by decide +kernel
theorem kb_NoneType_bool : kitB "NoneType" "bool" = some false := by decide +kernel
theorem kb_NoneType_str : kitB "NoneType" "str" = some false := by decide +kernel
theorem kb_NoneType_list : kitB "NoneType" "list" = some false := by decide +kernel
theorem kb_NoneType_tuple : kitB "NoneType" "tuple" = some false := by decide +kernel
theorem kb_NoneType_dict : kitB "NoneType" "dict" = some false := by decide +kernel
theorem kb_bool_int : kitB "bool" "int" = some true := by decide +kernel
theorem kb_bool_bool : kitB "bool" "bool" = some true := by decide +kernel
theorem kb_bool_str : kitB "bool" "str" = some false := by decide +kernel
theorem kb_bool_list : kitB "bool" "list" = some false := by decide +kernel
theorem kb_bool_tuple : kitB "bool" "tuple" = some false := by decide +kernel
theorem kb_bool_dict : kitB "bool" "dict" = some false := by decide +kernel
theorem kb_int_int : kitB "int" "int" = some true := by decide +kernel
theorem kb_int_bool : kitB "int" "bool" = some false := by decide +kernel
theorem kb_int_str : kitB "int" "str" = some false := by decide +kernel
theorem kb_int_list : kitB "int" "list" = some false := by decide +kernel
theorem kb_int_tuple : kitB "int" "tuple" = some false := by decide +kernel
theorem kb_int_dict : kitB "int" "dict" = some false := by decide +kernel
theorem kb_str_int : kitB "str" "int" = some false := by decide +kernel
theorem kb_str_bool : kitB "str" "bool" = some false := by decide +kernel
theorem kb_str_str : kitB "str" "str" = some true := by decide +kernel
theorem kb_str_list : kitB "str" "list" = some false := by decide +kernel
theorem kb_str_tuple : kitB "str" "tuple" = some false := by decide +kernel
theorem kb_str_dict : kitB "str" "dict" = some false := by decide +kernel
theorem kb_list_int : kitB "list" "int" = some false := by decide +kernel
theorem kb_list_bool : kitB "list" "bool" = some false := by decide +kernel
theorem kb_list_str : kitB "list" "str" = some false := by decide +kernel
theorem kb_list_list : kitB "list" "list" = some true := by decide +kernel
theorem kb_list_tuple : kitB "list" "tuple" = some false := by decide +kernel
theorem kb_list_dict : kitB "list" "dict" = some false := by decide +kernel
theorem kb_tuple_int : kitB "tuple" "int" = some false := by decide +kernel
theorem kb_tuple_bool : kitB "tuple" "bool" = some false := by decide +kernel
theorem kb_tuple_str : kitB "tuple" "str" = some false := by decide +kernel
theorem kb_tuple_list : kitB "tuple" "list" = some false := by decide +kernel
theorem kb_tuple_tuple : kitB "tuple" "tuple" = some true := by decide +kernel
theorem kb_tuple_dict : kitB "tuple" "dict" = some false := by decide +kernel
theorem rd_isi {K : PySem.W.Frag} {a n : String} {b : Bool} (ty : TyOf K H x (.type a)) (k : kitB a n = some b) (q : Q (.bl b) H) : rIsi K [x, .ty n] H Q := ⟨x, .ty n, .type a, .type n, b, rfl, .ty n, .base ty, kit_ty k, q⟩
theorem pe_globI {X : Cx} {x : Str} {n : Int} {pos : Pos} (hg : Gl X x) (hm : ∃ t, X.mg x = some (.int n t)) (hd : (x == ("__debug__" : Str)) = false := by decide) : PE X (.Name x pos) (tC (.int n)) := by
  obtain ⟨t, e⟩ := hm
  exact pe_glob hg e ⟨t, rfl⟩ hd
theorem if_nf {A B : Prop} (h : A) : if (!false) = true then A else B := iteT h
theorem if_nt {A B : Prop} (h : B) : if (!true) = true then A else B := iteF h
theorem if_nn {A B : Prop} (h : A) : if decide (V.non = V.non) = true then A else B := by rw [decide_eq_true rfl]; exact iteT h
theorem if_nnN {A B : Prop} (h : B) : if (!decide (V.non = V.non)) = true then A else B := by rw [decide_eq_true rfl]; exact iteF h
theorem if_n_int {i : Int} {A B : Prop} (h : B) : if decide (V.int i = V.non) = true then A else B := by rw [decide_eq_false (fun e => nomatch e)]; exact iteF h
theorem if_nN_int {i : Int} {A B : Prop} (h : A) : if (!decide (V.int i = V.non)) = true then A else B := by rw [decide_eq_false (fun e => nomatch e)]; exact iteT h
theorem if_n_bl {b : Bool} {A B : Prop} (h : B) : if decide (V.bl b = V.non) = true then A else B := by rw [decide_eq_false (fun e => nomatch e)]; exact iteF h
theorem if_nN_bl {b : Bool} {A B : Prop} (h : A) : if (!decide (V.bl b = V.non)) = true then A else B := by rw [decide_eq_false (fun e => nomatch e)]; exact iteT h
theorem if_n_str {x : Str} {A B : Prop} (h : B) : if decide (V.str x = V.non) = true then A else B := by rw [decide_eq_false (fun e => nomatch e)]; exact iteF h
theorem if_nN_str {x : Str} {A B : Prop} (h : A) : if (!decide (V.str x = V.non)) = true then A else B := by rw [decide_eq_false (fun e => nomatch e)]; exact iteT h
theorem if_n_ref {a : Addr} {A B : Prop} (h : B) : if decide (V.ref a = V.non) = true then A else B := by rw [decide_eq_false (fun e => nomatch e)]; exact iteF h
theorem if_nN_ref {a : Addr} {A B : Prop} (h : A) : if (!decide (V.ref a = V.non)) = true then A else B := by rw [decide_eq_false (fun e => nomatch e)]; exact iteT h
theorem rd_eqB {i j : Bool} {Q : VK} (h : Q (.bl (decide (V.bl i = V.bl j))) H) : rEq (.bl i) (.bl j) H Q := ⟨rfl, h⟩
theorem rd_neB {i j : Bool} {Q : VK} (h : Q (.bl (!decide (i = j))) H) : rNe (.bl i) (.bl j) H Q := ⟨rfl, by
  have e : decide (V.bl i = V.bl j) = decide (i = j) := by simp
  rw [e]; exact h⟩
theorem rd_eqS {i j : Str} {Q : VK} (h : Q (.bl (decide (V.str i = V.str j))) H) : rEq (.str i) (.str j) H Q := ⟨rfl, h⟩
theorem if_dec {p : Prop} [Decidable p] {A B : Prop} (h1 : p → A) (h2 : ¬ p → B) : if decide p = true then A else B := by
  by_cases c : p
  · rw [if_pos (decide_eq_true c)]; exact h1 c
  · rw [if_neg (fun e => c (of_decide_eq_true e))]; exact h2 c
theorem if_ndec {p : Prop} [Decidable p] {A B : Prop} (h1 : ¬ p → A) (h2 : p → B) : if (!decide p) = true then A else B := by
  by_cases c : p
  · rw [decide_eq_true c]; exact iteF (h2 c)
  · rw [decide_eq_false c]; exact iteT (h1 c)
theorem if_bool {b : Bool} {A B : Prop} (h1 : b = true → A) (h2 : b = false → B) : if b = true then A else B := by
  cases b with
  | true => exact iteT (h1 rfl)
  | false => exact iteF (h2 rfl)
theorem if_nbool {b : Bool} {A B : Prop} (h1 : b = false → A) (h2 : b = true → B) : if (!b) = true then A else B := by
  cases b with
  | true => exact iteF (h2 rfl)
  | false => exact iteT (h1 rfl)
end
abbrev Sto := Addr × Addr
def StoreOk (S : Sto) (H : Hp) : Prop := ∃ (cells : List Int) (a b c d e f : Int), S.2 ≠ S.1 ∧ H S.1 = some (.lst [.ref S.2, .int a, .int b, .int c, .int d, .int e, .int f]) ∧ H S.2 = some (.lst (cells.map V.int)) ∧ 0 ≤ a ∧ 0 ≤ e ∧ e < 2147483647 ∧ 0 ≤ f ∧ f < 2147483647
def At (S : Sto) (H : Hp) (p : Addr) (o : HO) : Prop := p ≠ S.1 ∧ H p = some o
def ExS (S : Sto) (H H' : Hp) : Prop := ∀ p o, p ≠ S.1 → H p = some o → H' p = some o
theorem ExS.refl (S : Sto) (H : Hp) : ExS S H H := fun _ _ _ h => h
theorem ExS.trans {S : Sto} {H H1 H2 : Hp} (a : ExS S H H1) (b : ExS S H1 H2) : ExS S H H2 := fun p o n h => b p o n (a p o n h)
theorem ExS.updS {S : Sto} {H : Hp} {o : HO} : ExS S H (upd H S.1 o) := fun p u n h => by rw [upd_ne n]; exact h
theorem ExS.new {S : Sto} {H : Hp} {p : Addr} {o : HO} (h : H p = none) : ExS S H (upd H p o) := fun a u _ e => by rw [upd_ne (ne_of_none e h)]; exact e
theorem ExS.mut {S : Sto} {H H' : Hp} {p : Addr} {o : HO} (e : ExS S H H') (h : H p = none) : ExS S H (upd H' p o) := fun a u n ha => by rw [upd_ne (ne_of_none ha h)]; exact e a u n ha
theorem At.back {S : Sto} {H H' : Hp} {p : Addr} {o : HO} (e : ExS S H H') (h : At S H p o) : At S H' p o := ⟨h.1, e p o h.1 h.2⟩
theorem StoreOk.ne1 {S : Sto} {H : Hp} {p : Addr} (s : StoreOk S H) (h : H p = none) : p ≠ S.1 := by
  obtain ⟨_, _, _, _, _, _, _, _, hs, _⟩ := s
  exact fun e => (by rw [e, hs] at h; cases h)
theorem StoreOk.ne2 {S : Sto} {H : Hp} {p : Addr} (s : StoreOk S H) (h : H p = none) : p ≠ S.2 := by
  obtain ⟨_, _, _, _, _, _, _, _, _, hs, _⟩ := s
  exact fun e => (by rw [e, hs] at h; cases h)
theorem At.new {S : Sto} {H : Hp} {p : Addr} {o : HO} (s : StoreOk S H) (h : H p = none) : At S (upd H p o) p o := ⟨s.ne1 h, upd_same⟩
theorem store_upd {S : Sto} {p : Addr} {H : Hp} {o : HO} (s : StoreOk S H) (n : p ≠ S.1) (n2 : p ≠ S.2) : StoreOk S (upd H p o) := by
  obtain ⟨cells, a, b, c, d, e, f, n', hs, hq, r⟩ := s
  exact ⟨cells, a, b, c, d, e, f, n', by rw [upd_ne (Ne.symm n)]; exact hs, by rw [upd_ne (Ne.symm n2)]; exact hq, r⟩
theorem StoreOk.new {S : Sto} {H : Hp} {p : Addr} {o : HO} (s : StoreOk S H) (h : H p = none) : StoreOk S (upd H p o) := store_upd s (s.ne1 h) (s.ne2 h)
theorem StoreOk.same {S : Sto} {H H' : Hp} (s : StoreOk S H) (e : Same H H') : StoreOk S H' := by
  obtain ⟨cells, a, b, c, d, e', f, n, hs, hq, r⟩ := s
  exact ⟨cells, a, b, c, d, e', f, n, e _ _ hs, e _ _ hq, r⟩
theorem upd_id {H : Hp} {p : Addr} {o : HO} (h : H p = some o) : upd H p o = H := by
  funext b; unfold upd; split
  · rename_i e; rw [e, h]
  · rfl
theorem same_mut {H H' : Hp} {p : Addr} {o : HO} (e : Same H H') (h : H p = none) : Same H (upd H' p o) := fun b x hb => by rw [upd_ne (ne_of_none hb h)]; exact e b x hb
theorem ixN_nat {n : Nat} {i : Int} (h0 : 0 ≤ i) (h1 : i < n) : ixN n i = some i.toNat := by unfold ixN; rw [if_pos h0, if_pos h1]
theorem get_map {α : Type} {xs : List α} {f : α → V} {i : Nat} {x : V} (h : (xs.map f)[i]? = some x) : ∃ n, xs[i]? = some n ∧ x = f n := by
  rw [List.getElem?_map] at h
  cases e : xs[i]? with
  | none => rw [e] at h; cases h
  | some n => rw [e] at h; exact ⟨n, rfl, (Option.some.inj h).symm⟩
theorem swap_perm {xs : List V} {i j : Nat} (hi : i < xs.length) (hj : j < xs.length) : ((xs.set i (xs[j]'hj)).set j (xs[i]'hi)).Perm xs := by
  rw [List.perm_iff_count]
  intro a
  rw [List.count_set (by rw [List.length_set]; exact hj), List.count_set hi]
  have hc : ∀ (k : Nat) (hk : k < xs.length), (xs[k] == a) = true → 0 < xs.count a := fun k hk e => List.count_pos_iff.mpr (by rw [← (beq_iff_eq.mp e)]; exact List.getElem_mem hk)
  have h1 := hc i hi
  have h2 := hc j hj
  by_cases e : i = j
  · subst e
    simp only [List.getElem_set_self]
    by_cases q : (xs[i] == a) = true
    · have := h1 q; simp only [q, if_true]; omega
    · simp only [q]; simp
  · rw [List.getElem_set_ne e]
    by_cases q : (xs[i] == a) = true <;> by_cases r : (xs[j] == a) = true <;> simp only [q, r, if_true] <;> simp <;> (try have := h1 q) <;> (try have := h2 r) <;> omega
def InR (n : Int) : Prop := -1000000000000 ≤ n ∧ n ≤ 1000000000000
instance (n : Int) : Decidable (InR n) := by unfold InR; exact inferInstance
def Sc : V → Prop
  | .non => True
  | .bl _ => True
  | .int _ => True
  | .str _ => True
  | _ => False
def isNum : V → Bool
  | .int n => decide (InR n)
  | _ => false
def Bad (v : V) : Prop := (∃ b, v = .bl b) ∨ ∃ n, v = .int n ∧ ¬ InR n
theorem cut_to {xs : List V} {k : Nat} : cutV xs none (some (k : Int)) = xs.take k := by
  unfold cutV
  rw [HT.sIx_none, HT.sIx_nat, List.drop_zero, Nat.sub_zero]
  by_cases h : k ≤ xs.length
  · rw [Nat.min_eq_left h]
  · rw [Nat.min_eq_right (by omega), List.take_length, List.take_of_length_le (by omega)]
/-- the same data, to a depth -/
def Alike (H : Hp) : Nat → V → V → Prop
  | 0, x, y => Sc x ∧ x = y
  | n + 1, x, y => (Sc x ∧ x = y) ∨ ∃ (a b : Addr) (xs ys : List V), x = .ref a ∧ y = .ref b ∧ ((H a = some (.lst xs) ∧ H b = some (.lst ys)) ∨ (H a = some (.tup xs) ∧ H b = some (.tup ys))) ∧ xs.length = ys.length ∧ xs.length ≤ 100000 ∧ ∀ (i : Nat) (u v : V), xs[i]? = some u → ys[i]? = some v → Alike H n u v
theorem Alike.same {H H' : Hp} (e : Same H H') : ∀ {n : Nat} {x y : V}, Alike H n x y → Alike H' n x y
  | 0, _, _, h => h
  | n + 1, _, _, h => by
    rcases h with h | ⟨a, b, xs, ys, e1, e2, h, hl, h100, hi⟩
    · exact .inl h
    · refine .inr ⟨a, b, xs, ys, e1, e2, ?_, hl, h100, fun i u v h1 h2 => (hi i u v h1 h2).same e⟩
      rcases h with ⟨h1, h2⟩ | ⟨h1, h2⟩
      · exact .inl ⟨e _ _ h1, e _ _ h2⟩
      · exact .inr ⟨e _ _ h1, e _ _ h2⟩
theorem rd_isiL {H : Hp} {Q : VK} {K : PySem.W.Frag} {p : Addr} {xs : List V} {n : String} {b : Bool} (h : H p = some (.lst xs)) (k : kitB "list" n = some b) (q : Q (.bl b) H) : rIsi K [.ref p, .ty n] H Q := rd_isi (.lst h) k q
theorem rd_isiT {H : Hp} {Q : VK} {K : PySem.W.Frag} {p : Addr} {xs : List V} {n : String} {b : Bool} (h : H p = some (.tup xs)) (k : kitB "tuple" n = some b) (q : Q (.bl b) H) : rIsi K [.ref p, .ty n] H Q := rd_isi (.tup h) k q
theorem rd_isiLT {H : Hp} {x : V} {Q : VK} {K : PySem.W.Frag} {tp : Addr} {b : Bool} {a : String} (h : H tp = some (.tup [.ty "list", .ty "tuple"])) (ty : TyOf K H x (.type a)) (k : PySem.W.kitAny K (.type a) [.type "list", .type "tuple"] = some b) (q : Q (.bl b) H) : rIsiT K [x, .ref tp] H Q :=
  ⟨x, tp, _, .type a, _, b, rfl, h, .cons (.ty _) (.cons (.ty _) .nil), .base ty, k, q⟩
theorem ka_list {K : PySem.W.Frag} : PySem.W.kitAny K (.type "list") [.type "list", .type "tuple"] = some true := kitAny_cons (kit_ty kb_list_list) (fun h => by cases h) (fun _ => rfl)
theorem ka_tuple {K : PySem.W.Frag} : PySem.W.kitAny K (.type "tuple") [.type "list", .type "tuple"] = some true := kitAny_cons (kit_ty kb_tuple_list) (fun _ => kitAny_cons (kit_ty kb_tuple_tuple) (fun h => by cases h) (fun _ => rfl)) (fun h => by cases h)
theorem rd_ixQL {K : PySem.W.Frag} {H : Hp} {p : Addr} {xs : List V} {i : Int} {v : V} {Q : VK} (h : H p = some (.lst xs)) (e : atI xs i = some v) (q : Q v H) : rIx K (.ref p) (.int i) H Q := .inl (rd_ixL h e q)
theorem rd_ixQT {K : PySem.W.Frag} {H : Hp} {p : Addr} {xs : List V} {i : Int} {v : V} {Q : VK} (h : H p = some (.tup xs)) (e : atI xs i = some v) (q : Q v H) : rIx K (.ref p) (.int i) H Q := .inr (.inl ⟨p, xs, i, v, rfl, rfl, .inl (.inl h), e, q⟩)
theorem same_ex {S : Sto} {H H' : Hp} (e : Same H H') : ExS S H H' := fun p o _ h => e p o h
theorem same_new {H : Hp} {p : Addr} {o : HO} (h : H p = none) : Same H (upd H p o) := fun b x e => by rw [upd_ne (ne_of_none e h)]; exact e
theorem sz {n : Nat} (h : n ≤ 100000) : n ≤ sizeLine := Nat.le_trans h (by decide)
theorem sl_of {K : PySem.W.Frag} {H : Hp} {a : Addr} {xs : List V} (h : H a = some (.lst xs)) : SqL K H a xs := .inl (.inl h)
theorem st_of {K : PySem.W.Frag} {H : Hp} {a : Addr} {xs : List V} (h : H a = some (.tup xs)) : SqT K H a xs := .inl (.inl h)
section
variable {X : Cx}
def rIsX (K : PySem.W.Frag) (cls : Value) (d : Option Addr) (a : Addr) : List V → Hp → VK → Prop := fun xs H Q => ∃ (D dd : Addr) (fs : List (Str × V)) (c : V) (cv : Value) (b : Bool), cls = .ref D ∧ d = some dd ∧ H dd = some (.xd fs) ∧ ExcC K D ∧ xs = [.ref a, c] ∧ (∀ u, RelV c u → u = cv) ∧ PySem.W.kitOne K (.ref D) cv = some b ∧ Q (.bl b) H
def rIsXT (K : PySem.W.Frag) (cls : Value) (d : Option Addr) (a : Addr) : List V → Hp → VK → Prop := fun xs H Q => ∃ (D dd : Addr) (fs : List (Str × V)) (tp : Addr) (cs : List V) (us : List Value) (b : Bool), cls = .ref D ∧ d = some dd ∧ H dd = some (.xd fs) ∧ ExcC K D ∧ xs = [.ref a, .ref tp] ∧ H tp = some (.tup cs) ∧ Paired ClsV cs us ∧ PySem.W.kitAny K (.ref D) us = some b ∧ Q (.bl b) H
theorem inst_exc {a D dd : Addr} {oe : Obj} {pn pins : List (Addr × Obj)} {s : Shared} {σ : L2.St} {H : Hp} {fs : List (Str × V)} (hz : Zc (.ref D) (some dd) oe) (hf : ∃ vs, oe.data = .fields vs) (I : Inv (X.suite a ((a, oe) :: pn)) pins σ H s) (hd : H dd = some (.xd fs)) :
    ∃ od, PySem.W.InstAt s.heap a oe D (some od) := by
  obtain ⟨hget, _⟩ := I.pin (a, oe) (List.mem_append.mpr (.inl List.mem_cons_self))
  obtain ⟨vs, hv⟩ := hf
  obtain ⟨mA, hns, hr⟩ := (show ObjOk X.prog X.w H s.heap dd (.xd fs) from I.hok dd _ hd)
  obtain ⟨od, ho, hl⟩ := lookIn_ns hns
  exact ⟨od, hget, hz.1, by unfold PySem.W.notCls; rw [hv] <;> rfl, by rw [hz.2]; exact ho⟩
theorem kit_exc {K : PySem.W.Frag} {D a : Addr} {oe : Obj} {od : Option Obj} (C : ExcC K D) : PySem.W.KitX K (.ref a) (.ref D) (fun h => PySem.W.InstAt h a oe D od) :=
  PySem.W.kitx_exc (by obtain ⟨cd, hc, _⟩ := PySem.W.any_some C.hd; rw [hc]; rfl) C.hg C.hk C.hs C.ha C.hn C.ht C.hm
theorem call_isX {K : PySem.W.Frag} {cls : Value} {d : Option Addr} {a : Addr} {oe : Obj} {pn : List (Addr × Obj)} (hK : X.K = K) (hz : Zc cls d oe) (hf : ∃ vs, oe.data = .fields vs) : CallR (X.suite a ((a, oe) :: pn)) (.builtin "isinstance") (rIsX K cls d a) := by
  intro pins s σ H xs us Q I r h
  obtain ⟨D, dd, fs, c, cv, b, rfl, rfl, hd, C, rfl, hcv, e, q⟩ := h
  subst hK
  obtain ⟨u1, u2, rfl, r1, r2⟩ := vals2 r
  obtain rfl : u1 = Value.ref a := r1
  obtain rfl := hcv _ r2
  obtain ⟨od, J⟩ := inst_exc hz hf I hd
  exact PySem.W.kia_one (kit_exc C) I.kIn J e (fun z => nomatch z) fun tk => ⟨.bl b, H, I.kept (t' := tk) fun _ _ z => z, rfl, q⟩
theorem call_isXT {K : PySem.W.Frag} {cls : Value} {d : Option Addr} {a : Addr} {oe : Obj} {pn : List (Addr × Obj)} (hK : X.K = K) (hz : Zc cls d oe) (hf : ∃ vs, oe.data = .fields vs) : CallR (X.suite a ((a, oe) :: pn)) (.builtin "isinstance") (rIsXT K cls d a) := by
  intro pins s σ H xs us Q I r h
  obtain ⟨D, dd, fs, tp, cs, ws, b, rfl, rfl, hd, C, rfl, hT, hp, e, q⟩ := h
  subst hK
  obtain ⟨u1, u2, rfl, r1, r2⟩ := vals2 r
  obtain rfl : u1 = Value.ref a := r1
  cases (show u2 = Value.ref tp from r2)
  obtain ⟨od, J⟩ := inst_exc hz hf I hd
  obtain ⟨_, its, rv, o, h1, h2, n, h3⟩ := (show ObjOk X.prog X.w H s.heap tp (.tup cs) from I.hok tp _ hT)
  have e3 := ClsV.all hp rv
  subst e3
  obtain ⟨oc, ood, dt, sl⟩ := o
  simp only at h2 h3
  subst h2 h3
  exact PySem.W.kia_tup (kit_exc C) I.kIn J h1 e (fun z => nomatch z) fun tk => ⟨.bl b, H, I.kept (t' := tk) fun _ _ z => z, rfl, q⟩
end
def spInit1 (K : PySem.W.Frag) (fld : Str) : Sp := fun vs H Q _ => ∃ (a C : Addr) (v : V), vs = [.ref a, v] ∧ OexC K C ∧ PySem.W.findIn K (.ref C) fld = some none ∧ H a = some (exo a C none) ∧ ∀ dx, H dx = none → dx ≠ a → Q .non (upd (upd H dx (exd dx [(fld, v)])) a (exo a C (some dx)))
theorem same_made {H1 : Hp} {a dx C : Addr} {fs : List (Str × V)} {e0 : HO} (na : H1 a = none) (nd : H1 dx = none) (ne : dx ≠ a) : Same H1 (upd (del (upd (upd (upd H1 a e0) dx (exd dx fs)) a (exo a C (some dx))) a) dx (.xd fs)) := fun b o hb => by
  have h1 := ne_of_none hb na
  have h2 := ne_of_none hb nd
  rw [upd_ne h2, del_ne h1, upd_ne h1, upd_ne h2, upd_ne h1]
  exact hb
/-- C(v)'s reading, from what is asked of the new error -/
theorem rd_mk1 {K : PySem.W.Frag} {C : Addr} {fld : Str} {v : V} {H1 : Hp} {W : XK} (T : OexC K C) (nf : PySem.W.findIn K (.ref C) fld = some none) (h : ∀ d H', H1 d = none → Same H1 H' → H' d = some (.xd [(fld, v)]) → W (.ref C) (some d) H') :
    [v].length ≤ 1000 ∧ ∀ a, H1 a = none → spInit1 K fld (.ref a :: ([v] ++ [])) (upd H1 a (exo a C none))
      (fun v H2 => v = .non ∧ ∃ (d : Addr) (fs : List (Str × V)), H2 a = some (exo a C (some d)) ∧ H2 d = some (exd d fs) ∧ H1 d = none ∧ W (.ref C) (some d) (upd (del H2 a) d (.xd fs))) (fun _ _ _ => False) := by
  refine ⟨by simp, fun a na => ⟨a, C, v, rfl, T, nf, upd_same, fun dx ndx ne => ?_⟩⟩
  have nd : H1 dx = none := by rw [upd_ne ne] at ndx; exact ndx
  exact ⟨rfl, dx, [(fld, v)], upd_same, by rw [upd_ne ne]; exact upd_same, nd, h dx _ nd (same_made na nd ne) upd_same⟩
structure HasI (P : Program) (w : World) (K : PySem.W.Frag) (mg : Str → Option Value) (base : Heap) (C : Addr) (k : Nat) (ps : List Str) (sp : Sp) : Prop where
  ex : ∃ fI fd, FnOk P w K mg base CX0 k fI fd ps sp ∧ PySem.W.findIn K (.ref C) "__init__" = some (some (.ref fI)) ∧ PySem.W.typeIn K (.ref fI) = some (.type "function") ∧ Binds K fd ps []
structure ErrC (K : PySem.W.Frag) (mg : Str → Option Value) (x : Str) (C : Addr) : Prop where
  gC : mg x = some (.ref C)
  ox : OexC K C
  xf : XfC K C
  ec : ExcC K C
  self : PySem.W.exmOne K (.ref C) (.ref C) = some true
/-- raise C(e, ..) -/
theorem ps_raiseC {X : Cx} {x : Str} {C : Addr} {k j : Nat} {ps : List Str} {sp : Sp} {e : Expr} {es : List Expr} {ta : TA} {W : WX} {p pos pos2 : Pos} (hc : X.calm = true) (tk : Takes X W) (E : ErrC X.K X.mg x C) (I : HasI X.prog X.w X.K X.mg X.base C j ps sp) (hr : Room k X.A) (hj : j + 1 ≤ k) (hg : Gl X x) (ha : PA X (e :: es) ta)
    (hdb : (x == ("__debug__" : Str)) = false := by decide) (he : starEach (e :: es) X.env = (false, eval e X.env) :: starEach es X.env := by rfl) (hpl : (backTo pos (starEach es X.env)).any (·.1) = false := by rfl) :
    PS X (.Raise (some (.Call (.Name x p) (e :: es) [] pos)) none pos2) (fun _ σ H => tMkO C sp [] ta σ H fun cls d H' => W cls d σ H') := by
  obtain ⟨fI, fd, F1, iC, tI, hb⟩ := I.ex
  exact ps_raise hc tk (pmk_oex E.ox iC tI F1 (hr.mono hj) hb .nil pass0 hg E.gC ha hdb he hpl)
theorem rd_mkO {C : Addr} {sp : Sp} {ta : TA} {σ : L2.St} {H : Hp} {Q : XK} (h : ta σ H fun vs H1 => vs.length ≤ 1000 ∧ ∀ a, H1 a = none → sp (.ref a :: (vs ++ [])) (upd H1 a (exo a C none))
  (fun v H2 => v = .non ∧ ∃ (d : Addr) (fs : List (Str × V)), H2 a = some (exo a C (some d)) ∧ H2 d = some (exd d fs) ∧ H1 d = none ∧ Q (.ref C) (some d) (upd (del H2 a) d (.xd fs))) (fun _ _ _ => False)) : tMkO C sp [] ta σ H Q := h
theorem rd_ckw {r : List V → List V → Hp → VK → Prop} {t tk : TA} {σ : L2.St} {H : Hp} {Q : VK} (h : t σ H fun vs H1 => tk σ H1 fun zs H2 => r vs zs H2 Q) : tCKw r t tk σ H Q := h
theorem rd_xf {a C : Addr} {cls : Value} {d : Option Addr} {f : Str} {te : TE} {σ : L2.St} {H : Hp} {Q : VK} (h : te σ H fun x H1 => x = .ref a ∧ cls = .ref C ∧ ∃ (dd : Addr) (fs : List (Str × V)) (v : V), d = some dd ∧ H1 dd = some (.xd fs) ∧ fs.lookup f = some v ∧ Q v H1) : tXf a cls d C f te σ H Q := h
theorem rd_iTup {K : PySem.W.Frag} {te : TE} {σ : L2.St} {H : Hp} {R : It → Hp → Prop} (h : te σ H fun x H1 => ∃ a, x = .ref a ∧ (∃ xs, SqT K H1 a xs) ∧ R (Itt K a) H1) : iTup K te σ H R := h
theorem rd_lc {wi : TI} {g : TG} {tt : TT} {te : TE} {vs : List Nat} {σ : L2.St} {H : Hp} {Q : VK} (h : wi σ H fun J H1 => ∀ D, H1 D = none → ∃ W : Nat → Nat → Hp → Prop, (∃ m, W 0 m (upd H1 D (.lst []))) ∧ ∀ i m H, W i m H →
  (J.stop i H ∧ Q (.ref D) H) ∨ (J.go i H ∧ ∃ Nx : Hp → Prop, (∀ H', Nx H' → ∃ m', m' < m ∧ W (i + 1) m' H') ∧ ∀ x H', J.yld i H x H' → g x (wipe σ vs) H' fun σ2 H2 => wipe σ2 vs = wipe σ vs ∧ tt σ2 H2 fun b H3 =>
    if b = true then te σ2 H3 fun y H4 => ∃ acc, H4 D = some (.lst acc) ∧ acc.length < sizeLine ∧ Nx (upd H4 D (.lst (acc ++ [y]))) else Nx H3)) : tLc wi g tt te vs σ H Q := h
structure HasX (P : Program) (w : World) (K : PySem.W.Frag) (mg : Str → Option Value) (base : Heap) (x : Str) (k : Nat) (ps : List Str) (sp : Sp) : Prop where
  ex : ∃ f fd, FnOk P w K mg base (L2.CX P w) k f fd ps sp ∧ mg x = some (.ref f) ∧ PySem.W.keepIn K (.ref f) = true ∧ Binds K fd ps []
theorem HasX.mono {P : Program} {w : World} {K : PySem.W.Frag} {mg : Str → Option Value} {base : Heap} {x : Str} {j k : Nat} {ps : List Str} {sp : Sp} (h : HasX P w K mg base x j ps sp) (l : j ≤ k) : HasX P w K mg base x k ps sp := by
  obtain ⟨f, fd, F, r⟩ := h.ex
  exact ⟨f, fd, F.mono l, r⟩
/-- called with keywords alone: g puts the keywords' values (named ks) in the parameters' order -/
structure HasK (P : Program) (w : World) (K : PySem.W.Frag) (mg : Str → Option Value) (base : Heap) (CX : CXT) (x : Str) (k : Nat) (ps ks : List Str) (g : {α : Type} → List α → List α) (sp : Sp) : Prop where
  ex : ∃ f fd, FnOk P w K mg base CX k f fd ps sp ∧ mg x = some (.ref f) ∧ PySem.W.keepIn K (.ref f) = true ∧ (∀ (s : Shared) (ws : List Value), ws.length = ks.length → BindsTo s fd ⟨[], ks.zip ws⟩ (ps.zip (g ws))) ∧ (∀ (vs : List V) (ws : List Value), vs.length = ks.length → Vals vs ws → Vals (g vs) (g ws))
theorem HasK.mono {P : Program} {w : World} {K : PySem.W.Frag} {mg : Str → Option Value} {base : Heap} {CX : CXT} {x : Str} {j k : Nat} {ps ks : List Str} {g : {α : Type} → List α → List α} {sp : Sp} (h : HasK P w K mg base CX x j ps ks g sp) (l : j ≤ k) : HasK P w K mg base CX x k ps ks g sp := by
  obtain ⟨f, fd, F, r⟩ := h.ex
  exact ⟨f, fd, F.mono l, r⟩
def tCallKS (sp : Sp) (n : Nat) (g : List V → List V) (E : L2.St → XK) (tk : TA) : TE := fun σ H Q => tk σ H fun zs H1 => zs.length = n ∧ sp (g zs) H1 Q (E σ)
section
variable {X : Cx} {x : Str} {k : Nat} {ps ks : List Str} {sp : Sp} {e : Expr} {es : List Expr} {t tk : TA} {p pos : Pos} {W : WX} {kws : List Keyword} {CX : CXT}
/-- a call within a try, or in a def that lets errors out -/
theorem pe_callX (h : HasX X.prog X.w X.K X.mg X.base x k ps sp) (hr : Room k X.A) (hg : Gl X x) (tk : Takes X W) (ha : PA X (e :: es) t)
    (hdb : (x == ("__debug__" : Str)) = false := by decide) (he : starEach (e :: es) X.env = (false, eval e X.env) :: starEach es X.env := by rfl) (hpl : (backTo pos (starEach es X.env)).any (·.1) = false := by rfl) :
    PE X (.Call (.Name x p) (e :: es) [] pos) (tCallS sp (WE W) t) := by
  obtain ⟨f, fd, F, hm, hk, hb⟩ := h.ex
  exact pe_callS F hr hg hm hk hb (fun σ => passAt tk σ) ha hdb he hpl
theorem pass0S : ∀ σ, PassesAt CX0 X σ (fun _ _ _ => False) := fun _ _ _ _ _ _ _ h => h.elim
theorem rd_callS {σ : L2.St} {H : Hp} {E : L2.St → XK} {tA : TA} {Q : VK} (h : tA σ H fun vs H1 => sp vs H1 Q (E σ)) : tCallS sp E tA σ H Q := h
theorem rd_callKS {n : Nat} {g : List V → List V} {σ : L2.St} {H : Hp} {E : L2.St → XK} {tA : TA} {Q : VK} (h : tA σ H fun zs H1 => zs.length = n ∧ sp (g zs) H1 Q (E σ)) : tCallKS sp n g E tA σ H Q := h
end
theorem rd_ss {a b : Str} {R : Str → Str → Prop} (h : R a b) : ∃ i j, V.str a = .str i ∧ V.str b = .str j ∧ R i j := ⟨a, b, rfl, rfl, h⟩
theorem rd_s1 {a : Str} {R : Str → Prop} (h : R a) : ∃ z, [V.str a] = [V.str z] ∧ R z := ⟨a, rfl, h⟩
theorem rd_i1 {a : Int} {R : Int → Prop} (h : R a) : ∃ z, [V.int a] = [V.int z] ∧ R z := ⟨a, rfl, h⟩
theorem rd_ixS {z : Str} {i : Int} {c : Nat} {H : Hp} {Q : VK} (hz : z.length ≤ 100000) (e : atI z.cps.toList i = some c) (q : Q (.str ⟨#[c]⟩) H) : rIxS (.str z) (.int i) H Q := ⟨z, i, c, rfl, rfl, sz hz, e, q⟩
theorem rd_inS {c : Nat} {z : Str} {R : Nat → Str → Prop} (h : R c z) : ∃ (c' : Nat) (z' : Str), V.str ⟨#[c]⟩ = V.str ⟨#[c']⟩ ∧ V.str z = V.str z' ∧ R c' z' := ⟨c, z, rfl, rfl, h⟩
theorem rd_slS {z : Str} {lo hi : Option Int} {H : Hp} {Q : VK} (hz : z.length ≤ 100000) (q : Q (.str (cutS z lo hi)) H) : rSlS (.str z) lo hi H Q := ⟨z, rfl, sz hz, q⟩
theorem atI_nats {l : List Nat} {i : Int} (h0 : 0 ≤ i) (h1 : i < l.length) : ∃ c, c ∈ l ∧ l[i.toNat]? = some c ∧ atI l i = some c := by
  have hb : i.toNat < l.length := by omega
  refine ⟨l[i.toNat], List.getElem_mem hb, by simp [hb], ?_⟩
  unfold atI ixN
  rw [if_pos h0, if_pos h1]
  simp [hb]
theorem len_l (s : Str) : s.cps.toList.length = s.length := Array.length_toList
theorem app_l (a b : Str) : (a ++ b).cps.toList = a.cps.toList ++ b.cps.toList := by rw [Str.cps_append, Array.toList_append]
theorem app_len (a b : Str) : (a ++ b).length = a.length + b.length := by rw [← len_l, app_l, List.length_append, len_l, len_l]
theorem str_ext {a b : Str} (h : a.cps.toList = b.cps.toList) : a = b := PyProof.Rows.ext_toList h
theorem one_len (c : Nat) : (⟨#[c]⟩ : Str).length = 1 := rfl
theorem cutS_len (z : Str) (lo hi : Option Int) : (cutS z lo hi).length ≤ z.length := by
  rw [← len_l, ← len_l]
  show ((z.cps.toList.drop _).take _).toArray.toList.length ≤ _
  rw [List.toList_toArray, List.length_take, List.length_drop]
  omega
theorem cutS_to (z : Str) (k : Nat) : (cutS z none (some (k : Int))).cps.toList = z.cps.toList.take k := by
  show ((z.cps.toList.drop _).take _).toArray.toList = _
  rw [List.toList_toArray, HT.sIx_none, HT.sIx_nat, List.drop_zero, Nat.sub_zero]
  by_cases h : k ≤ z.length
  · rw [Nat.min_eq_left h]
  · rw [Nat.min_eq_right (by omega), ← len_l, List.take_length, List.take_of_length_le (by rw [len_l]; omega)]
def numS (n : Nat) : Str := Str.ofString (toString (n : Int))
theorem numS_l (n : Nat) : (numS n).cps.toList = TL.numL n := TL.tl_num n
theorem numS_inj {m n : Nat} (h : numS m = numS n) : m = n := TL.numL_inj (by rw [← numS_l, ← numS_l, h])
theorem numS_len {n : Nat} (h : n < 100000) : (numS n).length ≤ 5 := by
  rw [← len_l, numS_l]
  exact TL.numL_len (by omega) (by omega)
theorem app_num_inj {s : Str} {m n : Nat} (h : s ++ numS m = s ++ numS n) : m = n := by
  have e := congrArg (fun z : Str => z.cps.toList) h
  simp only [app_l] at e
  exact numS_inj (str_ext (List.append_cancel_left e))
theorem nodup_le {α : Type} [DecidableEq α] : ∀ {xs ys : List α}, xs.Nodup → (∀ x ∈ xs, x ∈ ys) → xs.length ≤ ys.length
  | [], _, _, _ => Nat.zero_le _
  | x :: xs, ys, hn, hs => by
    obtain ⟨h1, h2⟩ := List.nodup_cons.mp hn
    have hx := hs x List.mem_cons_self
    have := nodup_le (ys := ys.erase x) h2 fun z hz => by
      have ne : z ≠ x := fun e => h1 (e ▸ hz)
      exact (List.mem_erase_of_ne ne).mpr (hs z (List.mem_cons_of_mem _ hz))
    rw [List.length_erase_of_mem hx] at this
    have : 0 < ys.length := List.length_pos_of_mem hx
    simp only [List.length_cons]
    omega
def lets : Str := "abcdefghijklmnopqrstuvwxyz"
def letsD : Str := "abcdefghijklmnopqrstuvwxyz0123456789"
def isNmL : List Nat → Bool
  | [] => false
  | c :: l => decide ((c :: l).length ≤ 8) && decide (c ∈ lets.cps.toList) && (c :: l).all fun d => decide (d ∈ letsD.cps.toList)
def isNm (s : Str) : Bool := isNmL s.cps.toList
theorem inV_strs {x : Str} : ∀ {xs : List Str}, inV (.str x) (xs.map V.str) = decide (x ∈ xs)
  | [] => rfl
  | y :: ys => by
    have ih := inV_strs (x := x) (xs := ys)
    unfold inV at ih ⊢
    rw [List.map_cons, List.any_cons, ih]
    show (y == x || decide (x ∈ ys)) = decide (x ∈ y :: ys)
    by_cases h : y = x
    · subst h; simp
    · have h' : x ≠ y := fun e => h e.symm
      simp [h, h']
theorem flat_strs (ns : List Str) : (ns.map V.str).all flatV = true := by
  rw [List.all_map]; exact List.all_eq_true.mpr fun _ _ => rfl
theorem pe_globS {X : Cx} {x : Str} {z : Str} {pos : Pos} (hg : Gl X x) (hm : ∃ t, X.mg x = some (.str z t)) (hd : (x == ("__debug__" : Str)) = false := by decide) : PE X (.Name x pos) (tC (.str z)) := by
  obtain ⟨t, e⟩ := hm
  exact pe_glob hg e ⟨t, rfl⟩ hd
set_option maxHeartbeats 1000000
def tLstRev (K : PySem.W.Frag) (te : TE) : TE := fun σ H Q => te σ H fun v H1 => ∃ (a : Addr) (xs : List V), v = .ref a ∧ SqL K H1 a xs ∧ ∀ q, H1 q = none → Q (.ref q) (upd H1 q (.lst xs.reverse))
section
variable {X : Cx}
theorem rd_lrv {K : PySem.W.Frag} {te : TE} {σ : L2.St} {H : Hp} {Q : VK} (h : te σ H fun v H1 => ∃ (a : Addr) (xs : List V), v = .ref a ∧ SqL K H1 a xs ∧ ∀ q, H1 q = none → Q (.ref q) (upd H1 q (.lst xs.reverse))) : tLstRev K te σ H Q := h
end
theorem lets_digits : lets ++ ("0123456789" : Str) = letsD := by decide +kernel
theorem lets_sub : ∀ c ∈ lets.cps.toList, c ∈ letsD.cps.toList := by decide +kernel
/-- a text of n signs: a letter, then letters and digits -/
def NmP (z : Str) (n : Nat) : Prop := z.length = n ∧ ∃ c l, z.cps.toList = c :: l ∧ c ∈ lets.cps.toList ∧ ∀ d ∈ c :: l, d ∈ letsD.cps.toList
theorem NmP.one {c : Nat} (h : c ∈ lets.cps.toList) : NmP ⟨#[c]⟩ 1 := ⟨rfl, c, [], rfl, h, fun d hd => by rw [List.mem_singleton.mp hd]; exact lets_sub c h⟩
theorem NmP.add {z : Str} {n c : Nat} (h : NmP z n) (hc : c ∈ letsD.cps.toList) : NmP (z ++ ⟨#[c]⟩) (n + 1) := by
  obtain ⟨h1, d, l, e, hd, ha⟩ := h
  refine ⟨by rw [app_len, h1]; rfl, d, l ++ [c], by rw [app_l, e]; rfl, hd, fun x hx => ?_⟩
  have hx' : x ∈ (d :: l) ++ [c] := hx
  rcases List.mem_append.mp hx' with q | q
  · exact ha x q
  · rw [List.mem_singleton.mp q]; exact hc
theorem NmP.nm {z : Str} {n : Nat} (h : NmP z n) (hn : n ≤ 8) : isNm z = true := by
  obtain ⟨h1, c, l, e, hc, ha⟩ := h
  have hl : (c :: l).length ≤ 8 := by rw [← e, len_l, h1]; exact hn
  unfold isNm
  rw [e]
  show (decide ((c :: l).length ≤ 8) && decide (c ∈ lets.cps.toList) && (c :: l).all fun d => decide (d ∈ letsD.cps.toList)) = true
  rw [decide_eq_true hl, decide_eq_true hc, Bool.true_and, Bool.true_and]
  exact List.all_eq_true.mpr fun d hd => decide_eq_true (ha d hd)
theorem isNm_len {z : Str} (h : isNm z = true) : 1 ≤ z.length ∧ z.length ≤ 8 := by
  rw [← len_l]
  unfold isNm at h
  cases e : z.cps.toList with
  | nil => rw [e] at h; cases h
  | cons c l =>
    rw [e] at h
    have h' : (decide ((c :: l).length ≤ 8) && decide (c ∈ lets.cps.toList) && (c :: l).all fun d => decide (d ∈ letsD.cps.toList)) = true := h
    rw [Bool.and_eq_true, Bool.and_eq_true] at h'
    exact ⟨by simp, of_decide_eq_true h'.1.1⟩
theorem rd_iStr {te : TE} {σ : L2.St} {H : Hp} {R : It → Hp → Prop} (h : te σ H fun v H1 => ∃ x, v = .str x ∧ R (Its x) H1) : iStr te σ H R := h
theorem for_sgn {z : Str} {k : Nat} {tb : TS} {D : Ends} {σ : L2.St} {H : Hp} (Pv : Nat → L2.St → Hp → Prop) (h0 : Pv 0 σ H)
    (hs : ∀ i c σ H, z.cps.toList[i]? = some c → Pv i σ H → tb { D with nx := Pv (i + 1), ct := Pv (i + 1), bk := D.nx } (σ.set k (some (.str ⟨#[c]⟩))) H) (hd : ∀ σ H, Pv z.length σ H → D.nx σ H) :
    ∃ W : Nat → Nat → L2.St → Hp → Prop, (∃ m, W 0 m σ H) ∧ ∀ i m σ H, W i m σ H →
      ((Its z).stop i H ∧ D.nx σ H) ∨ ((Its z).go i H ∧ ∃ N : L2.St → Hp → Prop, (∀ σ' H', N σ' H' → ∃ m', m' < m ∧ W (i + 1) m' σ' H') ∧ ∀ x H', (Its z).yld i H x H' → gName k x σ H' fun σ2 H2 => tb { D with nx := N, ct := N, bk := D.nx } σ2 H2) := by
  refine for_it (walk_str (z := z)) Pv h0 (fun _ _ _ _ _ => trivial) (fun i x σ H H' hi hp y => ?_) hd
  obtain ⟨rfl, c, hc, rfl⟩ := y
  exact hs i c σ _ (by rw [Array.getElem?_toList]; exact hc) hp
theorem lc_sgn {z : Str} {k : Nat} {tt : TT} {te : TE} {vs : List Nat} {σ : L2.St} {H1 : Hp} {D : Addr} {Qd : Hp → Prop} (Pv : Nat → Hp → Prop) (h0 : Pv 0 (upd H1 D (.lst [])))
    (hs : ∀ i c H, z.cps.toList[i]? = some c → Pv i H → wipe ((wipe σ vs).set k (some (.str ⟨#[c]⟩))) vs = wipe σ vs ∧ tt ((wipe σ vs).set k (some (.str ⟨#[c]⟩))) H fun b H3 =>
      if b = true then te ((wipe σ vs).set k (some (.str ⟨#[c]⟩))) H3 fun y H4 => ∃ acc, H4 D = some (.lst acc) ∧ acc.length < sizeLine ∧ Pv (i + 1) (upd H4 D (.lst (acc ++ [y]))) else Pv (i + 1) H3) (hd : ∀ H, Pv z.length H → Qd H) :
    ∃ W : Nat → Nat → Hp → Prop, (∃ m, W 0 m (upd H1 D (.lst []))) ∧ ∀ i m H, W i m H →
      ((Its z).stop i H ∧ Qd H) ∨ ((Its z).go i H ∧ ∃ Nx : Hp → Prop, (∀ H', Nx H' → ∃ m', m' < m ∧ W (i + 1) m' H') ∧ ∀ x H', (Its z).yld i H x H' → gName k x (wipe σ vs) H' fun σ2 H2 => wipe σ2 vs = wipe σ vs ∧ tt σ2 H2 fun b H3 =>
        if b = true then te σ2 H3 fun y H4 => ∃ acc, H4 D = some (.lst acc) ∧ acc.length < sizeLine ∧ Nx (upd H4 D (.lst (acc ++ [y]))) else Nx H3) := by
  refine lc_it (walk_str (z := z)) Pv h0 (fun _ _ _ _ => trivial) (fun i x H H' hi hp y => ?_) hd
  obtain ⟨rfl, c, hc, rfl⟩ := y
  exact hs i c _ (by rw [Array.getElem?_toList]; exact hc) hp
theorem isNm_of {z : Str} {c : Nat} {l : List Nat} (e : z.cps.toList = c :: l) : isNm z = (decide (z.length ≤ 8) && decide (c ∈ lets.cps.toList) && z.cps.toList.all fun d => decide (d ∈ letsD.cps.toList)) := by
  unfold isNm
  rw [← len_l, e]
  rfl
theorem isNm_zero {z : Str} (h : z.length = 0) : isNm z = false := by
  rw [← len_l] at h
  unfold isNm
  rw [List.eq_nil_of_length_eq_zero h]
  rfl
theorem rd_ii {a : Int} {R : Int → Prop} (h : R a) : ∃ i, V.int a = V.int i ∧ R i := ⟨a, rfl, h⟩
theorem rd_si {a : Str} {R : Str → Prop} (h : R a) : ∃ i, V.str a = V.str i ∧ R i := ⟨a, rfl, h⟩
theorem atI_zero {α : Type} {c : α} {l : List α} : atI (c :: l) 0 = some c := by
  unfold atI ixN
  rw [if_pos (by omega), if_pos (by simp)]
  simp
theorem rd_yes {σ : L2.St} {H : Hp} {QT : Bool → Hp → Prop} (h : QT true H) : tYes σ H QT := h
def okS (n : Nat) (z : Str) : Bool := decide (z.length ≤ n) && z.cps.toList.all fun c => decide (c < 128)
def OkS (n : Nat) (z : Str) : Prop := okS n z = true
instance (n : Nat) (z : Str) : Decidable (OkS n z) := by unfold OkS; exact inferInstance
theorem okS_iff {n : Nat} {z : Str} : OkS n z ↔ z.length ≤ n ∧ ∀ c ∈ z.cps.toList, c < 128 := by
  unfold OkS okS
  rw [Bool.and_eq_true, decide_eq_true_iff, List.all_eq_true]
  exact ⟨fun h => ⟨h.1, fun c hc => of_decide_eq_true (h.2 c hc)⟩, fun h => ⟨h.1, fun c hc => decide_eq_true (h.2 c hc)⟩⟩
theorem OkS.len {n : Nat} {z : Str} (h : OkS n z) : z.length ≤ n := (okS_iff.mp h).1
theorem OkS.mono {m n : Nat} {z : Str} (h : OkS m z) (l : m ≤ n) : OkS n z := okS_iff.mpr ⟨by have := h.len; omega, (okS_iff.mp h).2⟩
theorem OkS.app {a b n : Nat} {x y : Str} (hx : OkS a x) (hy : OkS b y) (l : a + b ≤ n) : OkS n (x ++ y) := by
  refine okS_iff.mpr ⟨?_, fun c hc => ?_⟩
  · have := hx.len; have := hy.len; rw [app_len]; omega
  · rw [app_l] at hc
    exact (List.mem_append.mp hc).elim ((okS_iff.mp hx).2 c) ((okS_iff.mp hy).2 c)
theorem OkS.cut {n : Nat} {z : Str} {lo hi : Option Int} (h : OkS n z) : OkS n (cutS z lo hi) := by
  refine okS_iff.mpr ⟨Nat.le_trans (cutS_len z lo hi) h.len, fun c hc => (okS_iff.mp h).2 c ?_⟩
  have hc : c ∈ ((z.cps.toList.drop (HT.sIx z.length 0 lo)).take (HT.sIx z.length z.length hi - HT.sIx z.length 0 lo)) := hc
  exact List.mem_of_mem_drop (List.mem_of_mem_take hc)
theorem OkS.one {c : Nat} (h : c < 128) : OkS 1 ⟨#[c]⟩ := okS_iff.mpr ⟨Nat.le_refl _, fun d hd => by rw [List.mem_singleton.mp (show d ∈ [c] from hd)]; exact h⟩
theorem OkS.sign {n c : Nat} {z : Str} (h : OkS n z) (hc : c ∈ z.cps.toList) : OkS 1 ⟨#[c]⟩ := .one ((okS_iff.mp h).2 c hc)
theorem letsD_ok : OkS 36 letsD := by decide +kernel
theorem OkS.nm {z : Str} (h : isNm z = true) : OkS 8 z := by
  refine okS_iff.mpr ⟨(isNm_len h).2, fun d hd => ?_⟩
  cases e : z.cps.toList with
  | nil => rw [e] at hd; cases hd
  | cons c l =>
    rw [isNm_of e, Bool.and_eq_true, List.all_eq_true] at h
    exact (okS_iff.mp letsD_ok).2 d (of_decide_eq_true (h.2 d hd))
theorem OkS.num {n : Nat} (h : n < 100000) : OkS 5 (numS n) := by
  refine okS_iff.mpr ⟨numS_len h, fun c hc => ?_⟩
  rw [numS_l] at hc
  by_cases q : c < 48 ∨ 57 < c
  · exact absurd hc (TL.numL_free q)
  · omega
structure HasN (P : Program) (w : World) (K : PySem.W.Frag) (mg : Str → Option Value) (base : Heap) (CX : CXT) (x : Str) (k n : Nat) (ps ks : List Str) (gV : List V → List V → List V) (sp : Sp) : Prop where
  ex : ∃ f fd, FnOk P w K mg base CX k f fd ps sp ∧ mg x = some (.ref f) ∧ PySem.W.keepIn K (.ref f) = true ∧ ∃ g, KBn K fd ps n ks g gV
theorem HasN.mono {P : Program} {w : World} {K : PySem.W.Frag} {mg : Str → Option Value} {base : Heap} {CX : CXT} {x : Str} {j k n : Nat} {ps ks : List Str} {gV : List V → List V → List V} {sp : Sp} (h : HasN P w K mg base CX x j n ps ks gV sp) (l : j ≤ k) : HasN P w K mg base CX x k n ps ks gV sp := by
  obtain ⟨f, fd, F, r⟩ := h.ex
  exact ⟨f, fd, F.mono l, r⟩
structure HasD (P : Program) (w : World) (K : PySem.W.Frag) (mg : Str → Option Value) (base : Heap) (CX : CXT) (x : Str) (k : Nat) (ps : List Str) (dvs : List V) (sp : Sp) : Prop where
  ex : ∃ f fd, FnOk P w K mg base CX k f fd ps sp ∧ mg x = some (.ref f) ∧ PySem.W.keepIn K (.ref f) = true ∧ ∃ ds, Vals dvs ds ∧ Binds K fd ps ds
theorem HasD.mono {P : Program} {w : World} {K : PySem.W.Frag} {mg : Str → Option Value} {base : Heap} {CX : CXT} {x : Str} {j k : Nat} {ps : List Str} {dvs : List V} {sp : Sp} (h : HasD P w K mg base CX x j ps dvs sp) (l : j ≤ k) : HasD P w K mg base CX x k ps dvs sp := by
  obtain ⟨f, fd, F, r⟩ := h.ex
  exact ⟨f, fd, F.mono l, r⟩
def tCallNS (n m : Nat) (sp : Sp) (gV : List V → List V → List V) (E : L2.St → XK) (t tk : TA) : TE := fun σ H Q => t σ H fun vs H1 => tk σ H1 fun zs H2 => vs.length = n ∧ zs.length = m ∧ sp (gV vs zs) H2 Q (E σ)
section
variable {X : Cx} {CX : CXT} {x : Str} {k n : Nat} {ps ks : List Str} {dvs : List V} {gV : List V → List V → List V} {sp : Sp} {E : L2.St → XK} {p pos : Pos} {e : Expr} {es : List Expr} {kws : List Keyword} {t tk : TA}
theorem rd_callNS {m : Nat} {σ : L2.St} {H : Hp} {Q : VK} (h : t σ H fun vs H1 => tk σ H1 fun zs H2 => vs.length = n ∧ zs.length = m ∧ sp (gV vs zs) H2 Q (E σ)) : tCallNS n m sp gV E t tk σ H Q := h
theorem rd_callSD {σ : L2.St} {H : Hp} {Q : VK} (h : t σ H fun vs H1 => sp (vs ++ dvs) H1 Q (E σ)) : tCallSD sp dvs E t σ H Q := h
end
theorem log_ok {n : Nat} (hn : n < 100000) : (n : Int).natAbs.log2 < 1920 := by
  rw [Int.natAbs_natCast]
  by_cases h0 : n = 0
  · subst h0; decide
  · exact Nat.lt_of_lt_of_le ((Nat.log2_lt h0).mpr (by omega : n < 2 ^ 17)) (by decide)
theorem lc_rng {n k : Nat} {tt : TT} {te : TE} {vs : List Nat} {σ : L2.St} {H1 : Hp} {D : Addr} {Qd : Hp → Prop} (Pv : Nat → Hp → Prop) (h0 : Pv 0 (upd H1 D (.lst [])))
    (hs : ∀ i H, i < n → Pv i H → wipe ((wipe σ vs).set k (some (.int i))) vs = wipe σ vs ∧ tt ((wipe σ vs).set k (some (.int i))) H fun b H3 =>
      if b = true then te ((wipe σ vs).set k (some (.int i))) H3 fun y H4 => ∃ acc, H4 D = some (.lst acc) ∧ acc.length < sizeLine ∧ Pv (i + 1) (upd H4 D (.lst (acc ++ [y]))) else Pv (i + 1) H3) (hd : ∀ H, Pv n H → Qd H) :
    ∃ W : Nat → Nat → Hp → Prop, (∃ m, W 0 m (upd H1 D (.lst []))) ∧ ∀ i m H, W i m H →
      ((Itr 0 n).stop i H ∧ Qd H) ∨ ((Itr 0 n).go i H ∧ ∃ Nx : Hp → Prop, (∀ H', Nx H' → ∃ m', m' < m ∧ W (i + 1) m' H') ∧ ∀ x H', (Itr 0 n).yld i H x H' → gName k x (wipe σ vs) H' fun σ2 H2 => wipe σ2 vs = wipe σ vs ∧ tt σ2 H2 fun b H3 =>
        if b = true then te σ2 H3 fun y H4 => ∃ acc, H4 D = some (.lst acc) ∧ acc.length < sizeLine ∧ Nx (upd H4 D (.lst (acc ++ [y]))) else Nx H3) := by
  refine lc_range (lo := 0) Pv h0 (fun i H hi hp => ?_) hd
  have e : (V.int (0 + (i : Int))) = V.int i := by rw [Int.zero_add]
  rw [e]
  exact hs i H hi hp
def KeysAre (kvs : List (Key × V)) (ns : List Str) : Prop := ∀ x : Str, (valV kvs (Sum.inr x)).isSome = decide (x ∈ ns)
theorem KeysAre.put {kvs : List (Key × V)} {ns : List Str} {y : Str} {v : V} (h : KeysAre kvs ns) : KeysAre (putK kvs (Sum.inr y) v) (ns ++ [y]) := fun x => by
  rw [valV_put]
  by_cases e : (Sum.inr x : Key) = Sum.inr y
  · rw [if_pos e]
    have : x = y := Sum.inr.inj e
    subst this
    simp
  · rw [if_neg e, h x]
    have ne : x ≠ y := fun q => e (by rw [q])
    simp [ne]
theorem rd_dnewK {σ : L2.St} {H : Hp} {Q : VK} (h : ∀ p, H p = none → Q (.ref p) (upd H p (.dK []))) : tDNewK σ H Q := h
theorem rd_dput {td ty tv : TE} {D : Ends} {σ : L2.St} {H : Hp} (h : tv σ H fun v H1 => td σ H1 fun x H2 => ty σ H2 fun y H3 => ∃ a H4, x = .ref a ∧ DPut H3 a y v H4 ∧ D.nx σ H4) : sDPut td ty tv D σ H := h
theorem rd_dnotin {td ty : TE} {σ : L2.St} {H : Hp} {Q : VK} (h : ty σ H fun y H1 => td σ H1 fun x H2 => ∃ a o, x = .ref a ∧ DGet H2 a y o ∧ Q (.bl (!o.isSome)) H2) : tDNotIn ty td σ H Q := h
theorem ExS.free {S : Sto} {H H2 : Hp} {u : Addr} (e : ExS S H H2) (hS : StoreOk S H2) (n : H2 u = none) : H u = none := by
  cases q : H u with
  | none => rfl
  | some o => rw [e u o (hS.ne1 n) q] at n; cases n
set_option maxHeartbeats 2000000
abbrev Hnd := Value × Nat × (Addr → Value → Option Addr → TS)
/-- the clauses, one behind the other -/
def wAsM (K : PySem.W.Frag) (Wout : WX) (D : Ends) : List Hnd → WX
  | [] => Wout
  | q :: r => wAs K q.1 q.2.1 q.2.2 (wAsM K Wout D r) D
/-- each clause names its class, its own name's slot and its suite -/
inductive HdsAs (X : Cx) : List ExceptHandler → List Hnd → Prop
  | nil : HdsAs X [] []
  | cons {x n : Str} {c : Value} {i : Nat} {ts : Addr → Value → Option Addr → TS} {b₀ : Stmt} {suite : List Stmt} {np pos' : Pos} {hds : List ExceptHandler} {l : List Hnd} (hi : X.N[i]? = some n) (hln : X.env.kindOf n = some .local) (hc : Names X x c)
      (hsu : ∀ (a : Addr) (oe : Obj) (cls : Value) (d : Option Addr) (pn : List (Addr × Obj)), Zc cls d oe → (∃ vs, oe.data = .fields vs) → PSs (X.suite a ((a, oe) :: pn)) (b₀ :: suite) (ts a cls d)) (r : HdsAs X hds l) :
      HdsAs X (.ExceptHandler (some (.Name x np)) (some n) (b₀ :: suite) pos' :: hds) ((c, i, ts) :: l)
section
variable {X : Cx} {body : List Stmt} {h₀ : ExceptHandler} {hds : List ExceptHandler} {l : List Hnd} {pos : Pos} {tb : WX → TS} {Wout : WX}
theorem ps_try_asM (hs : X.stack = X.env :: X.outer) (hf : X.env.frame = some X.env.locals) (hN : X.N.Nodup) (tk : Takes X Wout)
    (hb : ∀ (W : WX) (pn : List (Addr × Obj)) (xe : Value → Shared → Prop), Takes (X.tr pn xe) W → PassesOwn (model X.prog X.w) X.A X.env xe → PSs (X.tr pn xe) body (tb W))
    (hh : HdsAs X (h₀ :: hds) l) : PS X (.Try body (h₀ :: hds) [] [] pos) (fun D σ H => tb (wAsM X.K Wout D l) D σ H) := by
  refine ⟨fun pins s σ H D I h => ?_⟩
  have ok := I.ok
  have hfr : X.A.frames = some (X.env :: X.outer) := by rw [ok.frames, hs]
  refine wpAny_Try_except ?_
  refine wpAny_mono ((hb (wAsM X.K Wout D l) (X.pn ++ pins) (fun e s₁ => wpAny (model X.prog X.w) X.A (noteFrame e X.env) (fun _ s₂ => wpAny (model X.prog X.w) X.A (setFlight e none) (fun _ s₃ =>
    wpAny (model X.prog X.w) X.A (handleBy e X.env (h₀ :: hds)) (SP X pins D) X.xe s₃) X.xe s₂) X.xe s₁) (fun u s' xx => ?_) PassesOwn.looking).run [] s σ H D (I.toTry _) h) (fun f s1 hsp => ?_) (fun e s1 he => he)
  · obtain ⟨a, B, sI, pins', σ', H', cls, d, rfl, J', nb, up, sky, na, os, ag, w⟩ := xx
    have J : Inv X pins σ' H' sI := J'.ofTry ok
    have sky' : Sky B (X.env :: X.outer) a (Zc cls d) X.env.locals s'.heap := by rw [← hs]; exact sky
    show wpAny (model X.prog X.w) X.A (noteFrame (.ref a) X.env) _ _ _
    refine Sky.land Zc.steady hfr hf sky' fun h3 fl3 up3 => ?_
    have J3 : Inv X pins σ' H' { s' with heap := h3 } := J.landed nb fl3.1 (up.trans up3) os ag
    obtain ⟨oe3, vs3, he3, hz3, hd3⟩ := fl3.there
    have nfr : a ∉ frs (X.env :: X.outer) := fun hm => by
      obtain ⟨_, o', e', hnf⟩ := fl3.2.2.1.mem hm
      rw [he3] at e'; cases e'
      exact hnf _ hd3
    have nL : a ≠ X.env.locals := fun z => nfr (List.mem_filterMap.mpr ⟨X.env, List.mem_cons_self, by rw [hf, z]⟩)
    have nF : a ∉ X.fs := fun hm => by
      obtain ⟨e, he, q⟩ := List.mem_filterMap.mp hm
      exact nfr (List.mem_filterMap.mpr ⟨e, List.mem_cons_of_mem _ he, q⟩)
    have S3 := J3.suite he3 hd3 na nL nF
    have go : ∀ {hds' : List ExceptHandler} {l' : List Hnd}, HdsAs X hds' l' → wAsM X.K Wout D l' cls d σ' H' → wpAny (model X.prog X.w) X.A (handleBy (.ref a) X.env hds') (SP X pins D) X.xe { s' with heap := h3 } := by
      intro hds' l' hk
      induction hk with
      | nil =>
        intro w
        refine wpAny_handleBy_nil ?_
        obtain ⟨k1, k2, k3, oe, vs, T, oT, ts', he, hz, hd, h1, hr⟩ := id fl3
        unfold PySem.passOn
        refine wpAny_bind (wpAny_field he hd h1 ?_)
        rw [if_neg (show ¬ ((Value.ref T == Value.none) = true) from by simp)]
        have fin : wpAny (model X.prog X.w) X.A (setFlight (.ref a) X.env.frame) (fun _ s4 => wpAny (model X.prog X.w) X.A (throw (.ref a) : Sem Flow) (SP X pins D) X.xe s4) X.xe { s' with heap := h3 } := by
          rw [hf]
          refine HandSPX.setFlight_upZ fl3 fun h4 hh4 up4 => wpAny_throw (tk _ _ ?_)
          exact ⟨a, B, sI, pins, σ', H', cls, d, rfl, J, nb, (up.trans up3).trans up4, .inr (.inr (by rw [hs]; exact hh4)), na, os, ag, w⟩
        first
          | exact wpAny_bind (wpAny_pure (wpAny_bind fin))
          | exact wpAny_bind fin
      | @cons x n c i ts b₀ suite np pos' hds2 l2 hi hln hc hsu r ih =>
        intro w
        obtain ⟨b, hb1, hyes, hno⟩ := w
        refine wpAny_handleBy_cons (codeAny_handlers_test ?_) (by intro q; cases q)
        have LT : PySem.W.Looks (model X.prog X.w) h3 (typeOf (.ref a)) cls := fun A Q E s k q => wpAny_typeOf_ref (k _ _ he3) (by rw [hz3.1]; exact q)
        have LM := PySem.W.exm_one (M := model X.prog X.w) (J3.kIn) LT hb1
        have test : ∀ {Q : Value → Shared → Prop} {E : Value → Shared → Prop}, Q c { s' with heap := h3 } → wpAny (model X.prog X.w) (X.A.mark (some (.ref a))) (eval (.Name x np) X.env) Q E { s' with heap := h3 } := fun {Q E} q => by
          obtain ⟨hg, hdbg, hm | ⟨hm, hv, hnn⟩⟩ := hc
          · exact ld_glob (X := X.suite a ((a, oe3) :: (X.pn ++ pins))) S3 hg hm q hdbg
          · exact ld_blt (X := X.suite a ((a, oe3) :: (X.pn ++ pins))) S3 hg hm hv q hnn hdbg
        refine test (LM.here ?_)
        cases b with
        | true =>
          refine codeAny_handlers_suite_as ?_
          refine HandSPX.lands_againZ fl3 fun h4 fl4 up4 => ?_
          have J4 : Inv X pins σ' H' { s' with heap := h4 } := J.landed nb fl4.1 ((up.trans up3).trans up4) os ag
          obtain ⟨oe4, vs4, he4, hz4, hd4⟩ := fl4.there
          have S4 := J4.suite he4 hd4 na nL nF
          have hloc : Loc X.env.scope n := .inl hln
          refine store_ok (X := X.suite a ((a, oe4) :: (X.pn ++ pins))) (v := .ref a) S4 hN hi hloc rfl (fun s5 S5 => ?_) (.inr hln)
          refine wpAny_mono ((hsu a oe4 cls d (X.pn ++ pins) hz4 ⟨_, hd4⟩).run [] s5 _ H' _ S5 (hyes rfl a na)) (fun f s6 hsp => ?_) (fun _ _ z => False.elim z)
          have end_ : ∀ {σ6 : L2.St} {H6 : Hp} {Q : Shared → Prop}, Inv (X.suite a ((a, oe4) :: (X.pn ++ pins))) [] σ6 H6 s6 → (∀ s7, Inv X pins (σ6.set i none) H6 s7 → Q s7) →
              wpAny (model X.prog X.w) X.A (do bindName X.env n .none; unbindBehindTheSuite X.env n pos') (fun _ s7 => Q s7) X.xe s6 := fun {σ6 H6 Q} S6 hq => gone_ok (S6.unsuite ok) hN hi hln hq
          cases f with
          | next =>
            obtain ⟨σ6, H6, S6, q6⟩ := hsp
            exact end_ S6 fun s7 J7 => ⟨_, _, J7, q6⟩
          | brk =>
            obtain ⟨σ6, H6, S6, q6⟩ := hsp
            exact end_ S6 fun s7 J7 => ⟨_, _, J7, q6⟩
          | cont =>
            obtain ⟨σ6, H6, S6, q6⟩ := hsp
            exact end_ S6 fun s7 J7 => ⟨_, _, J7, q6⟩
          | ret u =>
            obtain ⟨v6, σ6, H6, S6, r6, q6⟩ := hsp
            exact end_ S6 fun s7 J7 => ⟨_, _, _, J7, r6, q6⟩
        | false =>
          show wpAny _ X.A (handleBy (.ref a) X.env hds2) _ _ _
          exact ih (hno rfl)
    exact go hh w
  · cases f with
    | next =>
      obtain ⟨σ', H', J', q⟩ := hsp
      exact wpAny_execs_nil ⟨σ', H', J'.ofTry ok, q⟩
    | brk =>
      obtain ⟨σ', H', J', q⟩ := hsp
      exact ⟨σ', H', J'.ofTry ok, q⟩
    | cont =>
      obtain ⟨σ', H', J', q⟩ := hsp
      exact ⟨σ', H', J'.ofTry ok, q⟩
    | ret u =>
      obtain ⟨v, σ', H', J', r, q⟩ := hsp
      exact ⟨v, σ', H', J'.ofTry ok, r, q⟩
end
set_option maxHeartbeats 1000000
structure HasM (P : Program) (w : World) (K : PySem.W.Frag) (mg : Str → Option Value) (base : Heap) (CX : CXT) (C : Addr) (x : Str) (k : Nat) (ps : List Str) (sp : Sp) : Prop where
  ex : ∃ f fd, FnOk P w K mg base CX k f fd ps sp ∧ PySem.W.findIn K (.ref C) x = some (some (.ref f)) ∧ PySem.W.isFn K (.ref f) = true ∧ Binds K fd ps []
theorem HasM.mono {P : Program} {w : World} {K : PySem.W.Frag} {mg : Str → Option Value} {base : Heap} {CX : CXT} {C : Addr} {x : Str} {j k : Nat} {ps : List Str} {sp : Sp} (h : HasM P w K mg base CX C x j ps sp) (l : j ≤ k) : HasM P w K mg base CX C x k ps sp := by
  obtain ⟨f, fd, F, r⟩ := h.ex
  exact ⟨f, fd, F.mono l, r⟩
def spInit2 (K : PySem.W.Frag) (f g : Str) : Sp := fun vs H Q _ => ∃ (a C : Addr) (u v : V), vs = [.ref a, u, v] ∧ OexC K C ∧ PySem.W.findIn K (.ref C) f = some none ∧ PySem.W.findIn K (.ref C) g = some none ∧ H a = some (exo a C none) ∧
  ∀ dx, H dx = none → dx ≠ a → Q .non (upd (upd (upd H dx (exd dx [(f, u)])) a (exo a C (some dx))) dx (exd dx [(g, v), (f, u)]))
theorem rd_mk2 {K : PySem.W.Frag} {C : Addr} {f g : Str} {u v : V} {H1 : Hp} {W : XK} (T : OexC K C) (nf : PySem.W.findIn K (.ref C) f = some none) (ng : PySem.W.findIn K (.ref C) g = some none) (h : ∀ d H', H1 d = none → Same H1 H' → H' d = some (.xd [(g, v), (f, u)]) → W (.ref C) (some d) H') :
    [u, v].length ≤ 1000 ∧ ∀ a, H1 a = none → spInit2 K f g (.ref a :: ([u, v] ++ [])) (upd H1 a (exo a C none))
      (fun v H2 => v = .non ∧ ∃ (d : Addr) (fs : List (Str × V)), H2 a = some (exo a C (some d)) ∧ H2 d = some (exd d fs) ∧ H1 d = none ∧ W (.ref C) (some d) (upd (del H2 a) d (.xd fs))) (fun _ _ _ => False) := by
  refine ⟨by simp, fun a na => ⟨a, C, u, v, rfl, T, nf, ng, upd_same, fun dx ndx ne => ?_⟩⟩
  have nd : H1 dx = none := by rw [upd_ne ne] at ndx; exact ndx
  refine ⟨rfl, dx, [(g, v), (f, u)], by rw [upd_ne ne.symm]; exact upd_same, upd_same, nd, h dx _ nd (fun b o hb => ?_) upd_same⟩
  have h1 := ne_of_none hb na
  have h2 := ne_of_none hb nd
  rw [upd_ne h2, del_ne h1, upd_ne h2, upd_ne h1, upd_ne h2, upd_ne h1]
  exact hb
theorem rd_fld {K : PySem.W.Frag} {te : TE} {f : Str} {σ : L2.St} {H : Hp} {Q : VK} (h : te σ H fun x H1 => ∃ a C dx fs v, x = .ref a ∧ H1 a = some (.ins C dx fs) ∧ Cls K C ∧ NoAttr K C f ∧ fs.lookup f = some v ∧ Q v H1) : tFld K te f σ H Q := h
theorem rd_sfld {K : PySem.W.Frag} {ta tv : TE} {f : Str} {D : Ends} {σ : L2.St} {H : Hp} (h : tv σ H fun y H1 => ta σ H1 fun x H2 => ∃ a C dx fs, x = .ref a ∧ H2 a = some (.ins C dx fs) ∧ Cls K C ∧ NoAttr K C f ∧ fs.length < 1000 ∧ D.nx σ (upd H2 a (.ins C dx (putF f y fs)))) : sFld K ta tv f D σ H := h
theorem rd_make {C : Addr} {sp : Sp} {dvs : List V} {E : XK} {t : TA} {σ : L2.St} {H : Hp} {Q : VK} (h : t σ H fun vs H1 => ∀ x dx, H1 x = none → H1 dx = none → dx ≠ x → sp (.ref x :: (vs ++ dvs)) (upd (upd H1 dx (.own x)) x (.ins C dx [])) (fun v H2 => v = .non ∧ Q (.ref x) H2) E) : tMake C sp dvs E t σ H Q := h
set_option maxHeartbeats 1000000
set_option maxHeartbeats 1000000
def tMakeS (C : Addr) (sp : Sp) (dvs : List V) (E : L2.St → XK) (t : TA) : TE := fun σ H Q => t σ H fun vs H1 => ∀ x dx, H1 x = none → H1 dx = none → dx ≠ x →
  sp (.ref x :: (vs ++ dvs)) (upd (upd H1 dx (.own x)) x (.ins C dx [])) (fun v H2 => v = .non ∧ Q (.ref x) H2) (E σ)
section
variable {X : Cx} {CX : CXT} {C f : Addr} {fd : FuncData} {x : Str} {k : Nat} {ps : List Str} {ds : List Value} {dvs : List V} {sp : Sp} {E : L2.St → XK} {p pos : Pos} {e : Expr} {es : List Expr} {t : TA}
theorem pe_makeS (M : Mk X.K C f) (F : FnOk X.prog X.w X.K X.mg X.base CX k f fd ps sp) (hr : Room (k + 1) X.A) (hg : Gl X x) (hm : X.mg x = some (.ref C)) (hb : Binds X.K fd ps ds) (hd : Vals dvs ds) (hx : ∀ σ, PassesAt CX X σ (E σ)) (ha : PA X (e :: es) t)
    (hdb : (x == ("__debug__" : Str)) = false := by decide) (he : starEach (e :: es) X.env = (false, eval e X.env) :: starEach es X.env := by rfl) (hpl : (backTo pos (starEach es X.env)).any (·.1) = false := by rfl) :
    PE X (.Call (.Name x p) (e :: es) [] pos) (tMakeS C sp dvs E t) := by
  refine ⟨fun pins s σ H Q I h => ?_⟩
  refine wpAny_Call_Name_kw (ld_glob I hg hm ?_ hdb)
  refine PySem.W.callWith_K (h₀ := X.base) I.ok.mod.kin M.kp (thn (ha.run pos pins s σ H _ I h) fun us s1 ⟨vs, H1, I1, r, q⟩ => ⟨I1.kIn, ?_⟩) he hpl
  have hq := q (s1.heap.objs.size + 1) s1.heap.objs.size (I1.hok.fresh (Nat.le_succ _)) (I1.hok.fresh (Nat.le_refl _)) (Nat.ne_of_lt (Nat.lt_succ_self _))
  have I2 := Inv.made (C := C) I1
  have r2 : Vals (V.ref (s1.heap.objs.size + 1) :: (vs ++ dvs)) (Value.ref (s1.heap.objs.size + 1) :: (us ++ ds)) := .cons rfl (r.append hd)
  have hl : (Value.ref (s1.heap.objs.size + 1) :: us ++ ds).length = ps.length := by
    have e := r2.length
    rw [F.len _ _ _ _ hq] at e
    exact e.symm
  refine wpAny_call (make_map (f := f) I1.kIn M.makes M.init (beq_iff_eq.mp M.fn) (codeAny_mono (F.run _ X.stack _ _ ⟨Value.ref (s1.heap.objs.size + 1) :: us, []⟩ (Value.ref (s1.heap.objs.size + 1) :: (us ++ ds)) _ _ (E σ) (hr.make C us [])
    (I2.env0.make C us []) (hb _ (Value.ref (s1.heap.objs.size + 1) :: us) I2.kIn hl) r2 hq) fun r s' hq' => ?_))
  cases r with
  | error e => exact hx σ pins _ _ e s' I2 hq'
  | ok fl =>
    cases fl with
    | ret u =>
      obtain ⟨v, H', I3, rv, ev, q3⟩ := I2.after hq'
      subst ev
      exact ⟨rv, ⟨V.ref (s1.heap.objs.size + 1), H', I3, rfl, q3⟩⟩
    | next => exact False.elim hq'
    | brk => exact False.elim hq'
    | cont => exact False.elim hq'
theorem rd_makeS {σ : L2.St} {H : Hp} {Q : VK} (h : t σ H fun vs H1 => ∀ x dx, H1 x = none → H1 dx = none → dx ≠ x → sp (.ref x :: (vs ++ dvs)) (upd (upd H1 dx (.own x)) x (.ins C dx [])) (fun v H2 => v = .non ∧ Q (.ref x) H2) (E σ)) : tMakeS C sp dvs E t σ H Q := h
end
set_option maxHeartbeats 1000000
section
variable {X : Cx} {CX : CXT} {C f g q : Addr} {fd : FuncData} {x : Str} {k i : Nat} {ps ks : List Str} {ds : List Value} {dvs : List V} {sp : Sp} {E : L2.St → XK} {p pos apos : Pos} {e o : Expr} {es : List Expr} {kws : List Keyword} {t tk : TA} {ta : TE} {m : Str} {mc : Value} {pl : Sem Bool}
/-- a call that is bound already -/
theorem code_fnS {pins : List (Addr × Obj)} {σ : L2.St} {H : Hp} {s : Shared} {Q : VK} {us ws : List Value} {kw : List (Str × Value)} {vs : List V} {E : XK} (F : FnOk X.prog X.w X.K X.mg X.base CX k f fd ps sp) (hr : Room k X.A) (hb : BindsTo s fd ⟨us, kw⟩ (ps.zip ws)) (hx : PassesAt CX X σ E)
    (I : Inv X pins σ H s) (r : Vals vs ws) (h : sp vs H Q E) : codeAny (model X.prog X.w) X.A (.call (.ref f) ⟨us, kw⟩) (fun r s' => match r with | .ok (.ret v) => EP X pins σ Q v s' | .ok _ => False | .error e => X.xe e s') s := by
  refine codeAny_mono (F.run X.A X.stack s H ⟨us, kw⟩ ws vs Q E hr I.env0 hb r h) fun r s' hq => ?_
  cases r with
  | error e => exact hx pins H s e s' I hq
  | ok fl =>
    cases fl with
    | ret u => exact I.after hq
    | next => exact False.elim hq
    | brk => exact False.elim hq
    | cont => exact False.elim hq
end
set_option maxHeartbeats 1000000
theorem ok_there {P : Program} {w : World} {H : Hp} {h : Heap} {a : Addr} {o : HO} (x : ObjOk P w H h a o) : ∃ u, h.get? a = some u := by
  cases o with
  | lst xs => obtain ⟨_, _, _, _, e⟩ := x; exact ⟨_, e⟩
  | tup xs => obtain ⟨_, _, _, ob, e, _⟩ := x; exact ⟨_, e⟩
  | dK kvs => obtain ⟨_, _, _, _, o, _, _, e, _⟩ := x; exact ⟨_, e⟩
  | dT kvs => obtain ⟨_, _, _, _, o, _, _, e, _⟩ := x; exact ⟨_, e⟩
  | set S n => obtain ⟨o, _, _, _, e, _⟩ := x; exact ⟨_, e⟩
  | ins C dx fs => obtain ⟨_, _, _, e, _⟩ := x; exact ⟨_, e⟩
  | own y => obtain ⟨_, e⟩ := x; exact ⟨_, e⟩
  | xd fs => obtain ⟨_, ⟨_, _, _, e, _⟩, _⟩ := x; exact ⟨_, e⟩
  | rng lo hi => obtain ⟨_, _, _, e⟩ := x; exact ⟨_, e⟩
  | frz ob u => obtain ⟨e, _⟩ := x; exact ⟨_, e⟩
  | tbl ps => exact ⟨_, (show h.get? a = some _ from x)⟩
  | met f y => exact ⟨_, (show h.get? a = some _ from x)⟩
  | ext φ => obtain ⟨_, ⟨_, e⟩, _⟩ := x; exact ⟨_, e⟩
def ltS (a b : Str) : Prop := a.cps.toList < b.cps.toList
instance (a b : Str) : Decidable (ltS a b) := by unfold ltS; exact inferInstance
theorem ltS_asymm {a b : Str} (h1 : ltS a b) : ¬ ltS b a := fun h2 => List.lt_irrefl _ (List.lt_trans h1 h2)
theorem ltS_tri {a b : Str} (h1 : ¬ ltS a b) (h2 : ¬ ltS b a) : a = b := str_ext (List.le_antisymm (List.not_lt.mp h2) (List.not_lt.mp h1))
section
variable {X : Cx}
theorem op_mul_str : OpR X (binaryOp .Mult) (fun x y H Q => ∃ (z : Str) (n : Int), x = .str z ∧ y = .int n ∧ 0 ≤ n ∧ n ≤ 1000 ∧ z.length ≤ 1000 ∧ Q (.str (Txt.mul z n)) H) := by
  intro pins s σ H x y v u Q I rx ry h
  obtain ⟨z, n, rfl, rfl, h0, h1, hz, q⟩ := h
  obtain ⟨t, rfl⟩ := rx
  obtain ⟨t', rfl⟩ := ry
  refine SB.mul ⟨?_, fun h2 _ => ?_, fun h2 _ => ?_⟩ fun t'' k => ⟨.str _, H, I.tok _, ⟨_, rfl⟩, q⟩
  · rw [Bool.or_eq_false_iff]
    exact ⟨decide_eq_false (by omega), decide_eq_false (by omega)⟩
  · have : (1000 : Int) ≤ (2 ^ 63 - 1) / n := by
      rw [Int.le_ediv_iff_mul_le (by omega)]
      omega
    omega
  · unfold Builtin.Str.tooLong
    rw [decide_eq_false_iff_not, sizeLine_eq]
    have h3 : n.toNat ≤ 1000 := by omega
    have := Nat.mul_le_mul hz h3
    omega
end
set_option maxHeartbeats 1000000
def iSeq (K : PySem.W.Frag) (te : TE) : TI := fun σ H R => te σ H fun x H1 => ∃ a, x = .ref a ∧ (((∃ xs, SqL K H1 a xs) ∧ R (Itl K a) H1) ∨ ((∃ xs, SqT K H1 a xs) ∧ R (Itt K a) H1))
theorem pi_seq {X : Cx} {tg : Expr} {l : Expr} {tl : TE} (hl : PE X l tl) : PI X tg l (iSeq X.K tl) := by
  refine ⟨fun pins s σ H R I h => ?_⟩
  refine thn (hl.run pins s σ H _ I h) fun v s1 ⟨x, H1, I1, r1, q1⟩ => ?_
  obtain ⟨a, e, ⟨⟨xs, hq⟩, q⟩ | ⟨⟨xs, hq⟩, q⟩⟩ := q1
  · subst e
    cases r1
    obtain ⟨its, rv, p, hz⟩ := I1.list hq
    refine wpAny_pyIter_list p.isList ?_
    refine ⟨s1.heap.objs.size, [s1.heap.objs.size], _, _, H1, rfl, I1.kept (t' := s1.toks) fun b o e => Heap.get?_push_of_some _ e, turn_list a _, ⟨_, Heap.get?_push_size _ rfl, rfl, rfl⟩, fun b hb => ?_, q⟩
    have e : b = s1.heap.objs.size := by simpa using hb
    subst e
    exact I1.fpOk (Nat.le_refl _) (I1.hok.fresh (Nat.le_refl _))
  · subst e
    cases r1
    obtain ⟨its, rv, p, hz⟩ := I1.tuple hq
    refine wpAny_pyIter_tuple (show s1.heap.IsTuple a its.toArray from p) ?_
    refine ⟨s1.heap.objs.size, [s1.heap.objs.size], _, _, H1, rfl, I1.kept (t' := s1.toks) fun b o e => Heap.get?_push_of_some _ e, turn_tuple a _, ⟨_, Heap.get?_push_size _ rfl, rfl, rfl⟩, fun b hb => ?_, q⟩
    have e : b = s1.heap.objs.size := by simpa using hb
    subst e
    exact I1.fpOk (Nat.le_refl _) (I1.hok.fresh (Nat.le_refl _))
def Strs (H : Hp) (a : Addr) (ns : List Str) : Prop := H a = some (.lst (ns.map V.str)) ∨ H a = some (.tup (ns.map V.str))
theorem Strs.same {H H' : Hp} {a : Addr} {ns : List Str} (h : Strs H a ns) (s : Same H H') : Strs H' a ns := h.elim (fun h => .inl (s _ _ h)) fun h => .inr (s _ _ h)
theorem Strs.seq {K : PySem.W.Frag} {H : Hp} {a : Addr} {ns : List Str} (h : Strs H a ns) : SqL K H a (ns.map V.str) ∨ SqT K H a (ns.map V.str) := h.elim (fun h => .inl (sl_of h)) fun h => .inr (st_of h)
theorem rd_iSeq {K : PySem.W.Frag} {te : TE} {σ : L2.St} {H : Hp} {R : It → Hp → Prop} (h : te σ H fun x H1 => ∃ a, x = .ref a ∧ (((∃ xs, SqL K H1 a xs) ∧ R (Itl K a) H1) ∨ ((∃ xs, SqT K H1 a xs) ∧ R (Itt K a) H1))) : iSeq K te σ H R := h
theorem get_strs {U : List Str} {i : Nat} {x : V} (h : (U.map V.str)[i]? = some x) : ∃ z, U[i]? = some z ∧ x = .str z := get_map h
theorem for_strs {K : PySem.W.Frag} {σ : L2.St} {H : Hp} {D : Ends} {U : List Str} {k : Nat} {tb : TS} {a : Addr} (hA : Strs H a U) (Pv : Nat → L2.St → Hp → Prop) (h0 : Pv 0 σ H) (hl : ∀ i σ H', Pv i σ H' → ∀ o, H a = some o → H' a = some o)
    (hs : ∀ i z σ H', U[i]? = some z → Pv i σ H' → tb { D with nx := Pv (i + 1), ct := Pv (i + 1), bk := D.nx } (σ.set k (some (.str z))) H') (hd : ∀ σ H', Pv U.length σ H' → D.nx σ H') :
    ((∃ xs, SqL K H a xs) ∧ ∃ W : Nat → Nat → L2.St → Hp → Prop, (∃ m, W 0 m σ H) ∧ ∀ i m σ H, W i m σ H →
      ((Itl K a).stop i H ∧ D.nx σ H) ∨ ((Itl K a).go i H ∧ ∃ N : L2.St → Hp → Prop, (∀ σ' H', N σ' H' → ∃ m', m' < m ∧ W (i + 1) m' σ' H') ∧ ∀ x H', (Itl K a).yld i H x H' → gName k x σ H' fun σ2 H2 => tb { D with nx := N, ct := N, bk := D.nx } σ2 H2)) ∨
    ((∃ xs, SqT K H a xs) ∧ ∃ W : Nat → Nat → L2.St → Hp → Prop, (∃ m, W 0 m σ H) ∧ ∀ i m σ H, W i m σ H →
      ((Itt K a).stop i H ∧ D.nx σ H) ∨ ((Itt K a).go i H ∧ ∃ N : L2.St → Hp → Prop, (∀ σ' H', N σ' H' → ∃ m', m' < m ∧ W (i + 1) m' σ' H') ∧ ∀ x H', (Itt K a).yld i H x H' → gName k x σ H' fun σ2 H2 => tb { D with nx := N, ct := N, bk := D.nx } σ2 H2)) := by
  rcases hA with hA | hA
  · refine .inl ⟨⟨_, sl_of hA⟩, for_lst (xs := U.map V.str) Pv h0 (fun i σ H' hp => hl i σ H' hp _ hA) (fun i x σ H' hx hp => ?_) (fun σ H' hp => hd σ H' (by rw [List.length_map] at hp; exact hp))⟩
    obtain ⟨z, hz, rfl⟩ := get_strs hx
    exact hs i z σ H' hz hp
  · refine .inr ⟨⟨_, st_of hA⟩, L2.for_tup (xs := U.map V.str) (g := gName k) Pv h0 (fun i σ H' _ hp => st_of (hl i σ H' hp _ hA)) (fun i x σ H' hx hp => ?_) (fun σ H' hp => hd σ H' (by rw [List.length_map] at hp; exact hp))⟩
    obtain ⟨z, hz, rfl⟩ := get_strs hx
    exact hs i z σ H' hz hp
def firstDup : List Str → List Str → Option Str
  | _, [] => none
  | seen, z :: r => if z ∈ seen then some z else firstDup (seen ++ [z]) r
theorem dup_step {U : List Str} {i : Nat} {z : Str} (h : U[i]? = some z) : firstDup (U.take i) (U.drop i) = if z ∈ U.take i then some z else firstDup (U.take (i + 1)) (U.drop (i + 1)) := by
  have hl := (List.getElem?_eq_some_iff.mp h).1
  have e : U.drop i = z :: U.drop (i + 1) := by rw [List.drop_eq_getElem_cons hl]; congr 1; exact (List.getElem?_eq_some_iff.mp h).2
  have e2 : U.take (i + 1) = U.take i ++ [z] := by rw [List.take_add_one, h]; rfl
  rw [e, e2]; rfl
theorem take_mem {U : List Str} {i : Nat} {z : Str} (x : Str) (h : U[i]? = some z) : (decide (x ∈ U.take i) || decide ((Sum.inr x : Key) = Sum.inr z)) = decide (x ∈ U.take (i + 1)) := by
  have e2 : U.take (i + 1) = U.take i ++ [z] := by rw [List.take_add_one, h]; rfl
  rw [e2, Bool.eq_iff_iff]
  simp [List.mem_append]
theorem dup_end {U : List Str} : firstDup (U.take U.length) (U.drop U.length) = none := by rw [List.drop_length]; rfl
theorem dup_none {U : List Str} : ∀ {s : List Str}, s.Nodup → (firstDup s U = none ↔ (s ++ U).Nodup) := by
  induction U with
  | nil => intro s hs; simp [firstDup, hs]
  | cons y r ih =>
    intro s hs
    unfold firstDup
    by_cases h : y ∈ s
    · rw [if_pos h]
      refine ⟨fun e => (by cases e), fun n => ?_⟩
      rw [List.nodup_append] at n
      exact absurd rfl (n.2.2 y h y List.mem_cons_self)
    · rw [if_neg h]
      have hs2 : (s ++ [y]).Nodup := by
        rw [List.nodup_append]
        refine ⟨hs, by simp, fun a ha b hb => ?_⟩
        rw [List.mem_singleton.mp hb]
        exact fun e => h (e ▸ ha)
      rw [ih hs2, List.append_assoc]; rfl
theorem dup_none' {U : List Str} : firstDup [] U = none ↔ U.Nodup := by rw [dup_none List.nodup_nil]; rfl
set_option maxHeartbeats 1000000
section
variable {r : V → List V → Hp → VK → Prop} {to te : TE} {σ : L2.St} {H : Hp} {Q : VK}
theorem rd_m0 (h : to σ H fun x H1 => (∃ a, x = .str a) ∧ r x [] H1 Q) : tM0 r to σ H Q := h
theorem rd_m1 (h : to σ H fun x H1 => (∃ a, x = .str a) ∧ te σ H1 fun y H2 => r x [y] H2 Q) : tM1 r to te σ H Q := h
theorem rd_js {t : TE} {ts : List TE} {acc : Str} {R : Str → Hp → Prop} (h : t σ H fun x H1 => ∃ y : Str, x = .str y ∧ (acc ++ y).length ≤ sizeLine ∧ tJs ts (acc ++ y) σ H1 R) : tJs (t :: ts) acc σ H R := h
theorem rd_js0 {acc : Str} {R : Str → Hp → Prop} (h : R acc H) : tJs [] acc σ H R := h
theorem rd_fmt (h : te σ H fun x H1 => (∃ y : Str, x = .str y ∧ y.length ≤ sizeLine ∧ Q (.str y) H1) ∨ ∃ i : Int, x = .int i ∧ i.natAbs.log2 < 1920 ∧ Q (.str (toString i)) H1) : tFmt te σ H Q := h
theorem rd_asgT {g : TG} {D : Ends} (h : te σ H fun v H1 => g v σ H1 D.nx) : tAsg te g D σ H := h
theorem rd_isS {z : Str} {A : Prop} (h : A) : (∃ a, V.str z = V.str a) ∧ A := ⟨⟨z, rfl⟩, h⟩
theorem rd_st1 {z : Str} {R : Str → Prop} (h : R z) : ∃ a, V.str z = .str a ∧ ([] : List V) = [] ∧ True ∧ R a := ⟨z, rfl, rfl, trivial, h⟩
theorem rd_neS {i j : Str} {Q : VK} (h : Q (.bl (!decide (i = j))) H) : rNe (.str i) (.str j) H Q := ⟨rfl, by
  have e : decide (V.str i = V.str j) = decide (i = j) := by simp
  rw [e]; exact h⟩
theorem rd_nl {A : Prop} (h : A) : ([] : List V) = [] ∧ True ∧ A := ⟨rfl, trivial, h⟩
theorem rd_st2 {z y : Str} {R : Str → Str → Prop} (h : R z y) : ∃ a b, V.str z = .str a ∧ [V.str y] = [.str b] ∧ R a b := ⟨z, y, rfl, rfl, h⟩
end
structure HasPr (P : Program) (w : World) (K : PySem.W.Frag) (mg : Str → Option Value) (base : Heap) (CX : CXT) (C : Addr) (f : Str) (k : Nat) (ps : List Str) (sp : Sp) : Prop where
  ex : ∃ p g fd, PropOf K C f p g ∧ FnOk P w K mg base CX k g fd ps sp ∧ Binds K fd ps []
theorem HasPr.mono {P : Program} {w : World} {K : PySem.W.Frag} {mg : Str → Option Value} {base : Heap} {CX : CXT} {C : Addr} {f : Str} {j k : Nat} {ps : List Str} {sp : Sp} (h : HasPr P w K mg base CX C f j ps sp) (l : j ≤ k) : HasPr P w K mg base CX C f k ps sp := by
  obtain ⟨p, g, fd, a, F, b⟩ := h.ex
  exact ⟨p, g, fd, a, F.mono l, b⟩
structure SMet (K : PySem.W.Frag) (C : Addr) (mc : Value) (m : Str) (p g : Addr) : Prop where
  at_ : PySem.W.findCls K (.ref C) mc m = some (.get (.builtin "staticmethod.__get__") (.ref p) .none (.ref C))
  rc : ∃ rest, PySem.W.recIn K p "staticmethod" = some (.ref g :: rest)
structure SInst (K : PySem.W.Frag) (C : Addr) (m : Str) (p g : Addr) : Prop where
  pg : PySem.W.plainGet K C Str.empty = true
  ic : PySem.W.isClsIn K C = true
  at_ : PySem.W.findIn K (.ref C) m = some (some (.ref p))
  ty : PySem.W.typeIn K (.ref p) = some (.type "staticmethod")
  get : PySem.W.specialIn K (.ref p) "__get__" = some (some (.builtin "staticmethod.__get__"))
  tk : PySem.W.takesIn K (.ref p) = some false
  cp : PySem.W.copiedNames.contains m = false
  rc : ∃ rest, PySem.W.recIn K p "staticmethod" = some (.ref g :: rest)
structure HasSM (P : Program) (w : World) (K : PySem.W.Frag) (mg : Str → Option Value) (base : Heap) (CX : CXT) (C : Addr) (m : Str) (k : Nat) (ps ks : List Str) (sp : Sp) : Prop where
  ex : ∃ g fd q mc, FnOk P w K mg base CX k g fd ps sp ∧ ClX.CRead K C mc ∧ SMet K C mc m q g ∧ SInst K C m q g ∧ PySem.W.keepIn K (.ref g) = true ∧ Binds K fd ps [] ∧ ∀ (s : Shared) (ws : List Value), ws.length = ks.length → BindsTo s fd ⟨[], ks.zip ws⟩ (ps.zip ws)
theorem HasSM.mono {P : Program} {w : World} {K : PySem.W.Frag} {mg : Str → Option Value} {base : Heap} {CX : CXT} {C : Addr} {m : Str} {j k : Nat} {ps ks : List Str} {sp : Sp} (h : HasSM P w K mg base CX C m j ps ks sp) (l : j ≤ k) : HasSM P w K mg base CX C m k ps ks sp := by
  obtain ⟨g, fd, q, mc, F, r⟩ := h.ex
  exact ⟨g, fd, q, mc, F.mono l, r⟩
def tSMeth (C : Addr) (sp : Sp) (E : L2.St → XK) (ta : TE) (t : TA) : TE := fun σ H Q => ta σ H fun x H1 => x = .ref C ∧ t σ H1 fun vs H2 => sp vs H2 Q (E σ)
def tSMethK (C : Addr) (n : Nat) (sp : Sp) (E : L2.St → XK) (ta : TE) (tk : TA) : TE := fun σ H Q => ta σ H fun x H1 => x = .ref C ∧ tk σ H1 fun zs H2 => zs.length = n ∧ sp zs H2 Q (E σ)
def tSMethI (C : Addr) (m : Str) (sp : Sp) (E : L2.St → XK) (ta : TE) (t : TA) : TE := fun σ H Q => ta σ H fun x H1 => ∃ a dx fs, x = .ref a ∧ H1 a = some (.ins C dx fs) ∧ fs.lookup m = none ∧ t σ H1 fun vs H2 => sp vs H2 Q (E σ)
section
variable {X : Cx} {CX : CXT} {C f g q : Addr} {fd : FuncData} {x : Str} {k i : Nat} {ps ks : List Str} {ds : List Value} {dvs : List V} {sp : Sp} {E : L2.St → XK} {p pos apos : Pos} {e o : Expr} {es : List Expr} {kws : List Keyword} {t tk : TA} {ta : TE} {m : Str} {mc : Value} {pl : Sem Bool}
theorem pe_propH {f : Str} {E : XK} (h : HasPr X.prog X.w X.K X.mg X.base CX C f k ps sp) (c : Cls X.K C) (he : PE X e ta) (hr : Room (k + 1) X.A) (hx : Passes CX X.nox E) (hab : attributeBase e f X.env (eval e X.env) = eval e X.env := by rfl) : PE X (.Attribute e f pos) (tProp C sp [] E ta) := by
  obtain ⟨p, g, fd, a, F, b⟩ := h.ex
  exact pe_prop he c a F hr b .nil hx hab
theorem rd_prop {E : XK} {σ : L2.St} {H : Hp} {Q : VK} (h : ta σ H fun x H1 => ∃ a dx fs, x = .ref a ∧ H1 a = some (.ins C dx fs) ∧ sp (.ref a :: dvs) H1 Q E) : tProp C sp dvs E ta σ H Q := h
theorem rd_sm {σ : L2.St} {H : Hp} {Q : VK} (h : ta σ H fun x H1 => x = .ref C ∧ t σ H1 fun vs H2 => sp vs H2 Q (E σ)) : tSMeth C sp E ta t σ H Q := h
theorem rd_smK {n : Nat} {σ : L2.St} {H : Hp} {Q : VK} (h : ta σ H fun x H1 => x = .ref C ∧ tk σ H1 fun zs H2 => zs.length = n ∧ sp zs H2 Q (E σ)) : tSMethK C n sp E ta tk σ H Q := h
theorem rd_smI {σ : L2.St} {H : Hp} {Q : VK} (h : ta σ H fun x H1 => ∃ a dx fs, x = .ref a ∧ H1 a = some (.ins C dx fs) ∧ fs.lookup m = none ∧ t σ H1 fun vs H2 => sp vs H2 Q (E σ)) : tSMethI C m sp E ta t σ H Q := h
end
set_option maxHeartbeats 1000000
abbrev D := PyData
def kids : D → List D
  | .list xs => xs
  | .tuple xs => xs
  | _ => []
def isSeq : D → Bool
  | .list _ => true
  | .tuple _ => true
  | _ => false
mutual
inductive Rep (U : Addr → Prop) (H : Hp) : V → D → Prop where
  | non : Rep U H .non .none
  | bl (b : Bool) : Rep U H (.bl b) (.bool b)
  | int (i : Int) : Rep U H (.int i) (.int i)
  | str (x : Str) : Rep U H (.str x) (.str x)
  | lst {p : Addr} {xs : List V} {ds : List D} : U p → H p = some (.lst xs) → RepL U H xs ds → Rep U H (.ref p) (.list ds)
  | tup {p : Addr} {xs : List V} {ds : List D} : U p → H p = some (.tup xs) → RepL U H xs ds → Rep U H (.ref p) (.tuple ds)
inductive RepL (U : Addr → Prop) (H : Hp) : List V → List D → Prop where
  | nil : RepL U H [] []
  | cons {v : V} {d : D} {vs : List V} {ds : List D} : Rep U H v d → RepL U H vs ds → RepL U H (v :: vs) (d :: ds)
end
section
variable {U U' : Addr → Prop} {H H' : Hp}
mutual
theorem Rep.to (hh : ∀ p o, U p → H p = some o → U' p ∧ H' p = some o) : ∀ {v : V} {d : D}, Rep U H v d → Rep U' H' v d
  | _, _, .non => .non
  | _, _, .bl b => .bl b
  | _, _, .int i => .int i
  | _, _, .str x => .str x
  | _, _, .lst u h r => .lst (hh _ _ u h).1 (hh _ _ u h).2 (RepL.to hh r)
  | _, _, .tup u h r => .tup (hh _ _ u h).1 (hh _ _ u h).2 (RepL.to hh r)
theorem RepL.to (hh : ∀ p o, U p → H p = some o → U' p ∧ H' p = some o) : ∀ {vs : List V} {ds : List D}, RepL U H vs ds → RepL U' H' vs ds
  | _, _, .nil => .nil
  | _, _, .cons a b => .cons (Rep.to hh a) (RepL.to hh b)
end
theorem RepL.len : ∀ {vs : List V} {ds : List D}, RepL U H vs ds → vs.length = ds.length
  | _, _, .nil => rfl
  | _, _, .cons _ r => congrArg (· + 1) r.len
theorem RepL.get : ∀ {vs : List V} {ds : List D} {i : Nat} {v : V}, RepL U H vs ds → vs[i]? = some v → ∃ d, ds[i]? = some d ∧ Rep U H v d
  | _, _, _, _, .nil, h => by simp at h
  | _, _, 0, _, .cons a _, h => ⟨_, rfl, by simp at h; rw [← h]; exact a⟩
  | _, _, i + 1, _, .cons _ r, h => by
    simp at h
    obtain ⟨d, e, q⟩ := r.get h
    exact ⟨d, by simpa using e, q⟩
theorem RepL.at : ∀ {vs : List V} {ds : List D} {i : Nat} {d : D}, RepL U H vs ds → ds[i]? = some d → ∃ v, vs[i]? = some v ∧ Rep U H v d
  | _, _, _, _, .nil, h => by simp at h
  | _, _, 0, _, .cons a _, h => ⟨_, rfl, by simp at h; rw [← h]; exact a⟩
  | _, _, i + 1, _, .cons _ r, h => by
    simp at h
    obtain ⟨d, e, q⟩ := r.at h
    exact ⟨d, by simpa using e, q⟩
theorem RepL.app : ∀ {vs ws : List V} {ds es : List D}, RepL U H vs ds → RepL U H ws es → RepL U H (vs ++ ws) (ds ++ es)
  | _, _, _, _, .nil, h => h
  | _, _, _, _, .cons a r, h => .cons a (r.app h)
theorem RepL.one {v : V} {d : D} (h : Rep U H v d) : RepL U H [v] [d] := .cons h .nil
theorem RepL.snoc {vs : List V} {ds : List D} {v : V} {d : D} (h : RepL U H vs ds) (q : Rep U H v d) : RepL U H (vs ++ [v]) (ds ++ [d]) := h.app (.one q)
theorem RepL.take : ∀ {vs : List V} {ds : List D} (n : Nat), RepL U H vs ds → RepL U H (vs.take n) (ds.take n)
  | _, _, 0, _ => .nil
  | _, _, _ + 1, .nil => .nil
  | _, _, n + 1, .cons a r => .cons a (r.take n)
theorem RepL.drop : ∀ {vs : List V} {ds : List D} (n : Nat), RepL U H vs ds → RepL U H (vs.drop n) (ds.drop n)
  | _, _, 0, h => h
  | _, _, _ + 1, .nil => .nil
  | _, _, n + 1, .cons _ r => r.drop n
theorem RepL.mapI {α : Type} {f : α → V} {g : α → D} : ∀ {l : List α}, (∀ x ∈ l, Rep U H (f x) (g x)) → RepL U H (l.map f) (l.map g)
  | [], _ => .nil
  | x :: l, h => .cons (h x List.mem_cons_self) (RepL.mapI fun y hy => h y (List.mem_cons_of_mem _ hy))
theorem RepL.ints : ∀ {ns : List Int}, RepL U H (ns.map V.int) (ns.map PyData.int) := RepL.mapI fun _ _ => .int _
theorem RepL.strs : ∀ {ns : List Str}, RepL U H (ns.map V.str) (ns.map PyData.str) := RepL.mapI fun _ _ => .str _
theorem RepL.intsI : ∀ {vs : List V} {ns : List Int}, RepL U H vs (ns.map PyData.int) → vs = ns.map V.int
  | _, [], .nil => rfl
  | _, _ :: _, .cons a r => by cases a; rw [r.intsI]; rfl
theorem RepL.strsI : ∀ {vs : List V} {ns : List Str}, RepL U H vs (ns.map PyData.str) → vs = ns.map V.str
  | _, [], .nil => rfl
  | _, _ :: _, .cons a r => by cases a; rw [r.strsI]; rfl
theorem RepL.mem : ∀ {vs : List V} {ds : List D} {v : V}, RepL U H vs ds → v ∈ vs → ∃ d ∈ ds, Rep U H v d
  | _, _, _, .nil, h => by cases h
  | _, _, _, .cons a r, h => by
    rcases List.mem_cons.mp h with rfl | h
    · exact ⟨_, List.mem_cons_self, a⟩
    · obtain ⟨d, hd, q⟩ := r.mem h
      exact ⟨d, List.mem_cons_of_mem _ hd, q⟩
/-- of any sequence -/
theorem Rep.seq {v : V} {d : D} (h : Rep U H v d) (q : isSeq d = true) : ∃ p xs, v = .ref p ∧ U p ∧ (H p = some (.lst xs) ∨ H p = some (.tup xs)) ∧ RepL U H xs (kids d) := by
  cases h with
  | lst u e r => exact ⟨_, _, rfl, u, .inl e, r⟩
  | tup u e r => exact ⟨_, _, rfl, u, .inr e, r⟩
  | _ => cases q
theorem Rep.lstI {v : V} {ds : List D} (h : Rep U H v (.list ds)) : ∃ p xs, v = .ref p ∧ U p ∧ H p = some (.lst xs) ∧ RepL U H xs ds := by
  cases h with
  | lst u e r => exact ⟨_, _, rfl, u, e, r⟩
theorem Rep.tupI {v : V} {ds : List D} (h : Rep U H v (.tuple ds)) : ∃ p xs, v = .ref p ∧ U p ∧ H p = some (.tup xs) ∧ RepL U H xs ds := by
  cases h with
  | tup u e r => exact ⟨_, _, rfl, u, e, r⟩
theorem Rep.strI {v : V} {x : Str} (h : Rep U H v (.str x)) : v = .str x := by cases h; rfl
/-- scalars as data -/
def vD : V → D
  | .bl b => .bool b
  | .int i => .int i
  | .str x => .str x
  | _ => .none
theorem Rep.sc {v : V} (h : Sc v) : Rep U H v (vD v) := by
  cases v <;> first | exact h.elim | constructor
theorem Rep.scI {v u : V} (s : Sc u) (h : Rep U H v (vD u)) : v = u := by
  cases u <;> first | exact s.elim | (cases h; rfl)
end
section
variable {U : Addr → Prop} {H : Hp} {K : PySem.W.Frag}
mutual
theorem Rep.dp : ∀ {v : V} {d : D}, Rep U H v d → Dp K H v d
  | _, _, .non => .non
  | _, _, .bl b => .bl b
  | _, _, .int i => .int i
  | _, _, .str x => .str x
  | _, _, .lst _ h r => .lst (sl_of h) r.dp
  | _, _, .tup _ h r => .tup (st_of h) r.dp
theorem RepL.dp : ∀ {vs : List V} {ds : List D}, RepL U H vs ds → DpAll K H vs ds
  | _, _, .nil => .nil
  | _, _, .cons a b => .cons a.dp b.dp
end
end
structure Ex (U : Addr → Prop) (H H' : Hp) : Prop where
  keep : ∀ p o, U p → H p = some o → H' p = some o
  dom : ∀ p, H' p = none → H p = none
section
variable {U U' : Addr → Prop} {H H1 H2 : Hp} {p : Addr} {o : HO} {v : V} {d : D}
theorem Ex.refl : Ex U H H := ⟨fun _ _ _ h => h, fun _ h => h⟩
theorem Ex.trans (a : Ex U H H1) (b : Ex U H1 H2) : Ex U H H2 := ⟨fun p o u h => b.keep p o u (a.keep p o u h), fun p h => a.dom p (b.dom p h)⟩
theorem Ex.new (h : H p = none) : Ex U H (upd H p o) := ⟨fun q u _ e => by rw [upd_ne (ne_of_none e h)]; exact e, fun q e => by
  by_cases c : q = p
  · rw [c]; exact h
  · rw [upd_ne c] at e; exact e⟩
theorem Ex.mut (a : Ex U H H1) (h : H p = none) : Ex U H (upd H1 p o) := ⟨fun q u hu e => by rw [upd_ne (ne_of_none e h)]; exact a.keep q u hu e, fun q e => by
  by_cases c : q = p
  · rw [c]; exact h
  · rw [upd_ne c] at e; exact a.dom q e⟩
theorem Ex.mutU (a : Ex U H H1) (h : ¬ U p) (hn : H1 p ≠ none) : Ex U H (upd H1 p o) := ⟨fun q u hu e => by
  have c : q ≠ p := fun c => h (c ▸ hu)
  rw [upd_ne c]; exact a.keep q u hu e, fun q e => by
  by_cases c : q = p
  · rw [c, upd_same] at e; cases e
  · rw [upd_ne c] at e; exact a.dom q e⟩
theorem none_back (s : ∀ b o, H b = some o → H1 b = some o) (h : H1 p = none) : H p = none := by
  cases e : H p with
  | none => rfl
  | some o => rw [s _ _ e] at h; cases h
theorem Ex.same (s : Same H H1) : Ex U H H1 := ⟨fun p o _ h => s p o h, fun p h => none_back s h⟩
theorem Ex.less (a : Ex U H H1) (h : ∀ p, U' p → U p) : Ex U' H H1 := ⟨fun p o u e => a.keep p o (h p u) e, a.dom⟩
theorem Rep.ex (e : Ex U H H1) (h : Rep U H v d) : Rep U H1 v d := h.to fun p o u q => ⟨u, e.keep p o u q⟩
theorem RepL.ex {vs : List V} {ds : List D} (e : Ex U H H1) (h : RepL U H vs ds) : RepL U H1 vs ds := h.to fun p o u q => ⟨u, e.keep p o u q⟩
theorem Rep.same (e : Same H H1) (h : Rep U H v d) : Rep U H1 v d := h.to fun p o u q => ⟨u, e p o q⟩
theorem RepL.same {vs : List V} {ds : List D} (e : Same H H1) (h : RepL U H vs ds) : RepL U H1 vs ds := h.to fun p o u q => ⟨u, e p o q⟩
theorem Rep.less (h : Rep U H v d) (hU : ∀ p, U p → U' p) : Rep U' H v d := h.to fun p o u q => ⟨hU p u, q⟩
theorem RepL.less {vs : List V} {ds : List D} (h : RepL U H vs ds) (hU : ∀ p, U p → U' p) : RepL U' H vs ds := h.to fun p o u q => ⟨hU p u, q⟩
end
abbrev US (S : Sto) : Addr → Prop := fun p => p ≠ S.1
theorem StoreOk.none2 {S : Sto} {H H' : Hp} (h : ExS S H H') (s : StoreOk S H') : Ex (US S) H H' := ⟨fun p o u e => h p o u e, fun p e => by
  cases q : H p with
  | none => rfl
  | some o =>
    by_cases c : p = S.1
    · exact absurd c (s.ne1 e)
    · rw [h p o c q] at e; cases e⟩
/-- the store is right, and what else lay there lies there still -/
structure Gd (S : Sto) (H H' : Hp) : Prop where
  ok : StoreOk S H'
  ex : Ex (US S) H H'
section
variable {S : Sto} {H H1 H2 : Hp} {p : Addr} {o : HO}
theorem Gd.refl (s : StoreOk S H) : Gd S H H := ⟨s, .refl⟩
theorem Gd.trans (a : Gd S H H1) (b : Gd S H1 H2) : Gd S H H2 := ⟨b.ok, a.ex.trans b.ex⟩
theorem Gd.of (s : StoreOk S H1) (e : ExS S H H1) : Gd S H H1 := ⟨s, s.none2 e⟩
theorem Gd.new (s : StoreOk S H) (h : H p = none) : Gd S H (upd H p o) := ⟨s.new h, .new h⟩
theorem Gd.same (s : StoreOk S H) (e : Same H H1) : Gd S H H1 := ⟨s.same e, .same e⟩
theorem Gd.mut (a : Gd S H H1) (h : H p = none) (h1 : p ≠ S.1) (h2 : p ≠ S.2) : Gd S H (upd H1 p o) := ⟨store_upd a.ok h1 h2, a.ex.mut h⟩
end
set_option maxHeartbeats 1000000
def gSeq (K : PySem.W.Frag) (n : Nat) (t : TGs) : TG := fun v σ H Q => ∃ a xs, v = .ref a ∧ (H a = some (.lst xs) ∨ H a = some (.tup xs)) ∧ xs.length = n ∧ t xs σ H Q
theorem pg_seqU {X : Cx} {pos : Pos} {es : List Expr} {k : Nat} {t : TGs} {n : Nat} {K : PySem.W.Frag} (hK : X.K = K) (hc : X.calm = true) (h : PGs X es t)
    (hn : (assignEach es X.env).length = n := by rfl) (hst : (assignEach es X.env).findIdx? (·.1) = none := by rfl) : PG X (.Tuple es k pos) (gSeq K n t) := by
  subst hK
  refine ⟨fun pins s σ H v u Q I r hw => ?_⟩
  obtain ⟨a, xs, e1, hq, hl, hw⟩ := hw
  rcases hq with hq | hq
  · exact (pg_unl (pos := pos) (k := k) hc h hn hst).run pins s σ H v u Q I r ⟨a, xs, e1, sl_of hq, hl, hw⟩
  · exact (pg_tup (pos := pos) (k := k) hc h hn hst).run pins s σ H v u Q I r ⟨a, xs, e1, st_of hq, hl, hw⟩
theorem rd_gSeq {K : PySem.W.Frag} {U : Addr → Prop} {n : Nat} {t : TGs} {v : V} {d : D} {σ : L2.St} {H : Hp} {Q : L2.St → Hp → Prop} (hv : Rep U H v d) (hs : isSeq d = true) (hl : (kids d).length = n) (h : ∀ xs, RepL U H xs (kids d) → t xs σ H Q) : gSeq K n t v σ H Q := by
  obtain ⟨p, xs, rfl, _, e, r⟩ := hv.seq hs
  exact ⟨p, xs, rfl, e, by rw [r.len]; exact hl, h xs r⟩
theorem rd_gC {t : TG} {u : TGs} {v : V} {vs : List V} {σ : L2.St} {H : Hp} {Q : L2.St → Hp → Prop} (h : t v σ H fun σ' H' => u vs σ' H' Q) : gCons t u (v :: vs) σ H Q := ⟨v, vs, rfl, h⟩
theorem rd_gN {σ : L2.St} {H : Hp} {Q : L2.St → Hp → Prop} (h : Q σ H) : gNil [] σ H Q := ⟨rfl, h⟩
section
variable {U : Addr → Prop} {H : Hp} {v : V} {d e : D} {i : Int} {Q : VK} {K : PySem.W.Frag}
theorem rep_ix (h : Rep U H v d) (hs : isSeq d = true) (h0 : 0 ≤ i) (he : (kids d)[i.toNat]? = some e) (q : ∀ u, Rep U H u e → Q u H) : rIx K v (.int i) H Q := by
  obtain ⟨p, xs, rfl, _, hp, r⟩ := h.seq hs
  obtain ⟨u, hu, ru⟩ := r.at he
  have ha : atI xs i = some u := by
    have hl := (List.getElem?_eq_some_iff.mp hu).1
    obtain ⟨hb, e1⟩ := atI_get (xs := xs) h0 (by omega)
    rw [e1]
    rw [List.getElem?_eq_getElem hb] at hu
    exact hu
  rcases hp with hp | hp
  · exact rd_ixQL hp ha (q u ru)
  · exact rd_ixQT hp ha (q u ru)
theorem rep_len {R : List V → Prop} (h : Rep U H v d) (hs : isSeq d = true) (q : ∀ xs, RepL U H xs (kids d) → R xs) : ∃ p ys, [v] = [V.ref p] ∧ (SqL K H p ys ∨ SqT K H p ys) ∧ R ys := by
  obtain ⟨p, xs, rfl, _, hp, r⟩ := h.seq hs
  rcases hp with hp | hp
  · exact rd_seqL hp (q xs r)
  · exact rd_seqT hp (q xs r)
end
/-- the empty tuple of the module's own, where a default stands -/
def EmpK (K : PySem.W.Frag) (p : Addr) : Prop := ∃ (o : Obj) (n : Nat), K.lookup p = some o ∧ o.cls = .type "tuple" ∧ o.data = .seq #[] n
def RepQ (K : PySem.W.Frag) (U : Addr → Prop) (H : Hp) (v : V) (d : PyData) : Prop := Rep U H v d ∨ (d = .tuple [] ∧ ∃ p, v = .ref p ∧ EmpK K p)
theorem EmpK.sq {K : PySem.W.Frag} {p : Addr} {H : Hp} (e : EmpK K p) : SqT K H p [] := by
  obtain ⟨o, n, a, b, c⟩ := e
  exact .inr ⟨o, #[], n, a, b, c, Nat.zero_le _, .nil⟩
theorem RepQ.to {K : PySem.W.Frag} {U U' : Addr → Prop} {H H' : Hp} {v : V} {d : PyData} (h : RepQ K U H v d) (hh : ∀ p o, U p → H p = some o → U' p ∧ H' p = some o) : RepQ K U' H' v d := h.elim (fun h => .inl (h.to hh)) .inr
theorem RepQ.ex {K : PySem.W.Frag} {U : Addr → Prop} {H H' : Hp} {v : V} {d : PyData} (h : RepQ K U H v d) (e : Ex U H H') : RepQ K U H' v d := h.elim (fun h => .inl (h.ex e)) .inr
theorem RepQ.same {K : PySem.W.Frag} {U : Addr → Prop} {H H' : Hp} {v : V} {d : PyData} (h : RepQ K U H v d) (e : Same H H') : RepQ K U H' v d := h.elim (fun h => .inl (h.same e)) .inr
theorem repq_len {K : PySem.W.Frag} {U : Addr → Prop} {H : Hp} {v : V} {d : PyData} {R : List V → Prop} (h : RepQ K U H v d) (hs : isSeq d = true) (q : ∀ xs, RepL U H xs (kids d) → R xs) : ∃ p ys, [v] = [V.ref p] ∧ (SqL K H p ys ∨ SqT K H p ys) ∧ R ys := by
  rcases h with h | ⟨rfl, p, rfl, e⟩
  · exact rep_len h hs q
  · exact ⟨p, [], rfl, .inr e.sq, q [] .nil⟩
structure LcI (W U : Addr → Prop) (D : Addr) (H1 : Hp) (Pv : Hp → Prop) (out : List PyData) (H : Hp) : Prop where
  ex : Ex W H1 H
  at_ : ∃ acc, H D = some (.lst acc) ∧ RepL (fun p => U p ∧ p ≠ D) H acc out
  pv : Pv H
section
variable {W Z0 U : Addr → Prop} {D : Addr} {H H1 H4 : Hp} {Pv : Hp → Prop} {out out2 : List PyData} {y : V} {e : PyData}
theorem LcI.put {y : V} (h : LcI W U D H1 Pv out H) (a : Ex W H H4) (uD : W D) (hD : H1 D = none) (pv : ∀ o, Pv (upd H4 D o)) (r : Rep (fun p => U p ∧ p ≠ D) H4 y e) (hl : out.length < 100000) (eo : out2 = out ++ [e]) (hUW : ∀ p, U p → W p := by exact fun _ h => h) :
    ∃ acc, H4 D = some (.lst acc) ∧ acc.length < sizeLine ∧ LcI W U D H1 Pv out2 (upd H4 D (.lst (acc ++ [y]))) := by
  obtain ⟨acc, e1, e2⟩ := h.at_
  refine ⟨acc, a.keep _ _ uD e1, by rw [e2.len]; exact Nat.lt_of_lt_of_le hl (by decide), (h.ex.trans a).mut hD, ⟨_, upd_same, ?_⟩, pv _⟩
  rw [eo]
  refine ((e2.ex (a.less fun p u => hUW p u.1)).snoc r).to fun p o u q => ⟨u, by rw [upd_ne u.2]; exact q⟩
theorem LcI.ne {q : Addr} (h : LcI W U D H1 Pv out H) (n : H q = none) : q ≠ D := by
  obtain ⟨acc, e, _⟩ := h.at_
  exact fun c => by rw [c, e] at n; cases n
theorem Rep.off {v : V} {d : PyData} (h : Rep U H v d) (hD : H D = none) : Rep (fun p => U p ∧ p ≠ D) H v d := h.to fun p o u q => ⟨⟨u, ne_of_none q hD⟩, q⟩
/-- the loop's start and turns -/
theorem lc_seqG {K : PySem.W.Frag} {v : V} {d : PyData} {g : TG} {tt : TT} {te : TE} {vs : List Nat} {σ : L2.St} {Q : Addr → Hp → Prop} (hVW : ∀ p, Z0 p → W p) (out : List PyData → List PyData) (Pv : Hp → Prop) (hv : RepQ K Z0 H1 v d) (hq : isSeq d = true) (uN : ∀ p, H1 p = none → W p) (o0 : out [] = []) (h0 : ∀ D, H1 D = none → Pv (upd H1 D (.lst [])))
    (hs : ∀ D i x e H', W D → H1 D = none → (kids d)[i]? = some e → Rep (fun p => Z0 p ∧ p ≠ D) H' x e → LcI W U D H1 Pv (out ((kids d).take i)) H' → g x (wipe σ vs) H' fun σ2 H2 => wipe σ2 vs = wipe σ vs ∧ tt σ2 H2 fun b H3 =>
      if b = true then te σ2 H3 fun y H4 => ∃ acc, H4 D = some (.lst acc) ∧ acc.length < sizeLine ∧ LcI W U D H1 Pv (out ((kids d).take (i + 1))) (upd H4 D (.lst (acc ++ [y]))) else LcI W U D H1 Pv (out ((kids d).take (i + 1))) H3)
    (hd : ∀ p acc H', Ex W H1 H' → W p → H1 p = none → H' p = some (.lst acc) → RepL (fun q => U q ∧ q ≠ p) H' acc (out (kids d)) → Pv H' → Q p H') :
    ∃ a, v = .ref a ∧ (((∃ xs, SqL K H1 a xs) ∧ ∀ D, H1 D = none → ∃ W : Nat → Nat → Hp → Prop, (∃ m, W 0 m (upd H1 D (.lst []))) ∧ ∀ i m H, W i m H →
      ((Itl K a).stop i H ∧ Q D H) ∨ ((Itl K a).go i H ∧ ∃ Nx : Hp → Prop, (∀ H', Nx H' → ∃ m', m' < m ∧ W (i + 1) m' H') ∧ ∀ x H', (Itl K a).yld i H x H' → g x (wipe σ vs) H' fun σ2 H2 => wipe σ2 vs = wipe σ vs ∧ tt σ2 H2 fun b H3 =>
        if b = true then te σ2 H3 fun y H4 => ∃ acc, H4 D = some (.lst acc) ∧ acc.length < sizeLine ∧ Nx (upd H4 D (.lst (acc ++ [y]))) else Nx H3)) ∨
    ((∃ xs, SqT K H1 a xs) ∧ ∀ D, H1 D = none → ∃ W : Nat → Nat → Hp → Prop, (∃ m, W 0 m (upd H1 D (.lst []))) ∧ ∀ i m H, W i m H →
      ((Itt K a).stop i H ∧ Q D H) ∨ ((Itt K a).go i H ∧ ∃ Nx : Hp → Prop, (∀ H', Nx H' → ∃ m', m' < m ∧ W (i + 1) m' H') ∧ ∀ x H', (Itt K a).yld i H x H' → g x (wipe σ vs) H' fun σ2 H2 => wipe σ2 vs = wipe σ vs ∧ tt σ2 H2 fun b H3 =>
        if b = true then te σ2 H3 fun y H4 => ∃ acc, H4 D = some (.lst acc) ∧ acc.length < sizeLine ∧ Nx (upd H4 D (.lst (acc ++ [y]))) else Nx H3))) := by
  have start : ∀ D, H1 D = none → LcI W U D H1 Pv (out ((kids d).take 0)) (upd H1 D (.lst [])) := fun D nD => ⟨.new nD, ⟨[], upd_same, by rw [List.take_zero, o0]; exact .nil⟩, h0 D nD⟩
  rcases hv with hv | ⟨rfl, p, rfl, ek⟩
  rotate_left
  · refine ⟨p, rfl, .inr ⟨⟨[], ek.sq⟩, fun D nD => lc_tup (xs := []) (fun i H' => LcI W U D H1 Pv (out []) H') (start D nD) (fun i H' _ hp => ek.sq) (fun i x H' hx hp => by simp at hx) fun H' hp => ?_⟩⟩
    obtain ⟨acc, e1, e2⟩ := hp.at_
    exact hd D acc H' hp.ex (uN D nD) nD e1 e2 hp.pv
  obtain ⟨a, xs, rfl, ua, ha, r⟩ := hv.seq hq
  refine ⟨a, rfl, ?_⟩
  have turn : ∀ D i x H', H1 D = none → xs[i]? = some x → LcI W U D H1 Pv (out ((kids d).take i)) H' → g x (wipe σ vs) H' fun σ2 H2 => wipe σ2 vs = wipe σ vs ∧ tt σ2 H2 fun b H3 =>
      if b = true then te σ2 H3 fun y H4 => ∃ acc, H4 D = some (.lst acc) ∧ acc.length < sizeLine ∧ LcI W U D H1 Pv (out ((kids d).take (i + 1))) (upd H4 D (.lst (acc ++ [y]))) else LcI W U D H1 Pv (out ((kids d).take (i + 1))) H3 := fun D i x H' nD hx hp => by
    obtain ⟨e, he, re⟩ := r.get hx
    exact hs D i x e H' (uN D nD) nD he ((re.off nD).to fun p o u q => ⟨u, hp.ex.keep p o (hVW p u.1) q⟩) hp
  have fin : ∀ D H', H1 D = none → LcI W U D H1 Pv (out ((kids d).take xs.length)) H' → Q D H' := fun D H' nD hp => by
    rw [r.len, List.take_length] at hp
    obtain ⟨acc, e1, e2⟩ := hp.at_
    exact hd D acc H' hp.ex (uN D nD) nD e1 e2 hp.pv
  rcases ha with ha | ha
  · exact .inl ⟨⟨xs, sl_of ha⟩, fun D nD => lc_list (xs := xs) (fun i H' => LcI W U D H1 Pv (out ((kids d).take i)) H') (start D nD) (fun i H' _ hp => sl_of (hp.ex.keep _ _ (hVW _ ua) ha)) (fun i x H' hx hp => turn D i x H' nD hx hp) fun H' hp => fin D H' nD hp⟩
  · exact .inr ⟨⟨xs, st_of ha⟩, fun D nD => lc_tup (xs := xs) (fun i H' => LcI W U D H1 Pv (out ((kids d).take i)) H') (start D nD) (fun i H' _ hp => st_of (hp.ex.keep _ _ (hVW _ ua) ha)) (fun i x H' hx hp => turn D i x H' nD hx hp) fun H' hp => fin D H' nD hp⟩
theorem lc_seq {K : PySem.W.Frag} {v : V} {d : PyData} {g : TG} {tt : TT} {te : TE} {vs : List Nat} {σ : L2.St} {Q : Addr → Hp → Prop} (out : List PyData → List PyData) (Pv : Hp → Prop) (hv : RepQ K U H1 v d) (hq : isSeq d = true) (uN : ∀ p, H1 p = none → U p) (o0 : out [] = []) (h0 : ∀ D, H1 D = none → Pv (upd H1 D (.lst [])))
    (hs : ∀ D i x e H', U D → H1 D = none → (kids d)[i]? = some e → Rep (fun p => U p ∧ p ≠ D) H' x e → LcI U U D H1 Pv (out ((kids d).take i)) H' → g x (wipe σ vs) H' fun σ2 H2 => wipe σ2 vs = wipe σ vs ∧ tt σ2 H2 fun b H3 =>
      if b = true then te σ2 H3 fun y H4 => ∃ acc, H4 D = some (.lst acc) ∧ acc.length < sizeLine ∧ LcI U U D H1 Pv (out ((kids d).take (i + 1))) (upd H4 D (.lst (acc ++ [y]))) else LcI U U D H1 Pv (out ((kids d).take (i + 1))) H3)
    (hd : ∀ p acc H', Ex U H1 H' → U p → H1 p = none → H' p = some (.lst acc) → RepL (fun q => U q ∧ q ≠ p) H' acc (out (kids d)) → Pv H' → Q p H') :
    ∃ a, v = .ref a ∧ (((∃ xs, SqL K H1 a xs) ∧ ∀ D, H1 D = none → ∃ W : Nat → Nat → Hp → Prop, (∃ m, W 0 m (upd H1 D (.lst []))) ∧ ∀ i m H, W i m H →
      ((Itl K a).stop i H ∧ Q D H) ∨ ((Itl K a).go i H ∧ ∃ Nx : Hp → Prop, (∀ H', Nx H' → ∃ m', m' < m ∧ W (i + 1) m' H') ∧ ∀ x H', (Itl K a).yld i H x H' → g x (wipe σ vs) H' fun σ2 H2 => wipe σ2 vs = wipe σ vs ∧ tt σ2 H2 fun b H3 =>
        if b = true then te σ2 H3 fun y H4 => ∃ acc, H4 D = some (.lst acc) ∧ acc.length < sizeLine ∧ Nx (upd H4 D (.lst (acc ++ [y]))) else Nx H3)) ∨
    ((∃ xs, SqT K H1 a xs) ∧ ∀ D, H1 D = none → ∃ W : Nat → Nat → Hp → Prop, (∃ m, W 0 m (upd H1 D (.lst []))) ∧ ∀ i m H, W i m H →
      ((Itt K a).stop i H ∧ Q D H) ∨ ((Itt K a).go i H ∧ ∃ Nx : Hp → Prop, (∀ H', Nx H' → ∃ m', m' < m ∧ W (i + 1) m' H') ∧ ∀ x H', (Itt K a).yld i H x H' → g x (wipe σ vs) H' fun σ2 H2 => wipe σ2 vs = wipe σ vs ∧ tt σ2 H2 fun b H3 =>
        if b = true then te σ2 H3 fun y H4 => ∃ acc, H4 D = some (.lst acc) ∧ acc.length < sizeLine ∧ Nx (upd H4 D (.lst (acc ++ [y]))) else Nx H3))) :=
  lc_seqG (W := U) (U := U) (fun _ h => h) out Pv hv hq uN o0 h0 hs hd
/-- a loop over a sequence -/
theorem for_seqR {K : PySem.W.Frag} {v : V} {d : PyData} {g : TG} {tb : TS} {σ : L2.St} {E : Ends} (hv : RepQ K U H1 v d) (hq : isSeq d = true) (Pv : Nat → L2.St → Hp → Prop) (h0 : Pv 0 σ H1) (hk : ∀ i σ H', Pv i σ H' → Ex U H1 H')
    (hs : ∀ i x e σ H', (kids d)[i]? = some e → Rep U H' x e → Pv i σ H' → g x σ H' fun σ2 H2 => tb { E with nx := Pv (i + 1), ct := Pv (i + 1), bk := E.nx } σ2 H2) (hd : ∀ σ H', Pv (kids d).length σ H' → E.nx σ H') :
    ∃ a, v = .ref a ∧ (((∃ xs, SqL K H1 a xs) ∧ ∃ W : Nat → Nat → L2.St → Hp → Prop, (∃ m, W 0 m σ H1) ∧ ∀ i m σ H, W i m σ H →
      ((Itl K a).stop i H ∧ E.nx σ H) ∨ ((Itl K a).go i H ∧ ∃ N : L2.St → Hp → Prop, (∀ σ' H', N σ' H' → ∃ m', m' < m ∧ W (i + 1) m' σ' H') ∧ ∀ x H', (Itl K a).yld i H x H' → g x σ H' fun σ2 H2 => tb { E with nx := N, ct := N, bk := E.nx } σ2 H2)) ∨
    ((∃ xs, SqT K H1 a xs) ∧ ∃ W : Nat → Nat → L2.St → Hp → Prop, (∃ m, W 0 m σ H1) ∧ ∀ i m σ H, W i m σ H →
      ((Itt K a).stop i H ∧ E.nx σ H) ∨ ((Itt K a).go i H ∧ ∃ N : L2.St → Hp → Prop, (∀ σ' H', N σ' H' → ∃ m', m' < m ∧ W (i + 1) m' σ' H') ∧ ∀ x H', (Itt K a).yld i H x H' → g x σ H' fun σ2 H2 => tb { E with nx := N, ct := N, bk := E.nx } σ2 H2))) := by
  rcases hv with hv | ⟨rfl, p, rfl, ek⟩
  rotate_left
  · exact ⟨p, rfl, .inr ⟨⟨[], ek.sq⟩, L2.for_tup (xs := []) (g := g) Pv h0 (fun i σ H' _ hp => ek.sq) (fun i x σ H' hx hp => by simp at hx) hd⟩⟩
  obtain ⟨a, xs, rfl, ua, ha, r⟩ := hv.seq hq
  refine ⟨a, rfl, ?_⟩
  have turn : ∀ i x σ H', xs[i]? = some x → Pv i σ H' → g x σ H' fun σ2 H2 => tb { E with nx := Pv (i + 1), ct := Pv (i + 1), bk := E.nx } σ2 H2 := fun i x σ H' hx hp => by
    obtain ⟨e, he, re⟩ := r.get hx
    exact hs i x e σ H' he (re.ex (hk i σ H' hp)) hp
  have fin : ∀ σ H', Pv xs.length σ H' → E.nx σ H' := fun σ H' hp => hd σ H' (by rw [r.len] at hp; exact hp)
  rcases ha with ha | ha
  · exact .inl ⟨⟨xs, sl_of ha⟩, L2.for_list (xs := xs) (g := g) Pv h0 (fun i σ H' _ hp => sl_of ((hk i σ H' hp).keep _ _ ua ha)) turn fin⟩
  · exact .inr ⟨⟨xs, st_of ha⟩, L2.for_tup (xs := xs) (g := g) Pv h0 (fun i σ H' _ hp => st_of ((hk i σ H' hp).keep _ _ ua ha)) turn fin⟩
end
def RowAt (h : Heap) (v : Value) (k : Str) : Prop := ∃ a o t r n, v = .ref a ∧ h.get? a = some o ∧ o.cls = .type "tuple" ∧ o.data = .seq (Value.str k t :: r).toArray n
theorem RowAt.keep {h h' : Heap} {v : Value} {k : Str} (x : RowAt h v k) (kp : ∀ b o, h.get? b = some o → h'.get? b = some o) : RowAt h' v k := by
  obtain ⟨a, o, t, r, n, e, ho, hc, hd⟩ := x
  exact ⟨a, o, t, r, n, e, kp _ _ ho, hc, hd⟩
section
open SrtO
variable {prog : Program} {w : World} {A : Around} {E : Value → Shared → Prop} {s : Shared}
theorem lex_self {b fin : Bool} {Q : Bool → Shared → Prop} : ∀ (l : List Value) (i : Nat), Q fin s → PySem.W.KatLex prog w A b fin Q (l.zip l) i s
  | [], i, h => PySem.W.kat_nil h
  | v :: l, i, h => PySem.W.kat_cons (SeqAt.EqAt.same v prog w _ _ (PySem.W.kat_yes (lex_self l (i + 1) h)))
theorem swo_key (f : Value → Str) : Swo fun v u => decide (ltS (f v) (f u)) := by
  refine ⟨fun x y h => decide_eq_false (ltS_asymm (of_decide_eq_true h)), fun x y z h1 h2 => ?_⟩
  have a := of_decide_eq_false h1
  have b := of_decide_eq_false h2
  exact decide_eq_false fun c => List.not_le.mpr c (List.le_trans (List.not_lt.mp a) (List.not_lt.mp b))
theorem row_cmp {vs : List Value} {f : Value → Str} (hp : ∀ v ∈ vs, RowAt s.heap v (f v)) (hi : ∀ u ∈ vs, ∀ v ∈ vs, f u = f v → u = v) : Cmp prog w A s (tuples' true) (fun p => p.1 ∈ vs) (lt2 fun v u => decide (ltS (f v) (f u))) := by
  intro p q hm hm'
  show wpAny (model prog w) A (keyLt' (tuples' true) p.1 q.1) (fun r s' => s' = s ∧ r = decide (ltS (f p.1) (f q.1))) (fun _ _ => False) s
  obtain ⟨a, o, t, r, n, e, ho, hc, hd⟩ := hp _ hm
  by_cases c : f p.1 = f q.1
  · have eq := hi _ hm _ hm' c
    rw [← eq, e]
    refine PySem.W.kat_lt ho hd ho hd ?_
    refine lex_self _ _ ⟨rfl, ?_⟩
    rw [decide_eq_false (Nat.lt_irrefl _)]
    exact (decide_eq_false (List.lt_irrefl _)).symm
  · obtain ⟨a', o', t', r', n', e', ho', hc', hd'⟩ := hp _ hm'
    generalize f p.1 = k at *
    generalize f q.1 = k' at *
    rw [e, e']
    refine PySem.W.kat_lt ho hd ho' hd' ?_
    refine PySem.W.kat_cons (eqBool_str ?_)
    have e1 : (k == k') = false := by simpa using c
    rw [e1]
    exact PySem.W.kat_no (oneLt_str ⟨rfl, rfl⟩)
theorem firsts_row {h : Heap} : ∀ {vs : List Value} {f : Value → Str}, (∀ v ∈ vs, RowAt h v (f v)) → ∃ fs, PySem.W.KatTups h vs fs ∧ fs.length = vs.length ∧ ∀ u ∈ fs, ∃ k t, u = Value.str k t
  | [], _, _ => ⟨[], .nil, rfl, by simp⟩
  | v :: vs, f, hp => by
    obtain ⟨fs, h1, h2, h3⟩ := firsts_row (vs := vs) (f := f) fun u hu => hp u (List.mem_cons_of_mem _ hu)
    obtain ⟨a, o, t, r, n, e, ho, hc, hd⟩ := hp v List.mem_cons_self
    rw [e]
    refine ⟨.str (f v) t :: fs, .cons ho hc hd (by simp) h1, by simp [h2], fun u hu => ?_⟩
    rcases List.mem_cons.mp hu with rfl | hu
    · exact ⟨_, _, rfl⟩
    · exact h3 u hu
theorem rows_sortable {a : Addr} {vs : List Value} {f : Value → Str} (h2 : 2 ≤ vs.length) (hp : ∀ v ∈ vs, RowAt s.heap v (f v)) (hi : ∀ u ∈ vs, ∀ v ∈ vs, f u = f v → u = v) (ha : ∀ o, s.heap.get? a = some o → o.cls ≠ .type "tuple") : SortableO prog w A s a vs fun v u => decide (ltS (f v) (f u)) := by
  intro h' keep
  have hp' : ∀ v ∈ vs, RowAt h' v (f v) := fun v hm => by
    obtain ⟨b, o, t, r, n, e, ho, hc, hd⟩ := hp v hm
    exact ⟨b, o, t, r, n, e, keep b o (fun z => by subst z; exact ha o ho hc) ho, hc, hd⟩
  obtain ⟨fs, h1, h2', h3⟩ := firsts_row hp'
  refine ⟨tuples' true, fun Q E hq => ?_, row_cmp hp' hi⟩
  refine PySem.W.kat_kind (T := .type "str") h1 (by omega) (fun f hm => ?_) (by rfl) ?_
  · obtain ⟨x, t, rfl⟩ := h3 f hm
    exact PySem.W.Looks.now
  · have e : (Value.type "str" != Value.type "tuple") = true := by first | decide +kernel | rfl | decide
    rw [e]
    exact hq
theorem sorted_seqH {it : Addr} {T : String} {o : Obj} {vs : List Value} {n : Nat} {ltv : Value → Value → Bool} {Q : Value → Shared → Prop} (O : Swo ltv) (hT : T = "list" ∨ T = "tuple") (ho : s.heap.get? it = some o) (hc : o.cls = .type T) (hd : o.data = .seq vs.toArray n) (hz : vs.length ≤ sizeLine)
    (hS : 2 ≤ vs.length → ∀ (h₁ : Heap) (a : Addr), (∀ b o, s.heap.get? b = some o → h₁.get? b = some o) → (∀ o, h₁.get? a = some o → o.cls = .type "list") → SortableO prog w A.in1.in1 { s with heap := h₁ } a vs ltv)
    (h : ∀ (out : List Value) (h' : Heap) (a : Addr) (e : Nat), Srtd ltv out → Stb ltv out vs → s.heap.get? a = none → (∀ b o, s.heap.get? b = some o → h'.get? b = some o) → h'.get? a = some (seqObj "list" out.toArray e) → Q (.ref a) { s with heap := h' }) :
    wpAny (model prog w) A (call (.builtin "sorted") [.ref it]) Q E s := by
  refine Calls.call_function_entry kind_sorted plain_sorted entry_sorted (args_sorted1 _) ?_
  unfold Builtin.«sorted»
  refine wpAny_bind (m := checkCount "sorted" 1 1 _) (wpAny_pure ?_)
  refine wpAny_bind (wpAny_collect_seq it hT ho hc hd (fun h1 k1 => ?_) (by rw [List.size_toArray]; exact hz))
  refine wpAny_bind (wpAny_newList ?_ hz)
  have hoL : (h1.push (seqObj "list" vs.toArray 0)).get? h1.objs.size = some (seqObj "list" vs.toArray 0) := Heap.get?_push_size _ rfl
  have fresh : s.heap.get? h1.objs.size = none := by
    cases e : s.heap.get? h1.objs.size with
    | none => rfl
    | some o => exact absurd (Heap.lt_size (k1 _ _ e)) (Nat.lt_irrefl _)
  show wpAny _ _ _ _ _ { s with heap := h1.push (seqObj "list" vs.toArray 0) }
  refine wpAny_bind (wpAny_holding (wpAny_call_entry slot_list_sort ⟨_, hoL, rfl⟩ entry_list_sort (list_sort_ord O hoL hz (fun h2 => hS h2 _ _ (fun b o e => Heap.get?_push_of_some _ (k1 _ _ e)) fun o e => by rw [hoL] at e; cases e; rfl) fun out hs hb => ⟨_, rfl, ?_⟩) (args_list_sort _)))
  obtain ⟨e, he⟩ := sortedHeap_at (vs := vs) (out := out.toArray) hoL
  refine wpAny_pure ⟨_, rfl, h out _ _ e hs hb fresh (fun b o q => ?_) he⟩
  have hlt : b < h1.objs.size := Heap.lt_size (k1 _ _ q)
  rw [sortedHeap_old (Nat.ne_of_lt hlt) (by rw [size_push']; exact Nat.lt_succ_of_lt hlt)]
  exact Heap.get?_push_of_some _ (k1 _ _ q)
end
/-- sorted(xs), xs a list or a tuple of rows; f: the first item of each -/
def rSortedR (K : PySem.W.Frag) : List V → Hp → VK → Prop := fun vs H Q => ∃ (a : Addr) (xs : List V) (f : V → Str), vs = [V.ref a] ∧ (H a = some (.lst xs) ∨ H a = some (.tup xs)) ∧ (∀ x ∈ xs, ∃ t r, x = V.ref t ∧ H t = some (.tup (.str (f x) :: r))) ∧ (∀ x ∈ xs, ∀ y ∈ xs, f x = f y → x = y) ∧
  ∀ (ys : List V) (p : Addr), ys.Perm xs → ys.Pairwise (fun x y => ¬ ltS (f y) (f x)) → H p = none → Q (.ref p) (upd H p (.lst ys))
section
variable {X : Cx}
theorem cr_sortedR {K : PySem.W.Frag} (hK : X.K = K) : CallR X (.builtin "sorted") (rSortedR K) := by
  subst hK
  intro pins s σ H vs us Q I r h
  obtain ⟨a, xs, f, rfl, hs, hx, hi, q⟩ := h
  have go : ∀ {its : List Value} {T : String} {o : Obj} {n : Nat}, Vals xs its → xs.length ≤ sizeLine → (T = "list" ∨ T = "tuple") → s.heap.get? a = some o → o.cls = .type T → o.data = .seq its.toArray n → wpAny (model X.prog X.w) X.A (call (.builtin "sorted") us) (EP X pins σ Q) X.xe s := fun {its T o n} rv hz hT ho hc hd => by
    rw [Vals.ref1 r]
    obtain ⟨e1, e2⟩ := refs_back rv fun x m => by
      obtain ⟨t, r, e, _⟩ := hx x m
      exact ⟨t, e⟩
    have hrow : ∀ v ∈ its, RowAt s.heap v (f (backV v)) := fun v hv => by
      obtain ⟨t, rfl⟩ := e2 v hv
      have hm : V.ref t ∈ xs := by rw [e1]; exact List.mem_map.mpr ⟨_, hv, rfl⟩
      obtain ⟨t', r', e, ht⟩ := hx _ hm
      cases e
      obtain ⟨_, its2, r2, o, ho, hc, n, hd⟩ := I.hok _ _ ht
      cases r2 with
      | cons rk rr =>
        obtain ⟨tk, rfl⟩ := rk
        exact ⟨t, o, tk, _, n, rfl, ho, hc, hd⟩
    have hinj : ∀ u ∈ its, ∀ v ∈ its, f (backV u) = f (backV v) → u = v := fun u hu v hv e => by
      obtain ⟨t, rfl⟩ := e2 u hu
      obtain ⟨t', rfl⟩ := e2 v hv
      have hm : V.ref t ∈ xs := by rw [e1]; exact List.mem_map.mpr ⟨_, hu, rfl⟩
      have hm' : V.ref t' ∈ xs := by rw [e1]; exact List.mem_map.mpr ⟨_, hv, rfl⟩
      have := hi _ hm _ hm' e
      cases this
      rfl
    refine sorted_seqH (swo_key fun v => f (backV v)) hT ho hc hd (by rw [← rv.length]; exact hz) (fun h2 h₁ a' kp ha => rows_sortable (s := { s with heap := h₁ }) h2 (fun v hv => (hrow v hv).keep kp) hinj fun o e c => by
      have := ha o e
      rw [this] at c
      injection c with c1
      exact absurd c1 (by decide)) fun out h' p e h1 h2 fr kp he => ?_
    have h3 : ∀ u ∈ out, ∃ a, u = Value.ref a := fun u hu => e2 u (h2.perm.mem_iff.mp hu)
    have hpm : (out.map backV).Perm xs := by
      rw [e1]
      exact h2.perm.map backV
    have hn : H p = none := by
      cases q : H p with
      | none => rfl
      | some x => obtain ⟨u, e⟩ := ok_there (I.hok _ _ q); rw [fr] at e; cases e
    have hsrt : (out.map backV).Pairwise (fun x y => ¬ ltS (f y) (f x)) := List.pairwise_map.mpr (h1.imp fun {x y} h => of_decide_eq_false h)
    exact ⟨.ref p, upd H p (.lst (out.map backV)), I.laidN (t' := s.toks) kp fr hn ⟨by rw [hpm.length_eq]; exact hz, out, e, vals_back h3, he⟩, rfl, q _ _ hpm hsrt hn⟩
  rcases hs with hs | hs
  · obtain ⟨its, rv, pl, hz⟩ := I.list (sl_of hs)
    obtain ⟨o, ho, hc, n, hd⟩ := pl.isList
    exact go rv hz (.inl rfl) ho hc hd
  · obtain ⟨its, rv, ⟨o, ho, hc, n, hd⟩, hz⟩ := I.tuple (st_of hs)
    exact go rv hz (.inr rfl) ho hc hd
end
/-- behind the statement the thing at d is frozen -/
def tFrz (t : TS) : TS := fun D σ H => t { D with nx := fun σ' H' => ∃ d u, H' d = some u ∧ Mut (some u) ∧ ∀ od, D.nx σ' (upd H' d (.frz od u)) } σ H
theorem ps_frz {X : Cx} {st : Stmt} {t : TS} (h : PS X st t) : PS X st (tFrz t) := by
  refine ⟨fun pins s σ H D I hw => ?_⟩
  refine thn (h.run pins s σ _ _ I hw) fun f s1 q => ?_
  cases f with
  | next =>
    obtain ⟨σ', H', I2, d, u, hd, mu, q⟩ := q
    obtain ⟨od, I3⟩ := I2.lock hd mu
    exact ⟨σ', _, I3, q od⟩
  | brk => exact q
  | cont => exact q
  | ret v => exact q
set_option maxHeartbeats 1000000
structure HasMt (P : Program) (w : World) (K : PySem.W.Frag) (mg : Str → Option Value) (base : Heap) (CX : CXT) (C : Addr) (m : Str) (k : Nat) (ps : List Str) (sp : Sp) : Prop where
  ex : ∃ f fd, FnOk P w K mg base CX k f fd ps sp ∧ Meth K C m f ∧ Binds K fd ps []
theorem HasMt.mono {P : Program} {w : World} {K : PySem.W.Frag} {mg : Str → Option Value} {base : Heap} {CX : CXT} {C : Addr} {m : Str} {j k : Nat} {ps : List Str} {sp : Sp} (h : HasMt P w K mg base CX C m j ps sp) (l : j ≤ k) : HasMt P w K mg base CX C m k ps sp := by
  obtain ⟨f, fd, F, r⟩ := h.ex
  exact ⟨f, fd, F.mono l, r⟩
structure HasMtN (P : Program) (w : World) (K : PySem.W.Frag) (mg : Str → Option Value) (base : Heap) (CX : CXT) (C : Addr) (m : Str) (k n : Nat) (ps ks : List Str) (gV : List V → List V → List V) (sp : Sp) : Prop where
  ex : ∃ f fd, FnOk P w K mg base CX k f fd ps sp ∧ Meth K C m f ∧ ∃ g, KBn K fd ps (n + 1) ks g gV
theorem HasMtN.mono {P : Program} {w : World} {K : PySem.W.Frag} {mg : Str → Option Value} {base : Heap} {CX : CXT} {C : Addr} {m : Str} {j k n : Nat} {ps ks : List Str} {gV : List V → List V → List V} {sp : Sp} (h : HasMtN P w K mg base CX C m j n ps ks gV sp) (l : j ≤ k) : HasMtN P w K mg base CX C m k n ps ks gV sp := by
  obtain ⟨f, fd, F, r⟩ := h.ex
  exact ⟨f, fd, F.mono l, r⟩
def tMt (C : Addr) (m : Str) (sp : Sp) (E : L2.St → XK) (ta : TE) (t : TA) : TE := fun σ H Q => ta σ H fun x H1 => ∃ a dx fs, x = .ref a ∧ H1 a = some (.ins C dx fs) ∧ fs.lookup m = none ∧ t σ H1 fun vs H2 => sp (.ref a :: vs) H2 Q (E σ)
def tMtN (C : Addr) (m : Str) (n j : Nat) (sp : Sp) (gV : List V → List V → List V) (E : L2.St → XK) (ta : TE) (t tk : TA) : TE := fun σ H Q => ta σ H fun x H1 => ∃ a dx fs, x = .ref a ∧ H1 a = some (.ins C dx fs) ∧ fs.lookup m = none ∧ t σ H1 fun vs H2 => tk σ H2 fun zs H3 => vs.length = n ∧ zs.length = j ∧ sp (gV (.ref a :: vs) zs) H3 Q (E σ)
section
variable {X : Cx} {CX : CXT} {C f : Addr} {x : Str} {k n : Nat} {ps ks : List Str} {gV : List V → List V → List V} {sp : Sp} {E : L2.St → XK} {p pos apos : Pos} {e o : Expr} {es : List Expr} {kws : List Keyword} {t tk : TA} {ta : TE} {m : Str} {pl : Sem Bool}
theorem pe_mt (h : HasMt X.prog X.w X.K X.mg X.base CX C m k ps sp) (c : Cls X.K C) (he : PE X o ta) (hr : Room k X.A) (hx : ∀ σ, PassesAt CX X σ (E σ)) (ha : PA X (e :: es) t)
    (hst : starEach (e :: es) X.env = (false, eval e X.env) :: starEach es X.env := by rfl) (hpl : (backTo pos (starEach es X.env)).any (·.1) = false := by rfl)
    (ht : eval (.Call (.Attribute o m apos) (e :: es) [] pos) X.env = (do
      let ov ← eval o X.env
      standAt apos.atName
      let (f, first) ← holding [ov] (getMethod ov m pl)
      callWith pos f first (backTo pos (starEach (e :: es) X.env)) (backToKw pos (keywordEach [] X.env))) := by rfl) :
    PE X (.Call (.Attribute o m apos) (e :: es) [] pos) (tMt C m sp E ta t) := by
  obtain ⟨f, fd, F, hm, hb⟩ := h.ex
  refine ⟨fun pins s σ H Q I h => ?_⟩
  refine PySem.W.methodCall_KW (pl := pl) (thn (he.run pins s σ H _ I h) fun u s1 ⟨x, H1, I1, rx, a, dx, fs, ex, ea, l, q⟩ => ?_) ht
  subst ex
  obtain rfl : u = Value.ref a := rx
  refine getmeth_ok I1 ea c hm l ?_
  refine PySem.W.callWith_K (first := [.ref a]) (h₀ := X.base) I.ok.mod.kin hm.kp (thn (ha.run pos pins s1 σ H1 _ I1 q) fun us s2 ⟨vs, H2, I2, r, q2⟩ => ⟨I2.kIn, ?_⟩) hst hpl
  exact run_fnS (us := .ref a :: us) (vs := .ref a :: vs) F hr hb (hx σ) I2 (.cons rfl r) q2
theorem pe_mtN (h : HasMtN X.prog X.w X.K X.mg X.base CX C m k n ps ks gV sp) (c : Cls X.K C) (he : PE X o ta) (hr : Room k X.A) (hx : ∀ σ, PassesAt CX X σ (E σ)) (ha : PA X (e :: es) t) (hkw : PK X kws tk)
    (hall : (backToKw pos (keywordEach kws X.env)).all (·.1.isSome) = true := by rfl) (hks : (backToKw pos (keywordEach kws X.env)).filterMap (·.1) = ks := by rfl)
    (hst : starEach (e :: es) X.env = (false, eval e X.env) :: starEach es X.env := by rfl)
    (hpl : ((backTo pos (starEach (e :: es) X.env)).any (·.1) || (backToKw pos (keywordEach kws X.env)).any (·.1.isNone)) = false := by rfl)
    (ht : eval (.Call (.Attribute o m apos) (e :: es) kws pos) X.env = (do
      let ov ← eval o X.env
      standAt apos.atName
      let (f, first) ← holding [ov] (getMethod ov m pl)
      callWith pos f first (backTo pos (starEach (e :: es) X.env)) (backToKw pos (keywordEach kws X.env))) := by rfl) :
    PE X (.Call (.Attribute o m apos) (e :: es) kws pos) (tMtN C m n ks.length sp gV E ta t tk) := by
  obtain ⟨f, fd, F, hm, g, hb⟩ := h.ex
  refine ⟨fun pins s σ H Q I h => ?_⟩
  refine PySem.W.methodCall_KW (pl := pl) (thn (he.run pins s σ H _ I h) fun u s1 ⟨x, H1, I1, rx, a, dx, fs, ex, ea, l, q⟩ => ?_) ht
  subst ex
  obtain rfl : u = Value.ref a := rx
  refine getmeth_ok I1 ea c hm l ?_
  refine PySem.W.callWith_KW (first := [.ref a]) (h₀ := X.base) I.ok.mod.kin hm.kp hall (thn (ha.run pos pins s1 σ H1 _ I1 q) fun us s2 ⟨vs, H2, I2, r, q2⟩ => ?_) hpl hst
  refine thn (hkw.run pos pins s2 σ H2 _ I2 q2) fun ws s3 ⟨zs, H3, I3, rz, l1, l2, q3⟩ => ⟨I3.kIn, ?_⟩
  rw [hks]
  have r2 := hb.rel (vs := .ref a :: vs) (us := .ref a :: us) (.cons rfl r) rz
  exact wpAny_call (code_fnS F hr (hb.to s3 (.ref a :: us) ws I3.kIn (by rw [List.length_cons, ← r.length, l1]) (rz.length.symm.trans l2)) (hx σ) I3 r2 q3)
theorem rd_mt {σ : L2.St} {H : Hp} {Q : VK} (h : ta σ H fun x H1 => ∃ a dx fs, x = .ref a ∧ H1 a = some (.ins C dx fs) ∧ fs.lookup m = none ∧ t σ H1 fun vs H2 => sp (.ref a :: vs) H2 Q (E σ)) : tMt C m sp E ta t σ H Q := h
theorem rd_mtN {j : Nat} {σ : L2.St} {H : Hp} {Q : VK} (h : ta σ H fun x H1 => ∃ a dx fs, x = .ref a ∧ H1 a = some (.ins C dx fs) ∧ fs.lookup m = none ∧ t σ H1 fun vs H2 => tk σ H2 fun zs H3 => vs.length = n ∧ zs.length = j ∧ sp (gV (.ref a :: vs) zs) H3 Q (E σ)) : tMtN C m n j sp gV E ta t tk σ H Q := h
end
theorem rd_dget {td ty : TE} {σ : L2.St} {H : Hp} {Q : VK} (h : td σ H fun x H1 => ty σ H1 fun y H2 => ∃ a v, x = .ref a ∧ DGet H2 a y (some v) ∧ Q v H2) : tDGet td ty σ H Q := h
theorem rd_din {td ty : TE} {σ : L2.St} {H : Hp} {Q : VK} (h : ty σ H fun y H1 => td σ H1 fun x H2 => ∃ a o, x = .ref a ∧ DGet H2 a y o ∧ Q (.bl o.isSome) H2) : tDIn ty td σ H Q := h
theorem dget_rd {H : Hp} {a : Addr} {kvs : List (Key × V)} {z : Str} (h : Rd H a (.dK kvs)) : DGet H a (.str z) (valV kvs (.inr z)) := .inl ⟨kvs, .inr z, h, rfl, rfl⟩
theorem dict_of {X : Cx} {pins : List (Addr × Obj)} {σ : L2.St} {H : Hp} {s : Shared} {a : Addr} {kvs : List (Key × V)} (I : Inv X pins σ H s) (h : Rd H a (.dK kvs)) : kvs.length ≤ sizeLine ∧ (a == sysModules) = false ∧ ∃ vs, KV kvs vs ∧ s.heap.DictOf (mixKind X.prog X.w) a vs := by
  rcases h with h | ⟨o, h⟩
  · obtain ⟨z, hs, vs, kv, d⟩ := (show ObjOk X.prog X.w H s.heap a (.dK kvs) from I.hok a _ h)
    exact ⟨z, hs, vs, kv, d⟩
  · obtain ⟨_, z, hs, vs, kv, d⟩ := (show ObjOk X.prog X.w H s.heap a (.frz o (.dK kvs)) from I.hok a _ h)
    exact ⟨z, hs, vs, kv, d⟩
/-- list(d.items()), d frozen or not -/
def rItemsR : V → Hp → VK → Prop := fun x H Q => ∃ (d : Addr) (kvs : List (Key × V)), x = .ref d ∧ Rd H d (.dK kvs) ∧
  ∀ (H' : Hp) (p : Addr) (ts : List Addr), (∀ b o, H b = some o → H' b = some o) → H p = none → (∀ t ∈ ts, H t = none) → p ∉ ts → H' p = some (.lst (ts.map V.ref)) → Paired (fun (t : Addr) (q : Key × V) => H' t = some (.tup [kV q.1, q.2])) ts kvs → Q (.ref p) H'
def tListItemsR (te : TE) : TE := fun σ H Q => te σ H fun x H1 => rItemsR x H1 Q
theorem rd_li {te : TE} {σ : L2.St} {H : Hp} {Q : VK} (h : te σ H fun x H1 => rItemsR x H1 Q) : tListItemsR te σ H Q := h
section
variable {X : Cx} {e : Expr} {te : TE} {p apos cpos pos : Pos}
theorem pe_listItemsR (hc : X.calm = true) (he : PE X e te) (hg : Gl X "list") (hm : X.mg "list" = none) (hv : bootBuiltins "list" = some (.type "list")) (hbase : attributeBase e "items" X.env (eval e X.env) = eval e X.env := by rfl) (hline : (apos.endLine == cpos.line) = true := by rfl)
    (hs : starEach [.Call (.Attribute e "items" apos) [] [] cpos] X.env = (false, eval (.Call (.Attribute e "items" apos) [] [] cpos) X.env) :: starEach [] X.env := by rfl) :
    PE X (.Call (.Name "list" p) [.Call (.Attribute e "items" apos) [] [] cpos] [] pos) (tListItemsR te) := by
  refine ⟨fun pins s σ H Q I hq => ?_⟩
  refine wpAny_Call_Name_kw (ld_blt I hg hm hv ?_)
  refine PyProof.Rows.callWith_type1 ?_ hs rfl
  rw [hs]
  show wpAny _ _ (spliced ((false, eval (.Call (.Attribute e "items" apos) [] [] cpos) X.env) :: backTo pos (starEach [] X.env))) _ _ s
  refine Calls.spliced_cons ?_
  refine wpAny_Call_method (T := "dict") (id := "dict.items") hbase rfl hline F.plainAttrs_dict F.slot_dict_items F.type_dict_items (thn (he.run pins s σ H _ I hq) fun u s1 ⟨x, H1, I1, rx, d, kvs, ex, hd, q⟩ => ?_)
  subst ex
  obtain rfl : u = Value.ref d := rx
  obtain ⟨hz, hs0, vs, kv, hdo⟩ := dict_of I1 hd
  obtain ⟨ep, hat⟩ := hdo.dictAt
  have lk : kvs.length = vs.length := Paired.length kv
  have I2 : Inv X pins σ H1 { s1 with heap := s1.heap.push { cls := .type "dict_items", data := .fields #[.ref d] } } := I1.kept (t' := s1.toks) fun b ob q => Heap.get?_push_of_some _ q
  refine ⟨hdo.typeIs, hdo.mapOf.noDict, ?_⟩
  show wpAny _ _ (callWith cpos (.builtin "dict.items") [.ref d] [] []) _ X.xe s1
  refine method_meetsIn F.slot_dict_items F.entry_dict_items rfl (PySem.evalArgs_none ⟨rfl, hdo.typeIs, F.args_dict_items_1 _, _, meets_dict_items (mixKind X.prog X.w) d hs0, ⟨vs, hdo⟩, ?_⟩)
  refine Calls.spliced_nil ?_
  refine PySem.W.kdx_call (knd := mixKind X.prog X.w) (kvs := vs) (ep := ep) (I1.ok.hd hc) ⟨_, Heap.get?_push_size _ rfl, rfl, rfl⟩ (hat.push _) (by omega) fun h' tk acc c as hk hS hl hG hacc => ?_
  obtain ⟨H', k1, k2, k3, k4, k5, k6, J⟩ := LiI.items_laid (tk := tk) I2 hz kv hk hS hl hG hacc
  exact ⟨.ref _, H', J, rfl, q H' _ as k1 k2 k3 k4 k5 k6⟩
end
set_option maxHeartbeats 1000000
def ItK (o : Obj) (d it : Addr) : HO := .ext fun h => ∃ (es : Array DictEntry) (ep : Nat), o.data = .dict es ep ∧ h.IsKeyIter it d 0 es.size ep
structure FnS (P : Program) (w : World) (K : PySem.W.Frag) (mg : Str → Option Value) (base : Heap) (CX : CXT) (k : Nat) (f : Addr) (fd : FuncData) (ps : List Str) (sp : Nat → Sp) : Prop where
  len : ∀ n vs H Q E, sp n vs H Q E → vs.length = ps.length
  run : ∀ (A : Around) (outer : List Env) (s : Shared) (H : Hp) (args : Args) (us : List Value) (vs : List V) (Q : VK) (E : XK), Room k A → Env0 P w K mg base A outer s H → BindsTo s fd args (ps.zip us) → Vals vs us → sp s.heap.objs.size vs H Q E →
    codeAny (model P w) A (.call (.ref f) args) (CR CX outer P w H s Q E) s
theorem FnS.mono {P : Program} {w : World} {K : PySem.W.Frag} {mg : Str → Option Value} {base : Heap} {CX : CXT} {j k : Nat} {f : Addr} {fd : FuncData} {ps : List Str} {sp : Nat → Sp} (F : FnS P w K mg base CX j f fd ps sp) (h : j ≤ k) :
    FnS P w K mg base CX k f fd ps sp := ⟨F.len, fun A outer s H args us vs Q E hr => F.run A outer s H args us vs Q E (hr.mono h)⟩
def spIterF (C : Addr) (fld : Str) : Nat → Sp := fun n vs H Q _ => ∃ (a dx d : Addr) (fs : List (Str × V)) (o : Obj) (kvs : List (Key × V)), vs = [.ref a] ∧ H a = some (.ins C dx fs) ∧ fs.lookup fld = some (.ref d) ∧ H d = some (.frz o (.dK kvs)) ∧ ∀ it, H it = none → n ≤ it → Q (.ref it) (upd H it (ItK o d it))
structure HasIt (P : Program) (w : World) (K : PySem.W.Frag) (mg : Str → Option Value) (base : Heap) (C : Addr) (fld : Str) (k : Nat) : Prop where
  ex : ∃ f fd, FnS P w K mg base CX0 k f fd ["self"] (spIterF C fld) ∧ PySem.W.findIn K (.ref C) "__iter__" = some (some (.ref f)) ∧ PySem.W.isFn K (.ref f) = true ∧ Binds K fd ["self"] []
  nolen : PySem.W.findIn K (.ref C) "__len__" = some none
  nohint : PySem.W.findIn K (.ref C) "__length_hint__" = some none
theorem HasIt.mono {P : Program} {w : World} {K : PySem.W.Frag} {mg : Str → Option Value} {base : Heap} {C : Addr} {fld : Str} {j k : Nat} (h : HasIt P w K mg base C fld j) (l : j ≤ k) : HasIt P w K mg base C fld k := by
  obtain ⟨f, fd, F, r⟩ := h.ex
  exact ⟨⟨f, fd, F.mono l, r⟩, h.nolen, h.nohint⟩
/-- what is walked: the keys of the dict in the field -/
def Walked (C : Addr) (fld : Str) (H : Hp) (x : V) (R : Addr → Obj → List (Key × V) → Prop) : Prop := ∃ (a dx d : Addr) (fs : List (Str × V)) (o : Obj) (kvs : List (Key × V)), x = .ref a ∧ H a = some (.ins C dx fs) ∧ fs.lookup fld = some (.ref d) ∧ H d = some (.frz o (.dK kvs)) ∧ R d o kvs
def iOwn (C : Addr) (fld : Str) (te : TE) : TI := fun σ H R => te σ H fun x H1 => Walked C fld H1 x fun d o kvs => R (Itk d o kvs) H1
set_option maxHeartbeats 1000000
def SN (v : V) : Prop := v = .non ∨ ∃ i, v = .int i
instance : DecidableEq (Option V) := inferInstance
theorem rd_iItems {td : TE} {σ : L2.St} {H : Hp} {R : It → Hp → Prop} (h : td σ H fun x H1 => ∃ d o kvs, x = .ref d ∧ H1 d = some (.frz o (.dK kvs)) ∧ R (Iti d o kvs) H1) : iItems td σ H R := h
theorem rd_iOwn {C : Addr} {fld : Str} {te : TE} {σ : L2.St} {H : Hp} {R : It → Hp → Prop} (h : te σ H fun x H1 => Walked C fld H1 x fun d o kvs => R (Itk d o kvs) H1) : iOwn C fld te σ H R := h
theorem rd_dc {wi : TI} {g : TG} {tt : TT} {tk tv : TE} {vs : List Nat} {σ : L2.St} {H : Hp} {Q : VK} (h : wi σ H fun J H1 => ∀ D, H1 D = none → ∃ W : Nat → Nat → Hp → Prop, (∃ m, W 0 m (upd H1 D (.dK []))) ∧ ∀ i m H, W i m H →
  (J.stop i H ∧ Q (.ref D) H) ∨ (J.go i H ∧ ∃ Nx : Hp → Prop, (∀ H', Nx H' → ∃ m', m' < m ∧ W (i + 1) m' H') ∧ ∀ x H', J.yld i H x H' → g x (wipe σ vs) H' fun σ2 H2 => wipe σ2 vs = wipe σ vs ∧ tt σ2 H2 fun b H3 =>
    if b = true then tk σ2 H3 fun y H4 => tv σ2 H4 fun z H5 => ∃ kvs k, y = kV k ∧ H5 D = some (.dK kvs) ∧ kvs.length < sizeLine ∧ Nx (upd H5 D (.dK (putK kvs k z))) else Nx H3)) : tDc wi g tt tk tv vs σ H Q := h
theorem dc_list {K : PySem.W.Frag} {a : Addr} {xs : List V} {g : TG} {tt : TT} {tk tv : TE} {vs : List Nat} {σ : L2.St} {H1 : Hp} {D : Addr} {Qd : Hp → Prop} (Pv : Nat → Hp → Prop) (h0 : Pv 0 (upd H1 D (.dK []))) (hl : ∀ i H, i ≤ xs.length → Pv i H → SqL K H a xs)
    (hs : ∀ i x H, xs[i]? = some x → Pv i H → g x (wipe σ vs) H fun σ2 H2 => wipe σ2 vs = wipe σ vs ∧ tt σ2 H2 fun b H3 =>
      if b = true then tk σ2 H3 fun y H4 => tv σ2 H4 fun z H5 => ∃ kvs k, y = kV k ∧ H5 D = some (.dK kvs) ∧ kvs.length < sizeLine ∧ Pv (i + 1) (upd H5 D (.dK (putK kvs k z))) else Pv (i + 1) H3) (hd : ∀ H, Pv xs.length H → Qd H) :
    ∃ W : Nat → Nat → Hp → Prop, (∃ m, W 0 m (upd H1 D (.dK []))) ∧ ∀ i m H, W i m H →
      ((Itl K a).stop i H ∧ Qd H) ∨ ((Itl K a).go i H ∧ ∃ Nx : Hp → Prop, (∀ H', Nx H' → ∃ m', m' < m ∧ W (i + 1) m' H') ∧ ∀ x H', (Itl K a).yld i H x H' → g x (wipe σ vs) H' fun σ2 H2 => wipe σ2 vs = wipe σ vs ∧ tt σ2 H2 fun b H3 =>
        if b = true then tk σ2 H3 fun y H4 => tv σ2 H4 fun z H5 => ∃ kvs k, y = kV k ∧ H5 D = some (.dK kvs) ∧ kvs.length < sizeLine ∧ Nx (upd H5 D (.dK (putK kvs k z))) else Nx H3) := by
  refine ⟨fun i m H => m = xs.length - i ∧ i ≤ xs.length ∧ Pv i H, ⟨xs.length, by simp, Nat.zero_le _, h0⟩, ?_⟩
  rintro i m H ⟨rfl, hi, p⟩
  have q := hl i H hi p
  by_cases hlt : i < xs.length
  · refine .inr ⟨⟨xs, xs[i], q, by simp [hlt]⟩, Pv (i + 1), fun H' p' => ⟨xs.length - (i + 1), by omega, rfl, hlt, p'⟩, fun x H' y => ?_⟩
    obtain ⟨e, y⟩ := y
    subst e
    exact hs i x _ (y xs q) p
  · have e : i = xs.length := by omega
    subst e
    exact .inl ⟨⟨xs, q, Nat.le_refl _⟩, hd H p⟩
set_option maxHeartbeats 1000000
theorem ix_seqR {X : Cx} {K : PySem.W.Frag} (e : X.K = K) : IxR X (rIx K) := e ▸ ix_seq
theorem call_isiR {X : Cx} {K : PySem.W.Frag} (e : X.K = K) : CallR X (.builtin "isinstance") (rIsi K) := e ▸ call_isi
theorem call_isiTR {X : Cx} {K : PySem.W.Frag} (e : X.K = K) : CallR X (.builtin "isinstance") (rIsiT K) := e ▸ call_isiT
theorem op_in_seqR {X : Cx} {K : PySem.W.Frag} (e : X.K = K) : OpR X (compareOp .In) (rIn K false) := e ▸ op_in_seq
theorem op_notin_seqR {X : Cx} {K : PySem.W.Frag} (e : X.K = K) : OpR X (compareOp .NotIn) (rIn K true) := e ▸ op_notIn_seq
theorem rd_gNm {i : Nat} {v : V} {σ : L2.St} {H : Hp} {Q : L2.St → Hp → Prop} (h : Q (σ.set i (some v)) H) : gName i v σ H Q := h
theorem rd_frz {t : TS} {D : Ends} {σ : L2.St} {H : Hp} (h : t { D with nx := fun σ' H' => ∃ d u, H' d = some u ∧ Mut (some u) ∧ ∀ od, D.nx σ' (upd H' d (.frz od u)) } σ H) : tFrz t D σ H := h
set_option maxHeartbeats 1000000
def strOf : Nat → Str → Str → Str
  | 0, a, _ => a
  | _, _, b => b
section
variable {prog : Program} {w : World} {A : Around} {E : Value → Shared → Prop} {s : Shared}
theorem two_at {a b : Str} {t u : Tok} {i : Nat} {v : Value} (h : (#[Value.str a t, Value.str b u])[i]? = some v) : ∃ t, v = .str (strOf i a b) t := by
  match i with
  | 0 => simp at h; exact ⟨t, h.symm⟩
  | 1 => simp at h; exact ⟨u, h.symm⟩
  | i + 2 => simp at h
theorem cmp_strs_lt {a b : Str} {t u : Tok} : CmpOf prog w A .Lt (fun i v => (#[Value.str a t, Value.str b u])[i]? = some v) (fun i j => decide ((strOf i a b).cps.toList < (strOf j a b).cps.toList)) := fun i j vi vj s Q E hi hj h => by
  obtain ⟨t1, rfl⟩ := two_at hi
  obtain ⟨t2, rfl⟩ := two_at hj
  exact lt_str h
theorem cmp_strs_gt {a b : Str} {t u : Tok} : CmpOf prog w A .Gt (fun i v => (#[Value.str a t, Value.str b u])[i]? = some v) (fun i j => decide ((strOf j a b).cps.toList < (strOf i a b).cps.toList)) := fun i j vi vj s Q E hi hj h => by
  obtain ⟨t1, rfl⟩ := two_at hi
  obtain ⟨t2, rfl⟩ := two_at hj
  exact PySem.P.gt_str h
theorem min_two_strs {a b : Str} {t u : Tok} {Q : Value → Shared → Prop} (hh : A.handled = none)
    (h : ∀ h' tk, (∀ c o, s.heap.get? c = some o → h'.get? c = some o) → Q (if ltS b a then .str b u else .str a t) { s with heap := h', toks := tk }) :
    wpAny (model prog w) A (call (.builtin "min") [.str a t, .str b u]) Q E s := by
  have hT : (s.heap.push { cls := .type "tuple", data := .seq #[.str a t, .str b u] }).IsTuple s.heap.objs.size #[.str a t, .str b u] := ⟨_, Heap.get?_push_size _ rfl, rfl, 0, rfl⟩
  refine call_min_two (wpAny_pyIter_tuple hT ?_)
  have hsz : (s.heap.push { cls := .type "tuple", data := .seq #[.str a t, .str b u] }).objs.size = s.heap.objs.size + 1 := Heap.size_push ..
  refine ⟨_, [_, s.heap.objs.size], [_], _, _, _, _, rfl, Walks.tuple (A := A.in1) hh _ s.heap.objs.size (by rw [hsz]; exact Nat.ne_of_lt (Nat.lt_succ_self _)) #[.str a t, .str b u],
    ⟨⟨_, Heap.get?_push_size _ rfl, rfl, rfl⟩, hT.push _⟩, fun c hc => ?_, by simp, cmp_strs_lt, fun v h' tk hP hk => ?_⟩
  · show c < ((s.heap.push _).push _).objs.size
    rw [Heap.size_push, hsz]
    rcases List.mem_cons.mp hc with rfl | hc
    · rw [hsz]; exact Nat.lt_succ_self _
    · rcases List.mem_cons.mp hc with rfl | hc
      · exact Nat.lt_succ_of_lt (Nat.lt_succ_self _)
      · cases hc
  · have hold : ∀ c o, s.heap.get? c = some o → h'.get? c = some o := fun c o e => by
      refine hk c o (fun hm => ?_) (Heap.get?_push_of_some _ (Heap.get?_push_of_some _ e))
      rcases List.mem_cons.mp hm with e1 | hm
      · have := Heap.lt_size e; rw [e1, hsz] at this; exact Nat.lt_irrefl _ (Nat.lt_of_succ_lt this)
      · cases hm
    have := h h' tk hold
    have hv : v = if ltS b a then Value.str b u else Value.str a t := by
      have hP' : (#[Value.str a t, Value.str b u])[argBest (fun i j => decide ((strOf i a b).cps.toList < (strOf j a b).cps.toList)) 1]? = some v := hP
      by_cases hba : ltS b a
      · have e : argBest (fun i j => decide ((strOf i a b).cps.toList < (strOf j a b).cps.toList)) 1 = 1 := by unfold ltS at hba; simp [argBest, strOf, hba]
        rw [e] at hP'
        simpa [hba] using hP'.symm
      · have e : argBest (fun i j => decide ((strOf i a b).cps.toList < (strOf j a b).cps.toList)) 1 = 0 := by unfold ltS at hba; simp [argBest, strOf, hba]
        rw [e] at hP'
        simpa [hba] using hP'.symm
    rw [hv]; exact this
theorem max_two_strs {a b : Str} {t u : Tok} {Q : Value → Shared → Prop} (hh : A.handled = none)
    (h : ∀ h' tk, (∀ c o, s.heap.get? c = some o → h'.get? c = some o) → Q (if ltS a b then .str b u else .str a t) { s with heap := h', toks := tk }) :
    wpAny (model prog w) A (call (.builtin "max") [.str a t, .str b u]) Q E s := by
  have hT : (s.heap.push { cls := .type "tuple", data := .seq #[.str a t, .str b u] }).IsTuple s.heap.objs.size #[.str a t, .str b u] := ⟨_, Heap.get?_push_size _ rfl, rfl, 0, rfl⟩
  refine call_max_two (wpAny_pyIter_tuple hT ?_)
  have hsz : (s.heap.push { cls := .type "tuple", data := .seq #[.str a t, .str b u] }).objs.size = s.heap.objs.size + 1 := Heap.size_push ..
  refine ⟨_, [_, s.heap.objs.size], [_], _, _, _, _, rfl, Walks.tuple (A := A.in1) hh _ s.heap.objs.size (by rw [hsz]; exact Nat.ne_of_lt (Nat.lt_succ_self _)) #[.str a t, .str b u],
    ⟨⟨_, Heap.get?_push_size _ rfl, rfl, rfl⟩, hT.push _⟩, fun c hc => ?_, by simp, cmp_strs_gt, fun v h' tk hP hk => ?_⟩
  · show c < ((s.heap.push _).push _).objs.size
    rw [Heap.size_push, hsz]
    rcases List.mem_cons.mp hc with rfl | hc
    · rw [hsz]; exact Nat.lt_succ_self _
    · rcases List.mem_cons.mp hc with rfl | hc
      · exact Nat.lt_succ_of_lt (Nat.lt_succ_self _)
      · cases hc
  · have hold : ∀ c o, s.heap.get? c = some o → h'.get? c = some o := fun c o e => by
      refine hk c o (fun hm => ?_) (Heap.get?_push_of_some _ (Heap.get?_push_of_some _ e))
      rcases List.mem_cons.mp hm with e1 | hm
      · have := Heap.lt_size e; rw [e1, hsz] at this; exact Nat.lt_irrefl _ (Nat.lt_of_succ_lt this)
      · cases hm
    have := h h' tk hold
    have hv : v = if ltS a b then Value.str b u else Value.str a t := by
      have hP' : (#[Value.str a t, Value.str b u])[argBest (fun i j => decide ((strOf j a b).cps.toList < (strOf i a b).cps.toList)) 1]? = some v := hP
      by_cases hba : ltS a b
      · have e : argBest (fun i j => decide ((strOf j a b).cps.toList < (strOf i a b).cps.toList)) 1 = 1 := by unfold ltS at hba; simp [argBest, strOf, hba]
        rw [e] at hP'
        simpa [hba] using hP'.symm
      · have e : argBest (fun i j => decide ((strOf j a b).cps.toList < (strOf i a b).cps.toList)) 1 = 0 := by unfold ltS at hba; simp [argBest, strOf, hba]
        rw [e] at hP'
        simpa [hba] using hP'.symm
    rw [hv]; exact this
end
def minS (a b : Str) : Str := if ltS b a then b else a
def maxS (a b : Str) : Str := if ltS a b then b else a
section
variable {X : Cx}
theorem call_minS (hc : X.calm = true) : CallR X (.builtin "min") (fun xs H Q => ∃ i j, xs = [.str i, .str j] ∧ Q (.str (minS i j)) H) := by
  intro pins s σ H xs us Q I r h
  obtain ⟨i, j, rfl, q⟩ := h
  obtain ⟨u, w', rfl, ⟨t, rfl⟩, ⟨t', rfl⟩⟩ := vals2 r
  refine min_two_strs (I.ok.hd hc) fun h' tk k => ⟨_, H, I.kept k, ?_, q⟩
  unfold minS
  by_cases hj : ltS j i
  · rw [if_pos hj, if_pos hj]; exact ⟨_, rfl⟩
  · rw [if_neg hj, if_neg hj]; exact ⟨_, rfl⟩
theorem call_maxS (hc : X.calm = true) : CallR X (.builtin "max") (fun xs H Q => ∃ i j, xs = [.str i, .str j] ∧ Q (.str (maxS i j)) H) := by
  intro pins s σ H xs us Q I r h
  obtain ⟨i, j, rfl, q⟩ := h
  obtain ⟨u, w', rfl, ⟨t, rfl⟩, ⟨t', rfl⟩⟩ := vals2 r
  refine max_two_strs (I.ok.hd hc) fun h' tk k => ⟨_, H, I.kept k, ?_, q⟩
  unfold maxS
  by_cases hj : ltS i j
  · rw [if_pos hj, if_pos hj]; exact ⟨_, rfl⟩
  · rw [if_neg hj, if_neg hj]; exact ⟨_, rfl⟩
end
set_option maxHeartbeats 1000000
section
variable {α β : Type} {f : α → Str}
def srtBy (f : α → Str) (l : List α) : List α := l.mergeSort fun a b => !decide (ltS (f b) (f a))
def Asc (f : α → Str) (l : List α) : Prop := l.Pairwise fun x y => ¬ ltS (f y) (f x)
theorem srt_perm (l : List α) : (srtBy f l).Perm l := List.mergeSort_perm l _
theorem srt_asc (l : List α) : Asc f (srtBy f l) := by
  have h := List.pairwise_mergeSort (le := fun a b => !decide (ltS (f b) (f a))) (fun a b c h1 h2 => by
    simp only [Bool.not_eq_true', decide_eq_false_iff_not] at *
    exact fun c1 => List.not_le.mpr c1 (List.le_trans (List.not_lt.mp h1) (List.not_lt.mp h2))) (fun a b => by
    by_cases c : ltS (f b) (f a)
    · simp [c, ltS_asymm c]
    · simp [c]) l
  exact h.imp fun {x y} q => by simpa using q
theorem asc_uniq : ∀ {xs ys : List α}, xs.Perm ys → Asc f xs → Asc f ys → (xs.map f).Nodup → xs = ys
  | [], ys, h, _, _, _ => (List.nil_perm.mp h).symm
  | x :: xs, [], h, _, _, _ => absurd (List.perm_nil.mp h) (by simp)
  | x :: xs, y :: ys, h, hx, hy, nd => by
    obtain ⟨x1, x2⟩ := List.pairwise_cons.mp hx
    obtain ⟨y1, y2⟩ := List.pairwise_cons.mp hy
    have e : x = y := by
      rcases List.mem_cons.mp (h.mem_iff.mp List.mem_cons_self) with e | hm
      · exact e
      · rcases List.mem_cons.mp (h.mem_iff.mpr (List.mem_cons_self (a := y))) with e | hm2
        · exact e.symm
        · have ef : f x = f y := ltS_tri (fun q => y1 _ hm q) (fun q => x1 _ hm2 q)
          have : f x ∈ xs.map f := by rw [ef]; exact List.mem_map_of_mem hm2
          rw [List.map_cons] at nd
          exact absurd this (List.nodup_cons.mp nd).1
    subst e
    rw [List.map_cons] at nd
    rw [asc_uniq ((List.perm_cons x).mp h) x2 y2 (List.nodup_cons.mp nd).2]
theorem srt_eq {xs l : List α} (h : xs.Perm l) (a : Asc f xs) (nd : (l.map f).Nodup) : xs = srtBy f l :=
  asc_uniq (h.trans (srt_perm l).symm) a (srt_asc l) ((h.map f).nodup_iff.mpr nd)
theorem srt_of_perm {xs l : List α} (h : xs.Perm l) (nd : (l.map f).Nodup) : srtBy f xs = srtBy f l :=
  srt_eq ((srt_perm xs).trans h) (srt_asc xs) nd
theorem srt_id {l : List α} (a : Asc f l) (nd : (l.map f).Nodup) : srtBy f l = l := (srt_eq (List.Perm.refl l) a nd).symm
theorem srt_mem {l : List α} {x : α} : x ∈ srtBy f l ↔ x ∈ l := (srt_perm l).mem_iff
theorem srt_len {l : List α} : (srtBy f l).length = l.length := (srt_perm l).length_eq
theorem srt_nd {l : List α} (nd : (l.map f).Nodup) : ((srtBy f l).map f).Nodup := ((srt_perm l).map f).nodup_iff.mpr nd
theorem map_asc {g : β → α} {l : List β} (h : Asc (fun b => f (g b)) l) : Asc f (l.map g) := List.pairwise_map.mpr h
theorem srt_map {g : β → α} {l : List β} (nd : (l.map fun b => f (g b)).Nodup) : srtBy f (l.map g) = (srtBy (fun b => f (g b)) l).map g := by
  refine (srt_eq (((srt_perm l).map g)) (map_asc (srt_asc l)) ?_).symm
  rw [List.map_map]; exact nd
end
section
variable {α β : Type} {F G : α → β → Prop}
theorem paired_perm {xs ys : List α} (h : xs.Perm ys) : ∀ {l : List β}, Paired F xs l → ∃ m, m.Perm l ∧ Paired F ys m := by
  induction h with
  | nil => intro l p; cases p; exact ⟨[], .refl _, .nil⟩
  | cons x _ ih =>
    intro l p
    cases p with
    | cons a r =>
      obtain ⟨m, h1, h2⟩ := ih r
      exact ⟨_ :: m, h1.cons _, .cons a h2⟩
  | swap x y l' =>
    intro l p
    cases p with
    | cons a r => cases r with
      | cons b r => exact ⟨_, List.Perm.swap .., .cons b (.cons a r)⟩
  | trans _ _ ih1 ih2 =>
    intro l p
    obtain ⟨m, h1, h2⟩ := ih1 p
    obtain ⟨m', h3, h4⟩ := ih2 h2
    exact ⟨m', h3.trans h1, h4⟩
theorem paired_mem {xs : List α} {l : List β} (p : Paired F xs l) : ∀ x ∈ xs, ∃ b ∈ l, F x b := by
  induction p with
  | nil => intro x h; cases h
  | cons a r ih =>
    intro x h
    rcases List.mem_cons.mp h with rfl | h
    · exact ⟨_, List.mem_cons_self, a⟩
    · obtain ⟨b, hb, q⟩ := ih x h
      exact ⟨b, List.mem_cons_of_mem _ hb, q⟩
theorem paired_imp {xs : List α} {l : List β} (p : Paired F xs l) (h : ∀ x b, x ∈ xs → b ∈ l → F x b → G x b) : Paired G xs l := by
  induction p with
  | nil => exact .nil
  | cons a r ih => exact .cons (h _ _ List.mem_cons_self List.mem_cons_self a) (ih fun x b hx hb q => h x b (List.mem_cons_of_mem _ hx) (List.mem_cons_of_mem _ hb) q)
theorem paired_map {γ : Type} {f : α → γ} {g : β → γ} {xs : List α} {l : List β} (p : Paired (fun x b => f x = g b) xs l) : xs.map f = l.map g := by
  induction p with
  | nil => rfl
  | cons a r ih => rw [List.map_cons, List.map_cons, a, ih]
end
section
variable {α : Type} {U : Addr → Prop} {H : Hp} {g : α → PyData}
theorem RepL.paired : ∀ {vs : List V} {l : List α}, RepL U H vs (l.map g) → Paired (fun v a => Rep U H v (g a)) vs l
  | _, [], .nil => .nil
  | _, _ :: _, .cons a r => .cons a r.paired
theorem RepL.ofPaired : ∀ {vs : List V} {l : List α}, Paired (fun v a => Rep U H v (g a)) vs l → RepL U H vs (l.map g)
  | _, _, .nil => .nil
  | _, _, .cons a r => .cons a (RepL.ofPaired r)
end
def nameAt (H : Hp) : V → Str
  | .ref t => match H t with
    | some (.tup (.str n :: _)) => n
    | _ => Str.empty
  | _ => Str.empty
/-- sorted(xs), told of its data -/
theorem sorted_rows {α : Type} {U : Addr → Prop} {H : Hp} {K : PySem.W.Frag} {xs : List V} {l : List α} {n : α → Str} {r : α → List PyData} {a : Addr} {Q : VK}
    (ha : H a = some (.lst xs) ∨ H a = some (.tup xs)) (hr : RepL U H xs (l.map fun z => .tuple (.str (n z) :: r z))) (nd : (l.map n).Nodup)
    (q : ∀ p ys, ys.Perm xs → RepL U H ys ((srtBy n l).map fun z => .tuple (.str (n z) :: r z)) → H p = none → Q (.ref p) (upd H p (.lst ys))) : rSortedR K [.ref a] H Q := by
  have pr := hr.paired
  have key : Paired (fun v z => (∃ t rs, v = V.ref t ∧ H t = some (.tup (.str (n z) :: rs))) ∧ Rep U H v (.tuple (.str (n z) :: r z))) xs l := paired_imp pr fun v z _ _ h => by
    refine ⟨?_, h⟩
    obtain ⟨p, ys, rfl, _, hp, hr⟩ := h.tupI
    cases hr with
    | cons h1 h2 => rw [h1.strI] at hp; exact ⟨p, _, rfl, hp⟩
  have kname : ∀ {v z}, (∃ t rs, v = V.ref t ∧ H t = some (.tup (.str (n z) :: rs))) → nameAt H v = n z := fun {v z} ⟨t, rs, e, ht⟩ => by
    rw [e]; unfold nameAt; simp only [ht]
  have nde : (xs.map (nameAt H)) = l.map n := paired_map (paired_imp key fun v z _ _ h => kname h.1)
  have ndx : (xs.map (nameAt H)).Nodup := by rw [nde]; exact nd
  refine ⟨a, xs, nameAt H, rfl, ha, fun x hx => ?_, fun x hx y hy e => ?_, fun ys p hp hs hn => ?_⟩
  · obtain ⟨z, _, ⟨t, rs, e, ht⟩, _⟩ := paired_mem key x hx
    refine ⟨t, rs, e, ?_⟩
    rw [kname ⟨t, rs, e, ht⟩]; exact ht
  · obtain ⟨i, hi, ei⟩ := List.mem_iff_getElem.mp hx
    obtain ⟨j, hj, ej⟩ := List.mem_iff_getElem.mp hy
    have ij : i = j := by
      refine nodup_getS (l := xs.map (nameAt H)) ndx (by simpa using hi) (by simpa using hj) ?_
      rw [List.getElem_map, List.getElem_map, ei, ej]; exact e
    subst ij
    rw [← ei, ← ej]
  · obtain ⟨m, hm, pm⟩ := paired_perm hp.symm key
    have am : Asc n m := by
      have e1 : ys.map (nameAt H) = m.map n := paired_map (paired_imp pm fun v z _ _ h => kname h.1)
      have h1 : (ys.map (nameAt H)).Pairwise fun x y => ¬ ltS y x := List.pairwise_map.mpr hs
      rw [e1] at h1
      exact List.pairwise_map.mp h1
    have em := srt_eq hm am nd
    refine q p ys hp ?_ hn
    rw [← em]
    exact RepL.ofPaired (paired_imp pm fun v z _ _ h => h.2)
where
  nodup_getS {l : List Str} (h : l.Nodup) {i j : Nat} (hi : i < l.length) (hj : j < l.length) (e : l[i] = l[j]) : i = j := by
    have p := List.pairwise_iff_getElem.mp (List.nodup_iff_pairwise_ne.mp h)
    rcases Nat.lt_trichotomy i j with q | q | q
    · exact absurd e (p i j hi hj q)
    · exact q
    · exact absurd e.symm (p j i hj hi q)
section
variable {U U' : Addr → Prop} {H H' : Hp}
mutual
theorem Rep.to' (hh : ∀ p xs, U p → (H p = some (.lst xs) → U' p ∧ H' p = some (.lst xs)) ∧ (H p = some (.tup xs) → U' p ∧ H' p = some (.tup xs))) : ∀ {v : V} {d : D}, Rep U H v d → Rep U' H' v d
  | _, _, .non => .non
  | _, _, .bl b => .bl b
  | _, _, .int i => .int i
  | _, _, .str x => .str x
  | _, _, .lst u h r => .lst ((hh _ _ u).1 h).1 ((hh _ _ u).1 h).2 (RepL.to' hh r)
  | _, _, .tup u h r => .tup ((hh _ _ u).2 h).1 ((hh _ _ u).2 h).2 (RepL.to' hh r)
theorem RepL.to' (hh : ∀ p xs, U p → (H p = some (.lst xs) → U' p ∧ H' p = some (.lst xs)) ∧ (H p = some (.tup xs) → U' p ∧ H' p = some (.tup xs))) : ∀ {vs : List V} {ds : List D}, RepL U H vs ds → RepL U' H' vs ds
  | _, _, .nil => .nil
  | _, _, .cons a b => .cons (Rep.to' hh a) (RepL.to' hh b)
end
theorem RepQ.to' {K : PySem.W.Frag} {v : V} {d : PyData} (h : RepQ K U H v d) (hh : ∀ p xs, U p → (H p = some (.lst xs) → U' p ∧ H' p = some (.lst xs)) ∧ (H p = some (.tup xs) → U' p ∧ H' p = some (.tup xs))) : RepQ K U' H' v d := h.elim (fun h => .inl (h.to' hh)) .inr
end
theorem valV_fresh {kvs : List (Key × V)} {k : Key} (h : k ∉ kvs.map (·.1)) : valV kvs k = none := by
  induction kvs with
  | nil => rfl
  | cons p r ih =>
    rw [List.map_cons, List.mem_cons, not_or] at h
    rw [valV_neg (fun e => h.1 e.symm)]
    exact ih h.2
theorem merge_new : ∀ (more kvs : List (Key × V)), ((kvs ++ more).map (·.1)).Nodup → mergeK kvs more = kvs ++ more
  | [], kvs, _ => by simp [mergeK]
  | p :: r, kvs, h => by
    have e : mergeK kvs (p :: r) = mergeK (putK kvs p.1 p.2) r := rfl
    have hn : valV kvs p.1 = none := valV_fresh fun c => by
      rw [List.map_append, List.nodup_append] at h
      exact h.2.2 _ c _ (by simp) rfl
    rw [e, putK_new _ hn, merge_new r (kvs ++ [(p.1, p.2)]) (by simpa using h)]
    simp
theorem valV_at {α : Type} {n : α → Str} {g : α → V} : ∀ {l : List α}, (l.map n).Nodup → ∀ z ∈ l, valV (l.map fun r => ((Sum.inr (n r) : Key), g r)) (.inr (n z)) = some (g z)
  | [], _, _, h => by cases h
  | y :: l, nd, z, h => by
    rw [List.map_cons] at nd
    obtain ⟨n1, n2⟩ := List.nodup_cons.mp nd
    by_cases c : n y = n z
    · rcases List.mem_cons.mp h with rfl | hm
      · exact valV_pos rfl
      · exact absurd (c ▸ List.mem_map_of_mem hm) n1
    · rcases List.mem_cons.mp h with rfl | hm
      · exact absurd rfl c
      · rw [List.map_cons, valV_neg (fun e => c (Sum.inr.inj e))]
        exact valV_at n2 z hm
theorem valV_none {α : Type} {n : α → Str} {g : α → V} {l : List α} {z : Str} (h : z ∉ l.map n) : valV (l.map fun r => ((Sum.inr (n r) : Key), g r)) (.inr z) = none := valV_fresh fun c => by
  rw [List.map_map] at c
  obtain ⟨r, hr, e⟩ := List.mem_map.mp c
  exact h (by rw [← Sum.inr.inj e]; exact List.mem_map_of_mem hr)
open PySem PySem.Spec L2
theorem wipe_set {σ : L2.St} {i : Nat} {x : Option V} {vs : List Nat} (h : i ∈ vs) : wipe (σ.set i x) vs = wipe σ vs := by
  induction vs with
  | nil => cases h
  | cons v vs ih =>
    show (wipe (σ.set i x) vs).set v none = (wipe σ vs).set v none
    by_cases hi : i ∈ vs
    · rw [ih hi]
    · have e : i = v := by rcases List.mem_cons.mp h with h | h; exact h; exact absurd h hi
      subst e
      apply List.ext_getElem?
      intro j
      rw [List.getElem?_set, List.getElem?_set, wipe_length, wipe_length, List.length_set]
      by_cases c : i = j
      · simp [c]
      · simp only [c, if_false]
        by_cases hj : j ∈ vs
        · have two : ∀ σ : L2.St, ∀ us : List Nat, j ∈ us → (wipe σ us)[j]? = if j < σ.length then some none else none := by
            intro σ us hu
            induction us with
            | nil => cases hu
            | cons u us iu =>
              show ((wipe σ us).set u none)[j]? = _
              rw [List.getElem?_set, wipe_length]
              by_cases eu : u = j
              · simp [eu]
              · rw [if_neg eu]
                rcases List.mem_cons.mp hu with h | h
                · exact absurd h.symm eu
                · exact iu h
          rw [two _ _ hj, two _ _ hj, List.length_set]
        · rw [wipe_out hj, wipe_out hj, List.getElem?_set_ne c]
theorem wipe_wipe {σ : L2.St} {vs : List Nat} : wipe (wipe σ vs) vs = wipe σ vs := by
  have key : ∀ (us : List Nat), (∀ i ∈ us, i ∈ vs) → wipe (wipe σ us) vs = wipe σ vs := by
    intro us
    induction us with
    | nil => intro _; rfl
    | cons u us ih =>
      intro h
      show wipe ((wipe σ us).set u none) vs = _
      rw [wipe_set (h u List.mem_cons_self), ih fun i hi => h i (List.mem_cons_of_mem _ hi)]
  exact key vs fun _ h => h
/-- a text in a list or tuple of texts -/
theorem rd_inRep {K : PySem.W.Frag} {U : Addr → Prop} {H : Hp} {v : V} {d : PyData} {ns : List Str} {z : Str} {Q : VK} (h : Rep U H v d) (hs : isSeq d = true) (hk : kids d = ns.map PyData.str) (q : Q (.bl (decide (z ∈ ns))) H) : rIn K false (.str z) v H Q := by
  obtain ⟨p, xs, rfl, _, hp, r⟩ := h.seq hs
  rw [hk] at r
  obtain rfl := r.strsI
  refine ⟨p, ns.map V.str, rfl, ?_, rfl, flat_strs _, ?_⟩
  · rcases hp with hp | hp
    · exact .inl (sl_of hp)
    · exact .inr (st_of hp)
  · show Q (.bl (inV (.str z) (ns.map V.str))) H
    rw [inV_strs]; exact q
theorem rd_ninRep {K : PySem.W.Frag} {U : Addr → Prop} {H : Hp} {v : V} {d : PyData} {ns : List Str} {z : Str} {Q : VK} (h : Rep U H v d) (hs : isSeq d = true) (hk : kids d = ns.map PyData.str) (q : Q (.bl (!decide (z ∈ ns))) H) : rIn K true (.str z) v H Q := by
  obtain ⟨p, xs, rfl, _, hp, r⟩ := h.seq hs
  rw [hk] at r
  obtain rfl := r.strsI
  refine ⟨p, ns.map V.str, rfl, ?_, rfl, flat_strs _, ?_⟩
  · rcases hp with hp | hp
    · exact .inl (sl_of hp)
    · exact .inr (st_of hp)
  · show Q (.bl (!inV (.str z) (ns.map V.str))) H
    rw [inV_strs]; exact q
set_option maxHeartbeats 1000000
def Shp (n : Nat) (d : PyData) : Prop := d.canLay0 = true ∧ d.depth ≤ n
theorem Shp.none {n : Nat} : Shp n .none := ⟨rfl, Nat.zero_le _⟩
theorem Shp.int {n : Nat} {i : Int} : Shp n (.int i) := ⟨rfl, Nat.zero_le _⟩
theorem Shp.bool {n : Nat} {b : Bool} : Shp n (.bool b) := ⟨rfl, Nat.zero_le _⟩
theorem Shp.str {n m : Nat} {z : Str} (h : OkS m z) : Shp n (.str z) := ⟨by
  show z.cps.all (· < 0x110000) = true
  rw [← Array.all_toList, List.all_eq_true]
  exact fun c hc => decide_eq_true (Nat.lt_trans ((okS_iff.mp h).2 c hc) (by decide)), Nat.zero_le _⟩
theorem Shp.ni {n : Nat} {v : V} (h : SN v) : Shp n (vD v) := by
  rcases h with rfl | ⟨i, rfl⟩
  · exact .none
  · exact .int
theorem Shp.all {n : Nat} : ∀ {ds : List PyData}, (∀ e ∈ ds, Shp n e) → PyData.canLayAll0 ds = true ∧ PyData.depthAll ds ≤ n
  | [], _ => ⟨rfl, Nat.zero_le _⟩
  | d :: ds, h => by
    obtain ⟨a, b⟩ := h d List.mem_cons_self
    obtain ⟨a', b'⟩ := Shp.all fun e he => h e (List.mem_cons_of_mem _ he)
    exact ⟨by simp only [PyData.canLayAll0, a, a', Bool.and_self], by simp only [PyData.depthAll]; omega⟩
theorem Shp.list {n : Nat} {ds : List PyData} (h : ∀ e ∈ ds, Shp n e) : Shp (n + 1) (.list ds) := by
  obtain ⟨a, b⟩ := Shp.all h
  exact ⟨by simp only [PyData.canLay0, a], by simp only [PyData.depth]; omega⟩
theorem Shp.tuple {n : Nat} {ds : List PyData} (h : ∀ e ∈ ds, Shp n e) : Shp (n + 1) (.tuple ds) := by
  obtain ⟨a, b⟩ := Shp.all h
  exact ⟨by simp only [PyData.canLay0, a], by simp only [PyData.depth]; omega⟩
theorem Shp.shaped {n : Nat} {d : PyData} (h : Shp n d) (hn : n ≤ 64) : SeqAt.shaped d = true := by
  unfold SeqAt.shaped
  rw [h.1, decide_eq_true (Nat.le_trans h.2 hn)]; rfl
theorem Shp.mono {m n : Nat} {d : PyData} (h : Shp m d) (l : m ≤ n) : Shp n d := ⟨h.1, Nat.le_trans h.2 l⟩
mutual
def nb : PyData → Bool
  | .none => true
  | .int _ => true
  | .str _ => true
  | .list xs => nbAll xs
  | .tuple xs => nbAll xs
  | _ => false
def nbAll : List PyData → Bool
  | [] => true
  | x :: xs => nb x && nbAll xs
end
set_option maxHeartbeats 1000000
structure HasMkN (P : Program) (w : World) (K : PySem.W.Frag) (mg : Str → Option Value) (base : Heap) (CX : CXT) (C : Addr) (x : Str) (k : Nat) (ps ks : List Str) (gV : List V → List V → List V) (sp : Sp) : Prop where
  ex : ∃ f fd g, FnOk P w K mg base CX k f fd ps sp ∧ Mk K C f ∧ mg x = some (.ref C) ∧ KBn K fd ps 1 ks g gV
theorem HasMkN.mono {P : Program} {w : World} {K : PySem.W.Frag} {mg : Str → Option Value} {base : Heap} {CX : CXT} {C : Addr} {x : Str} {j k : Nat} {ps ks : List Str} {gV : List V → List V → List V} {sp : Sp} (h : HasMkN P w K mg base CX C x j ps ks gV sp) (l : j ≤ k) : HasMkN P w K mg base CX C x k ps ks gV sp := by
  obtain ⟨f, fd, g, F, r⟩ := h.ex
  exact ⟨f, fd, g, F.mono l, r⟩
/-- list(x) of a list or a tuple, the model named -/
def rListK (K : PySem.W.Frag) : List V → Hp → VK → Prop := fun xs H Q => ∃ p ys, xs = [V.ref p] ∧ (SqL K H p ys ∨ SqT K H p ys) ∧ ∀ l, H l = none → Q (V.ref l) (upd H l (.lst ys))
theorem call_list_ofR {X : Cx} {K : PySem.W.Frag} (e : X.K = K) : CallR X (.type "list") (rListK K) := by subst e; exact call_list_of
set_option maxHeartbeats 1000000
theorem sl_listR {X : Cx} {K : PySem.W.Frag} (e : X.K = K) : SlR X (rSlL K) := by subst e; exact sl_list
def rLenK (K : PySem.W.Frag) : List V → Hp → VK → Prop := fun xs H Q => ∃ p ys, xs = [V.ref p] ∧ (SqL K H p ys ∨ SqT K H p ys) ∧ Q (V.int ys.length) H
theorem call_lenR {X : Cx} {K : PySem.W.Frag} (e : X.K = K) : CallR X (.builtin "len") (rLenK K) := by subst e; exact call_len_seq
section
variable {X : Cx}
theorem ps_try_asV {body : List Stmt} {h₀ : ExceptHandler} {hds : List ExceptHandler} {pos : Pos} {tb : WX → TS} {l : List Hnd} {Wout : WX} (hs : X.stack = X.env :: X.outer) (hf : X.env.frame = some X.env.locals) (hN : X.N.Nodup) (tk : Takes X Wout)
    (hb : ∀ (W : WX) (pn : List (Addr × Obj)) (xe : Value → Shared → Prop), Takes (X.tr pn xe) W → PassesOwn (model X.prog X.w) X.A X.env xe → PSs (X.tr pn xe) body (tb W))
    (hh : HdsAs X (h₀ :: hds) l) : PS X (.Try body (h₀ :: hds) [] [] pos) (fun D σ H => ∀ W, W = wAsM X.K Wout D l → tb W D σ H) :=
  ⟨fun pins s σ H D I h => (ps_try_asM hs hf hN tk hb hh).run pins s σ H D I (h _ rfl)⟩
end
def topS (i : Nat) : Stmt := PySem.Challenge.pw_outshiners_k07_webs_refuse_in_order.main.body.getD i (.Pass ⟨0, 0, 0, 0⟩)
structure Blt (mg : Str → Option Value) : Prop where
  ValueError : mg "ValueError" = none
  all : mg "all" = none
  bool : mg "bool" = none
  dict : mg "dict" = none
  int : mg "int" = none
  isinstance : mg "isinstance" = none
  iter : mg "iter" = none
  len : mg "len" = none
  list' : mg "list" = none
  max : mg "max" = none
  min : mg "min" = none
  range : mg "range" = none
  set : mg "set" = none
  sorted : mg "sorted" = none
  str : mg "str" = none
  tuple : mg "tuple" = none
  g_LIMIT : ∃ t, mg "LIMIT" = some (.int 1000000000000 t)
  g_LETTERS : ∃ t, mg "LETTERS" = some (.str "abcdefghijklmnopqrstuvwxyz" t)
  g_LETTERS_AND_DIGITS : ∃ t, mg "LETTERS_AND_DIGITS" = some (.str "abcdefghijklmnopqrstuvwxyz0123456789" t)
  g_LONGEST_NAME : ∃ t, mg "LONGEST_NAME" = some (.int 8 t)
  g_MOST_LAMPS : ∃ t, mg "MOST_LAMPS" = some (.int 10 t)
  g_MOST_BONDS : ∃ t, mg "MOST_BONDS" = some (.int 16 t)
local macro_rules | `(tactic| walk_at "sideB") => `(tactic| first | assumption | exact Z.sl_of (by assumption) | exact upd_same | (show (0 : Int) < _; omega) | exact Or.inl ⟨by omega, by omega⟩ | exact Or.inr ⟨by omega, by omega⟩)
local macro_rules | `(tactic| walk_at "tyofB") => `(tactic| first | exact TyOf.int _ | exact TyOf.bl _ | exact TyOf.non | exact TyOf.str _ | (apply TyOf.lst; assumption) | (apply TyOf.tup; assumption))
local macro_rules | `(tactic| walk_at "rd1B") => `(tactic| ((with_reducible refine rd_ixL (xs := ?xs) (v := ?v) ?hh ?he ?_); (case hh => first | exact upd_same | assumption); (case he => exact rfl)))
local macro_rules | `(tactic| walk_at "rd1B") => `(tactic| ((with_reducible refine rd_I ?hc ?_); (case hc => walk_at "sideB")))
local macro_rules | `(tactic| walk_at "rd1B") => `(tactic| ((with_reducible refine rd_isiT (b := ?b) (by assumption) ?k ?_); (case k => with_reducible first | exact kb_tuple_int | exact kb_tuple_bool | exact kb_tuple_str | exact kb_tuple_dict | exact kb_tuple_list | exact kb_tuple_tuple)))
local macro_rules | `(tactic| walk_at "rd1B") => `(tactic| ((with_reducible refine rd_isiL (b := ?b) (by assumption) ?k ?_); (case k => with_reducible first | exact kb_list_int | exact kb_list_bool | exact kb_list_str | exact kb_list_dict | exact kb_list_list | exact kb_list_tuple)))
local macro_rules | `(tactic| walk_at "rd1B") => `(tactic| ((with_reducible refine rd_isi (a := ?a) (b := ?b) ?ty ?k ?_); (case ty => first | exact TyOf.int _ | exact TyOf.bl _ | exact TyOf.non | exact TyOf.str _); (case k => with_reducible first | exact kb_int_int | exact kb_int_bool | exact kb_int_str | exact kb_int_dict | exact kb_int_list | exact kb_int_tuple | exact kb_bool_int | exact kb_bool_bool | exact kb_bool_str | exact kb_bool_dict | exact kb_bool_list | exact kb_bool_tuple | exact kb_NoneType_int | exact kb_NoneType_bool | exact kb_NoneType_str | exact kb_NoneType_dict | exact kb_NoneType_list | exact kb_NoneType_tuple | exact kb_str_int | exact kb_str_bool | exact kb_str_str | exact kb_str_dict | exact kb_str_list | exact kb_str_tuple)))
local macro_rules | `(tactic| walk_at "rd1B") => `(tactic| ((with_reducible refine rd_setS (j := ?j) ?he ?_); (case he => exact rfl)))
local macro_rules | `(tactic| walk_at "rd1B") => `(tactic| ((with_reducible refine rd_var (v := ?v) ?hv ?_); (case hv => exact rfl)))
local macro_rules | `(tactic| walk_at "rd1B") => `(tactic| with_reducible refine rd_iStr ?_)
local macro_rules | `(tactic| walk_at "rd1B") => `(tactic| with_reducible refine rd_si ?_)
local macro_rules | `(tactic| walk_at "rd1B") => `(tactic| with_reducible refine rd_ii ?_)
local macro_rules | `(tactic| walk_at "rd1B") => `(tactic| with_reducible refine rd_callSD ?_)
local macro_rules | `(tactic| walk_at "rd1B") => `(tactic| with_reducible refine rd_callNS ?_)
local macro_rules | `(tactic| walk_at "rd1B") => `(tactic| with_reducible refine rd_yes ?_)
local macro_rules | `(tactic| walk_at "rd1B") => `(tactic| with_reducible refine rd_dnotin ?_)
local macro_rules | `(tactic| walk_at "rd1B") => `(tactic| with_reducible refine rd_dput ?_)
local macro_rules | `(tactic| walk_at "rd1B") => `(tactic| with_reducible refine rd_dnewK ?_)
local macro_rules | `(tactic| walk_at "rd1B") => `(tactic| with_reducible refine rd_lrv ?_)
local macro_rules | `(tactic| walk_at "rd1B") => `(tactic| with_reducible refine rd_make ?_)
local macro_rules | `(tactic| walk_at "rd1B") => `(tactic| with_reducible refine rd_sfld ?_)
local macro_rules | `(tactic| walk_at "rd1B") => `(tactic| with_reducible refine rd_fld ?_)
local macro_rules | `(tactic| walk_at "rd1B") => `(tactic| with_reducible refine rd_i1 ?_)
local macro_rules | `(tactic| walk_at "rd1B") => `(tactic| with_reducible refine rd_s1 ?_)
local macro_rules | `(tactic| walk_at "rd1B") => `(tactic| with_reducible refine rd_ss ?_)
local macro_rules | `(tactic| walk_at "rd1B") => `(tactic| with_reducible refine rd_p40 ?_)
local macro_rules | `(tactic| walk_at "rd1B") => `(tactic| with_reducible refine rd_p30 ?_)
local macro_rules | `(tactic| walk_at "rd1B") => `(tactic| with_reducible refine rd_p18 ?_)
local macro_rules | `(tactic| walk_at "rd1B") => `(tactic| with_reducible refine rd_p13 ?_)
local macro_rules | `(tactic| walk_at "rd1B") => `(tactic| with_reducible refine rd_p12 ?_)
local macro_rules | `(tactic| walk_at "rd1B") => `(tactic| with_reducible refine rd_p11 ?_)
local macro_rules | `(tactic| walk_at "rd1B") => `(tactic| with_reducible refine rd_p9 ?_)
local macro_rules | `(tactic| walk_at "rd1B") => `(tactic| with_reducible refine rd_xf ?_)
local macro_rules | `(tactic| walk_at "rd1B") => `(tactic| with_reducible refine rd_ckw ?_)
local macro_rules | `(tactic| walk_at "rd1B") => `(tactic| with_reducible refine rd_mkO ?_)
local macro_rules | `(tactic| walk_at "rd1B") => `(tactic| with_reducible refine rd_callKS ?_)
local macro_rules | `(tactic| walk_at "rd1B") => `(tactic| with_reducible refine rd_callS ?_)
local macro_rules | `(tactic| walk_at "rd1B") => `(tactic| with_reducible refine rd_lc ?_)
local macro_rules | `(tactic| walk_at "rd1B") => `(tactic| with_reducible refine rd_iTup ?_)
local macro_rules | `(tactic| walk_at "rd1B") => `(tactic| with_reducible refine rd_iList ?_)
local macro_rules | `(tactic| walk_at "rd1B") => `(tactic| with_reducible refine rd_iRng1 ?_)
local macro_rules | `(tactic| walk_at "rd1B") => `(tactic| with_reducible refine rd_for ?_)
local macro_rules | `(tactic| walk_at "rd1B") => `(tactic| with_reducible refine rd_nopart ?_)
local macro_rules | `(tactic| walk_at "rd1B") => `(tactic| with_reducible refine rd_part ?_)
local macro_rules | `(tactic| walk_at "rd1B") => `(tactic| with_reducible refine rd_neB ?_)
local macro_rules | `(tactic| walk_at "rd1B") => `(tactic| with_reducible refine rd_eqS ?_)
local macro_rules | `(tactic| walk_at "rd1B") => `(tactic| with_reducible refine rd_eqB ?_)
local macro_rules | `(tactic| walk_at "rd1B") => `(tactic| with_reducible refine if_nN_ref ?_)
local macro_rules | `(tactic| walk_at "rd1B") => `(tactic| with_reducible refine if_nN_str ?_)
local macro_rules | `(tactic| walk_at "rd1B") => `(tactic| with_reducible refine if_nN_bl ?_)
local macro_rules | `(tactic| walk_at "rd1B") => `(tactic| with_reducible refine if_nN_int ?_)
local macro_rules | `(tactic| walk_at "rd1B") => `(tactic| with_reducible refine if_n_ref ?_)
local macro_rules | `(tactic| walk_at "rd1B") => `(tactic| with_reducible refine if_n_str ?_)
local macro_rules | `(tactic| walk_at "rd1B") => `(tactic| with_reducible refine if_n_bl ?_)
local macro_rules | `(tactic| walk_at "rd1B") => `(tactic| with_reducible refine if_n_int ?_)
local macro_rules | `(tactic| walk_at "rd1B") => `(tactic| with_reducible refine if_nnN ?_)
local macro_rules | `(tactic| walk_at "rd1B") => `(tactic| with_reducible refine if_nt ?_)
local macro_rules | `(tactic| walk_at "rd1B") => `(tactic| with_reducible refine if_nf ?_)
local macro_rules | `(tactic| walk_at "rd1B") => `(tactic| with_reducible refine if_nn ?_)
local macro_rules | `(tactic| walk_at "rd1B") => `(tactic| with_reducible refine iteF ?_)
local macro_rules | `(tactic| walk_at "rd1B") => `(tactic| with_reducible refine iteT ?_)
local macro_rules | `(tactic| walk_at "rd1B") => `(tactic| with_reducible refine rd_asgS ?_)
local macro_rules | `(tactic| walk_at "rd1B") => `(tactic| with_reducible refine rd_chain ?_)
local macro_rules | `(tactic| walk_at "rd1B") => `(tactic| with_reducible refine rd_bm ?_)
local macro_rules | `(tactic| walk_at "rd1B") => `(tactic| with_reducible refine rd_sl ?_)
local macro_rules | `(tactic| walk_at "rd1B") => `(tactic| with_reducible refine rd_tup ?_)
local macro_rules | `(tactic| walk_at "rd1B") => `(tactic| with_reducible refine rd_lst ?_)
local macro_rules | `(tactic| walk_at "rd1B") => `(tactic| with_reducible refine rd_neI ?_)
local macro_rules | `(tactic| walk_at "rd1B") => `(tactic| with_reducible refine rd_if ?_)
local macro_rules | `(tactic| walk_at "rd1B") => `(tactic| with_reducible refine rd_notV ?_)
local macro_rules | `(tactic| walk_at "rd1B") => `(tactic| with_reducible refine rd_orV ?_)
local macro_rules | `(tactic| walk_at "rd1B") => `(tactic| with_reducible refine rd_andV ?_)
local macro_rules | `(tactic| walk_at "rd1B") => `(tactic| with_reducible refine rd_drop ?_)
local macro_rules | `(tactic| walk_at "rd1B") => `(tactic| with_reducible refine rd_next ?_)
local macro_rules | `(tactic| walk_at "rd1B") => `(tactic| with_reducible refine rd_U ?_)
local macro_rules | `(tactic| walk_at "rd1B") => `(tactic| with_reducible refine rd_un ?_)
local macro_rules | `(tactic| walk_at "rd1B") => `(tactic| with_reducible refine rd_or ?_)
local macro_rules | `(tactic| walk_at "rd1B") => `(tactic| with_reducible refine rd_and ?_)
local macro_rules | `(tactic| walk_at "rd1B") => `(tactic| with_reducible refine rd_not ?_)
local macro_rules | `(tactic| walk_at "rd1B") => `(tactic| with_reducible refine rd_tB ?_)
local macro_rules | `(tactic| walk_at "rd1B") => `(tactic| with_reducible refine rd_test ?_)
local macro_rules | `(tactic| walk_at "rd1B") => `(tactic| with_reducible refine rd_ifS ?_)
local macro_rules | `(tactic| walk_at "rd1B") => `(tactic| with_reducible refine rd_ret ?_)
local macro_rules | `(tactic| walk_at "rd1B") => `(tactic| with_reducible refine rd_min2 ?_)
local macro_rules | `(tactic| walk_at "rd1B") => `(tactic| with_reducible refine rd_max2 ?_)
local macro_rules | `(tactic| walk_at "rd1B") => `(tactic| with_reducible refine rd_int1 ?_)
local macro_rules | `(tactic| walk_at "rd1B") => `(tactic| with_reducible refine rd_nn ?_)
local macro_rules | `(tactic| walk_at "rd1B") => `(tactic| with_reducible refine rd_bx ?_)
local macro_rules | `(tactic| walk_at "rd1B") => `(tactic| with_reducible refine rd_eqI ?_)
local macro_rules | `(tactic| walk_at "rd1B") => `(tactic| with_reducible refine rd_I0 ?_)
local macro_rules | `(tactic| walk_at "rd1B") => `(tactic| with_reducible refine rd_call ?_)
local macro_rules | `(tactic| walk_at "rd1B") => `(tactic| with_reducible refine rd_cb ?_)
local macro_rules | `(tactic| walk_at "rd1B") => `(tactic| with_reducible refine rd_nil ?_)
local macro_rules | `(tactic| walk_at "rd1B") => `(tactic| with_reducible refine rd_cons ?_)
local macro_rules | `(tactic| walk_at "rd1B") => `(tactic| with_reducible refine rd_op ?_)
local macro_rules | `(tactic| walk_at "rd1B") => `(tactic| with_reducible refine rd_c ?_)
local macro_rules | `(tactic| walk_at "rd1B") => `(tactic| with_reducible refine rd_asg ?_)
local macro_rules | `(tactic| walk_at "rd1B") => `(tactic| with_reducible refine rd_seq ?_)
local macro_rules | `(tactic| walk_at "rdB") => `(tactic| repeat walk_at "rd1B")
abbrev s_law_store : Stmt := topS 42
theorem sc_law_store : FnScope ["script"] ["script"] (defScope s_law_store) := ⟨rfl, rfl, rfl, by decide +kernel, rfl, by decide +kernel, by decide +kernel⟩
section
variable {P : Program} {w : World} {K : PySem.W.Frag} {mg : Str → Option Value} {base : Heap}
def spStore (K : PySem.W.Frag) : Sp := fun vs H Q _ => ∃ a, ∃ ns : List Int, vs = [.ref a] ∧ SqL K H a (ns.map V.int) ∧ ∀ (S : Sto) H', StoreOk S H' → Same H H' → Q (.ref S.1) H'
theorem ok_store {k : Nat} {f : Addr} {fd : FuncData} (F : Fun K "_law_store" "_law_store" s_law_store f fd) (T : Blt mg) : FnOk P w K mg base CX0 (k + 1) f fd ["script"] (spStore K) := by
  refine F.ok sc_law_store (fun vs H Q E h => ?_) (fun cdv A outer s H vs Q E hr h => ?_)
  · obtain ⟨a, ns, rfl, _⟩ := h; rfl
  · obtain ⟨a, ns, rfl, hL, q⟩ := h
    refine ⟨_, (pss_one (ps_ret (pe_lst (pa_cons (pe_callTy call_list_of (by rfl) T.list' (by decide +kernel) (pa_cons (pv 0) pa_nil)) (pa_cons pe_int (pa_cons pe_int (pa_cons pe_int (pa_cons pe_int (pa_cons pe_int (pa_cons pe_int pa_nil)))))))))), ?_⟩
    walk_at "rdB"
    refine ⟨a, _, rfl, .inl hL, fun q0 nq0 => ?_⟩
    walk_at "rdB"
    refine ⟨sz (by simp), fun S nS => ?_⟩
    have n2 : q0 ≠ S := fun e => by rw [← e, upd_same] at nS; cases nS
    refine q (S, q0) _ ⟨ns, 0, 0, 0, 0, 1, 1, n2, upd_same, by rw [upd_ne n2, upd_same], by omega, by omega, by omega, by omega, by omega⟩ ((same_new nq0).trans (same_new nS))
end
abbrev s_law_stir : Stmt := topS 43
theorem sc_law_stir : FnScope ["store", "cell", "one", "two"] ["store", "cell"] (defScope s_law_stir) := ⟨rfl, rfl, rfl, by decide +kernel, rfl, by decide +kernel, by decide +kernel⟩
section
variable {P : Program} {w : World} {K : PySem.W.Frag} {mg : Str → Option Value} {base : Heap}
def spStir : Sp := fun vs H Q _ => ∃ S n q a b c d e f, vs = [.ref S, .int n] ∧ H S = some (.lst [.ref q, .int a, .int b, .int c, .int d, .int e, .int f]) ∧ 0 ≤ e ∧ e < 2147483647 ∧ 0 ≤ f ∧ f < 2147483647 ∧ 
  ∀ d' e' f', 0 ≤ e' → e' < 2147483647 → 0 ≤ f' → f' < 2147483647 → Q .non (upd H S (.lst [.ref q, .int a, .int b, .int c, .int d', .int e', .int f']))
theorem ok_stir {k : Nat} {f : Addr} {fd : FuncData} (F : Fun K "_law_stir" "_law_stir" s_law_stir f fd) (T : Blt mg) : FnOk P w K mg base CX0 (k + 1) f fd ["store", "cell"] spStir := by
  refine F.ok sc_law_stir (fun vs H Q E h => ?_) (fun cdv A outer s H vs Q E hr h => ?_)
  · obtain ⟨S, n, q, a, b, c, d, e, f, rfl, _⟩ := h; rfl
  · obtain ⟨S, n, q, a, b, c, d, e, f', rfl, hs, h1, h2, h3, h4, h⟩ := h
    refine ⟨_, (pss_cons (ps_asg (pe_op op_add (pe_callTy call_int1 (by rfl) T.int (by decide +kernel) (pa_cons (pe_ix ix_list (pv 0) pe_int (fun _ _ => rfl)) pa_nil)) pe_int) (pg_sub (pv 0) pe_int set_list))
 (pss_cons (ps_set (i := 2) sc_law_stir.nd rfl (.inl rfl) (pe_op op_add (pe_op op_add (pe_op op_mul (pe_callTy call_int1 (by rfl) T.int (by decide +kernel) (pa_cons (pe_ix ix_list (pv 0) pe_int (fun _ _ => rfl)) pa_nil)) pe_int) (pe_op op_mod (pe_callTy call_int1 (by rfl) T.int (by decide +kernel) (pa_cons (pv 1) pa_nil)) pe_int)) (pe_callTy call_int1 (by rfl) T.int (by decide +kernel) (pa_cons (pe_ix ix_list (pv 0) pe_int (fun _ _ => rfl)) pa_nil))))
 (pss_cons (ps_asg (pe_op op_mod (pe_callTy call_int1 (by rfl) T.int (by decide +kernel) (pa_cons (pv 2) pa_nil)) pe_int) (pg_sub (pv 0) pe_int set_list))
 (pss_cons (ps_set (i := 3) sc_law_stir.nd rfl (.inl rfl) (pe_op op_add (pe_op op_add (pe_op op_add (pe_op op_mul (pe_callTy call_int1 (by rfl) T.int (by decide +kernel) (pa_cons (pe_ix ix_list (pv 0) pe_int (fun _ _ => rfl)) pa_nil)) pe_int) (pe_op op_mul (pe_callTy call_int1 (by rfl) T.int (by decide +kernel) (pa_cons (pe_ix ix_list (pv 0) pe_int (fun _ _ => rfl)) pa_nil)) pe_int)) (pe_op op_mod (pe_callTy call_int1 (by rfl) T.int (by decide +kernel) (pa_cons (pv 1) pa_nil)) pe_int)) (pe_callTy call_int1 (by rfl) T.int (by decide +kernel) (pa_cons (pe_ix ix_list (pv 0) pe_int (fun _ _ => rfl)) pa_nil))))
 (pss_one (ps_asg (pe_op op_mod (pe_callTy call_int1 (by rfl) T.int (by decide +kernel) (pa_cons (pv 3) pa_nil)) pe_int) (pg_sub (pv 0) pe_int set_list))))))), ?_⟩
    rw [← upd_id hs]
    walk_at "rdB"
    refine h _ _ _ ?_ ?_ ?_ ?_ <;> omega
end
abbrev s_law_take : Stmt := topS 44
theorem sc_law_take : FnScope ["store", "many", "cells", "cell", "rest"] ["store", "many"] (defScope s_law_take) := ⟨rfl, rfl, rfl, by decide +kernel, rfl, by decide +kernel, by decide +kernel⟩
section
variable {P : Program} {w : World} {K : PySem.W.Frag} {mg : Str → Option Value} {base : Heap}
def spTake : Sp := fun vs H Q _ => ∃ (S : Sto), ∃ m, vs = [.ref S.1, .int m] ∧ m < 2 ^ 200 ∧ StoreOk S H ∧ ∀ r H', 0 ≤ r → r < max 1 m → StoreOk S H' → ExS S H H' → Q (.int r) H'
theorem ok_take {k : Nat} {f : Addr} {fd : FuncData} (F : Fun K "_law_take" "_law_take" s_law_take f fd) (T : Blt mg) (H_law_stir : Has P w K mg base "_law_stir" k ["store", "cell"] spStir) : FnOk P w K mg base CX0 (k + 1) f fd ["store", "many"] spTake := by
  refine F.ok sc_law_take (fun vs H Q E h => ?_) (fun cdv A outer s H vs Q E hr h => ?_)
  · obtain ⟨S, m, rfl, _⟩ := h; rfl
  · obtain ⟨S, m, rfl, hm, hS, h⟩ := h
    refine ⟨_, (pss_cons (ps_set (i := 1) sc_law_take.nd rfl (.inl rfl) (pe_callB (call_max2 rfl) (by rfl) T.max (by decide +kernel) (pa_cons pe_int (pa_cons (pe_callTy call_int1 (by rfl) T.int (by decide +kernel) (pa_cons (pv 1) pa_nil)) pa_nil))))
 (pss_cons (ps_set (i := 2) sc_law_take.nd rfl (.inl rfl) (pe_ix ix_list (pv 0) pe_int (fun _ _ => rfl)))
 (C8.pss_cut (ps_if (PW.pt (pw_and (pt_cmpR op_eq (pe_callTy call_int1 (by rfl) T.int (by decide +kernel) (pa_cons (pe_ix ix_list (pv 0) pe_int (fun _ _ => rfl)) pa_nil)) pe_int (nomark _)) (pw_and (pt_cmpR op_eq (pe_callTy call_int1 (by rfl) T.int (by decide +kernel) (pa_cons (pe_ix ix_list (pv 0) pe_int (fun _ _ => rfl)) pa_nil)) pe_int (nomark _)) (pw_and1 (pt_cmpR op_lt (pe_callTy call_int1 (by rfl) T.int (by decide +kernel) (pa_cons (pe_ix ix_list (pv 0) pe_int (fun _ _ => rfl)) pa_nil)) (pe_callB call_len_seq (by rfl) T.len (by decide +kernel) (pa_cons (pv 2) pa_nil)) (nomark _)))))) (pss_cons (ps_set (i := 3) sc_law_take.nd rfl (.inl rfl) (pe_callTy call_int1 (by rfl) T.int (by decide +kernel) (pa_cons (pe_ix ix_list (pv 2) (pe_callTy call_int1 (by rfl) T.int (by decide +kernel) (pa_cons (pe_ix ix_list (pv 0) pe_int (fun _ _ => rfl)) pa_nil)) (fun _ _ => rfl)) pa_nil)))
 (pss_cons (ps_asg (pe_op op_add (pe_callTy call_int1 (by rfl) T.int (by decide +kernel) (pa_cons (pe_ix ix_list (pv 0) pe_int (fun _ _ => rfl)) pa_nil)) pe_int) (pg_sub (pv 0) pe_int set_list))
 (pss_cons (ps_asg pe_int (pg_sub (pv 0) pe_int set_list))
 (pss_cons (ps_expr (pe_callH H_law_stir hr (by rfl) (pa_cons (pv 0) (pa_cons (pv 3) pa_nil))))
 (pss_one (ps_if (pt_cmpR op_ge (pv 3) (pe_op op_pow pe_int pe_int) (nomark _)) (pss_cons (ps_asg (pv 3) (pg_sub (pv 0) pe_int set_list))
 (pss_one (ps_asg pe_int (pg_sub (pv 0) pe_int set_list)))) pss_nil)))))) pss_nil)
 (pss_cons (ps_set (i := 4) sc_law_take.nd rfl (.inl rfl) (pe_callTy call_int1 (by rfl) T.int (by decide +kernel) (pa_cons (pe_ix ix_list (pv 0) pe_int (fun _ _ => rfl)) pa_nil)))
 (pss_cons (ps_if (pt_cmpR op_gt (pv 4) pe_int (nomark _)) (pss_cons (ps_asg (pe_op op_fdivW (pv 4) (pv 1)) (pg_sub (pv 0) pe_int set_list))
 (pss_one (ps_ret (pe_op op_mod (pe_callTy call_int1 (by rfl) T.int (by decide +kernel) (pa_cons (pv 4) pa_nil)) (pv 1))))) pss_nil)
 (pss_cons (ps_expr (pe_callH H_law_stir hr (by rfl) (pa_cons (pv 0) (pa_cons pe_int pa_nil))))
 (pss_cons (ps_asg (pe_callB (call_max2 rfl) (by rfl) T.max (by decide +kernel) (pa_cons pe_int (pa_cons (pe_op op_sub (pe_callTy call_int1 (by rfl) T.int (by decide +kernel) (pa_cons (pe_ix ix_list (pv 0) pe_int (fun _ _ => rfl)) pa_nil)) pe_int) pa_nil))) (pg_sub (pv 0) pe_int set_list))
 (pss_one (ps_ret (pe_op op_mod (pe_callTy call_int1 (by rfl) T.int (by decide +kernel) (pa_cons (pe_op op_add (pe_op op_mul (pe_callTy call_int1 (by rfl) T.int (by decide +kernel) (pa_cons (pe_ix ix_list (pv 0) pe_int (fun _ _ => rfl)) pa_nil)) pe_int) (pe_callTy call_int1 (by rfl) T.int (by decide +kernel) (pa_cons (pe_ix ix_list (pv 0) pe_int (fun _ _ => rfl)) pa_nil))) pa_nil)) (pv 1))))))))))), ?_⟩
    obtain ⟨S, q⟩ := S
    obtain ⟨cells, a, b, c, d, e, f', nq, hs, hq, h0, h1, h2, h3, h4⟩ := hS
    dsimp only at nq hs hq ⊢
    rw [← upd_id hs]
    walk_at "rdB"
    obtain ⟨M, hM⟩ : ∃ M, M = (if m > 1 then m else 1) := ⟨_, rfl⟩
    rw [← hM]
    have hM1 : 1 ≤ M := by rw [hM]; split <;> omega
    have hM2 : M = max 1 m := by rw [hM]; split <;> omega
    have hM3 : M < 2 ^ 200 := by rw [hM]; split <;> omega
    clear hM
    refine rd_cut (fun σ' H' => ∃ a b c d e f y, σ' = [some (.ref S), some (.int M), some (.ref q), y, none] ∧ H' = upd H S (.lst [.ref q, .int a, .int b, .int c, .int d, .int e, .int f]) ∧ 0 ≤ a ∧ 0 ≤ e ∧ e < 2147483647 ∧ 0 ≤ f ∧ f < 2147483647) ?_ ?_
    · walk_at "rdB"
      refine if_dec (fun hb => ?_) (fun hb => ?_)
      · walk_at "rdB"
        refine if_dec (fun hc => ?_) (fun hc => ?_)
        · walk_at "rdB"
          refine rd_seqL (by rw [upd_ne nq]; exact hq) ?_
          walk_at "rdB"
          refine if_dec (fun hl => ?_) (fun hl => ?_)
          · obtain ⟨n, _, _, en⟩ := atI_ints h0 (by simpa using hl)
            walk_at "rdB"
            refine rd_ixL (by rw [upd_ne nq]; exact hq) en ?_
            walk_at "rdB"
            refine ⟨S, n, q, a + 1, b, 3, d, e, f', rfl, upd_same, h1, h2, h3, h4, fun d' e' f'' g1 g2 g3 g4 => ?_⟩
            rw [upd_upd]
            walk_at "rdB"
            refine if_dec (fun hn => ?_) (fun hn => ?_)
            · walk_at "rdB"
              exact ⟨_, _, _, _, _, _, _, rfl, rfl, by omega, g1, g2, g3, g4⟩
            · walk_at "rdB"
              exact ⟨_, _, _, _, _, _, _, rfl, rfl, by omega, g1, g2, g3, g4⟩
          · walk_at "rdB"
            exact ⟨_, _, _, _, _, _, _, rfl, rfl, h0, h1, h2, h3, h4⟩
        · walk_at "rdB"
          exact ⟨_, _, _, _, _, _, _, rfl, rfl, h0, h1, h2, h3, h4⟩
      · walk_at "rdB"
        exact ⟨_, _, _, _, _, _, _, rfl, rfl, h0, h1, h2, h3, h4⟩
    · rintro σ' H' ⟨a, b, c, d, e, f, y, rfl, rfl, h0, h1, h2, h3, h4⟩
      have fin : ∀ (r a b c d e f : Int), 0 ≤ r → r < M → 0 ≤ a → 0 ≤ e → e < 2147483647 → 0 ≤ f → f < 2147483647 → Q (.int r) (upd H S (.lst [.ref q, .int a, .int b, .int c, .int d, .int e, .int f])) := fun r a b c d e f r0 r1 h0 h1 h2 h3 h4 =>
        h r _ r0 (by omega) ⟨cells, a, b, c, d, e, f, nq, upd_same, by rw [upd_ne nq]; exact hq, h0, h1, h2, h3, h4⟩ (ExS.updS (S := (S, q)))
      walk_at "rdB"
      refine if_dec (fun hb => ?_) (fun hb => ?_)
      · walk_at "rdB"
        refine rd_I (wide_div (b := 200) (by omega) (by omega) (by omega) (by omega)) ?_
        walk_at "rdB"
        exact fin _ _ _ _ _ _ _ (Int.emod_nonneg _ (by omega)) (Int.emod_lt_of_pos _ (by omega)) h0 h1 h2 h3 h4
      · walk_at "rdB"
        refine ⟨S, 0, q, a, b, c, d, e, f, rfl, upd_same, h1, h2, h3, h4, fun d' e' f'' g1 g2 g3 g4 => ?_⟩
        rw [upd_upd]
        walk_at "rdB"
        exact fin _ _ _ _ _ _ _ (Int.emod_nonneg _ (by omega)) (Int.emod_lt_of_pos _ (by omega)) h0 g1 g2 g3 g4
end
abbrev s_law_pick : Stmt := topS 45
theorem sc_law_pick : FnScope ["store", "items"] ["store", "items"] (defScope s_law_pick) := ⟨rfl, rfl, rfl, by decide +kernel, rfl, by decide +kernel, by decide +kernel⟩
section
variable {P : Program} {w : World} {K : PySem.W.Frag} {mg : Str → Option Value} {base : Heap}
def spPick : Sp := fun vs H Q _ => ∃ (S : Sto), ∃ x, vs = [.ref S.1, x] ∧ StoreOk S H ∧
  ((∃ a xs, x = .ref a ∧ At S H a (.lst xs) ∧ 0 < xs.length ∧ xs.length < 1000000 ∧ ∀ v H', v ∈ xs → StoreOk S H' → ExS S H H' → Q v H') ∨
   (∃ z : Str, x = .str z ∧ 0 < z.length ∧ z.length < 100000 ∧ ∀ c H', c ∈ z.cps.toList → StoreOk S H' → ExS S H H' → Q (.str ⟨#[c]⟩) H'))
theorem ok_pick {k : Nat} {f : Addr} {fd : FuncData} (F : Fun K "_law_pick" "_law_pick" s_law_pick f fd) (T : Blt mg) (H_law_take : Has P w K mg base "_law_take" k ["store", "many"] spTake) : FnOk P w K mg base CX0 (k + 1) f fd ["store", "items"] spPick := by
  refine F.ok sc_law_pick (fun vs H Q E h => ?_) (fun cdv A outer s H vs Q E hr h => ?_)
  · obtain ⟨S, x, rfl, _⟩ := h; rfl
  · obtain ⟨S, x, rfl, hS, h⟩ := h
    refine ⟨_, (pss_one (ps_ret (pe_ix ix_seq (pv 1) (pe_callH H_law_take hr (by rfl) (pa_cons (pv 0) (pa_cons (pe_callB (call_len_seq.or call_len_str) (by rfl) T.len (by decide +kernel) (pa_cons (pv 1) pa_nil)) pa_nil))) (fun _ _ => rfl)))), ?_⟩
    rcases h with ⟨a, xs, rfl, hA, l0, l1, h⟩ | ⟨z, rfl, l0, l1, h⟩
    · walk_at "rdB"
      refine .inl (rd_seqL hA.2 ?_)
      walk_at "rdB"
      refine ⟨S, _, rfl, by omega, hS, fun r H' r0 r1 hS' he => ?_⟩
      obtain ⟨hb, e⟩ := atI_get (xs := xs) (i := r) r0 (by omega)
      exact .inl (rd_ixL (he _ _ hA.1 hA.2) e (h _ _ (List.getElem_mem hb) hS' he))
    · walk_at "rdB"
      refine .inr ⟨z, rfl, sz (by omega), ?_⟩
      walk_at "rdB"
      refine ⟨S, _, rfl, by omega, hS, fun r H' r0 r1 hS' he => ?_⟩
      obtain ⟨c, hc, _, e⟩ := atI_nats (l := z.cps.toList) (i := r) r0 (by rw [len_l]; omega)
      exact .inr (.inr (rd_ixS (by omega) e (h _ _ hc hS' he)))
end
abbrev s_law_shuffled : Stmt := topS 46
theorem sc_law_shuffled : FnScope ["store", "items", "mixed", "k", "j", "held"] ["store", "items"] (defScope s_law_shuffled) := ⟨rfl, rfl, rfl, by decide +kernel, rfl, by decide +kernel, by decide +kernel⟩
section
variable {P : Program} {w : World} {K : PySem.W.Frag} {mg : Str → Option Value} {base : Heap}
def spShuffled : Sp := fun vs H Q _ => ∃ (S : Sto), ∃ a xs, vs = [.ref S.1, .ref a] ∧ StoreOk S H ∧ At S H a (.lst xs) ∧ xs.length < 1000000 ∧ ∀ p ys H', ys.Perm xs → H p = none → At S H' p (.lst ys) → StoreOk S H' → ExS S H H' → Q (.ref p) H'
theorem ok_shuffled {k : Nat} {f : Addr} {fd : FuncData} (F : Fun K "_law_shuffled" "_law_shuffled" s_law_shuffled f fd) (T : Blt mg) (H_law_take : Has P w K mg base "_law_take" k ["store", "many"] spTake) : FnOk P w K mg base CX0 (k + 1) f fd ["store", "items"] spShuffled := by
  refine F.ok sc_law_shuffled (fun vs H Q E h => ?_) (fun cdv A outer s H vs Q E hr h => ?_)
  · obtain ⟨S, a, xs, rfl, _⟩ := h; rfl
  · obtain ⟨S, a, xs, rfl, hS, hA, l1, h⟩ := h
    refine ⟨_, (pss_cons (ps_set (i := 2) sc_law_shuffled.nd rfl (.inl rfl) (pe_callTy call_list_of (by rfl) T.list' (by decide +kernel) (pa_cons (pv 1) pa_nil)))
 (pss_cons (ps_for PassesOwn.never rfl (pi_range1 rfl T.range (pa_cons (pe_callB call_len_seq (by rfl) T.len (by decide +kernel) (pa_cons (pv 2) pa_nil)) pa_nil)) (pg_name (i := 3) sc_law_shuffled.nd rfl (.inl rfl)) (pss_cons (ps_set (i := 4) sc_law_shuffled.nd rfl (.inl rfl) (pe_op op_add (pv 3) (pe_callH H_law_take hr (by rfl) (pa_cons (pv 0) (pa_cons (pe_op op_sub (pe_callB call_len_seq (by rfl) T.len (by decide +kernel) (pa_cons (pv 2) pa_nil)) (pv 3)) pa_nil)))))
 (pss_cons (ps_set (i := 5) sc_law_shuffled.nd rfl (.inl rfl) (pe_ix ix_list (pv 2) (pv 3) (fun _ _ => rfl)))
 (pss_cons (ps_asg (pe_ix ix_list (pv 2) (pv 4) (fun _ _ => rfl)) (pg_sub (pv 2) (pv 3) set_list))
 (pss_one (ps_asg (pv 5) (pg_sub (pv 2) (pv 4) set_list)))))))
 (pss_one (ps_ret (pv 2))))), ?_⟩
    walk_at "rdB"
    refine rd_seqL hA.2 fun p np => ?_
    walk_at "rdB"
    refine rd_seqL upd_same ?_
    walk_at "rdB"
    have pS : p ≠ S.1 := hS.ne1 np
    have pS2 : p ≠ S.2 := hS.ne2 np
    refine ⟨by omega, by omega, for_rng (fun i σ H' => ∃ ys y3 y4 y5, σ = [some (.ref S.1), some (.ref a), some (.ref p), y3, y4, y5] ∧ ys.Perm xs ∧ H' p = some (.lst ys) ∧ StoreOk S H' ∧ ExS S H H') ⟨xs, _, _, _, rfl, .refl _, upd_same, hS.new np, .new np⟩ ?_ ?_⟩
    · rintro i σ H' hi ⟨ys, y3, y4, y5, rfl, hp, eH, hS', hE⟩
      have hl : ys.length = xs.length := hp.length_eq
      have hi' : i < xs.length := by simpa using hi
      walk_at "rdB"
      refine rd_seqL eH ?_
      walk_at "rdB"
      refine ⟨S, _, rfl, by omega, hS', fun r H2 r0 r1 hS2 hE2 => ?_⟩
      have eH2 := hE2 _ _ pS eH
      walk_at "rdB"
      obtain ⟨hb, e⟩ := atI_get (xs := ys) (i := (i : Int)) (by omega) (by omega)
      refine rd_ixL eH2 e ?_
      walk_at "rdB"
      obtain ⟨hb2, e2⟩ := atI_get (xs := ys) (i := (i : Int) + r) (by omega) (by omega)
      refine rd_ixL eH2 e2 ?_
      walk_at "rdB"
      refine rd_setL eH2 (ixN_nat (by omega) (by omega)) ?_
      walk_at "rdB"
      refine rd_setL upd_same (ixN_nat (by omega) (by rw [List.length_set]; omega)) ?_
      rw [upd_upd]
      walk_at "rdB"
      refine ⟨_, _, _, _, rfl, (swap_perm hb hb2).trans hp, upd_same, store_upd hS2 pS pS2, (hE.trans hE2).mut np⟩
    · rintro σ H' ⟨ys, y3, y4, y5, rfl, hp, eH, hS', hE⟩
      walk_at "rdB"
      exact h p ys H' hp np ⟨pS, eH⟩ hS' hE
end
local macro_rules | `(tactic| walk_at "sideA") => `(tactic| first | assumption | exact Z.sl_of (by assumption) | exact upd_same | (show (0 : Int) < _; omega) | exact Or.inl ⟨by omega, by omega⟩ | exact Or.inr ⟨by omega, by omega⟩)
local macro_rules | `(tactic| walk_at "tyofA") => `(tactic| first | exact TyOf.int _ | exact TyOf.bl _ | exact TyOf.non | exact TyOf.str _ | (apply TyOf.lst; assumption) | (apply TyOf.tup; assumption))
local macro_rules | `(tactic| walk_at "rd1A") => `(tactic| ((with_reducible refine rd_ixL (xs := ?xs) (v := ?v) ?hh ?he ?_); (case hh => first | exact upd_same | assumption); (case he => exact rfl)))
local macro_rules | `(tactic| walk_at "rd1A") => `(tactic| ((with_reducible refine rd_I ?hc ?_); (case hc => walk_at "sideA")))
local macro_rules | `(tactic| walk_at "rd1A") => `(tactic| ((with_reducible refine rd_isiT (b := ?b) (by assumption) ?k ?_); (case k => with_reducible first | exact kb_tuple_int | exact kb_tuple_bool | exact kb_tuple_str | exact kb_tuple_dict | exact kb_tuple_list | exact kb_tuple_tuple)))
local macro_rules | `(tactic| walk_at "rd1A") => `(tactic| ((with_reducible refine rd_isiL (b := ?b) (by assumption) ?k ?_); (case k => with_reducible first | exact kb_list_int | exact kb_list_bool | exact kb_list_str | exact kb_list_dict | exact kb_list_list | exact kb_list_tuple)))
local macro_rules | `(tactic| walk_at "rd1A") => `(tactic| ((with_reducible refine rd_isi (a := ?a) (b := ?b) ?ty ?k ?_); (case ty => first | exact TyOf.int _ | exact TyOf.bl _ | exact TyOf.non | exact TyOf.str _); (case k => with_reducible first | exact kb_int_int | exact kb_int_bool | exact kb_int_str | exact kb_int_dict | exact kb_int_list | exact kb_int_tuple | exact kb_bool_int | exact kb_bool_bool | exact kb_bool_str | exact kb_bool_dict | exact kb_bool_list | exact kb_bool_tuple | exact kb_NoneType_int | exact kb_NoneType_bool | exact kb_NoneType_str | exact kb_NoneType_dict | exact kb_NoneType_list | exact kb_NoneType_tuple | exact kb_str_int | exact kb_str_bool | exact kb_str_str | exact kb_str_dict | exact kb_str_list | exact kb_str_tuple)))
local macro_rules | `(tactic| walk_at "rd1A") => `(tactic| ((with_reducible refine rd_setS (j := ?j) ?he ?_); (case he => exact rfl)))
local macro_rules | `(tactic| walk_at "rd1A") => `(tactic| ((with_reducible refine rd_var (v := ?v) ?hv ?_); (case hv => exact rfl)))
local macro_rules | `(tactic| walk_at "rd1A") => `(tactic| with_reducible refine rd_p40 ?_)
local macro_rules | `(tactic| walk_at "rd1A") => `(tactic| with_reducible refine rd_p30 ?_)
local macro_rules | `(tactic| walk_at "rd1A") => `(tactic| with_reducible refine rd_p18 ?_)
local macro_rules | `(tactic| walk_at "rd1A") => `(tactic| with_reducible refine rd_p13 ?_)
local macro_rules | `(tactic| walk_at "rd1A") => `(tactic| with_reducible refine rd_p12 ?_)
local macro_rules | `(tactic| walk_at "rd1A") => `(tactic| with_reducible refine rd_p11 ?_)
local macro_rules | `(tactic| walk_at "rd1A") => `(tactic| with_reducible refine rd_p9 ?_)
local macro_rules | `(tactic| walk_at "rd1A") => `(tactic| with_reducible refine rd_xf ?_)
local macro_rules | `(tactic| walk_at "rd1A") => `(tactic| with_reducible refine rd_ckw ?_)
local macro_rules | `(tactic| walk_at "rd1A") => `(tactic| with_reducible refine rd_mkO ?_)
local macro_rules | `(tactic| walk_at "rd1A") => `(tactic| with_reducible refine rd_callKS ?_)
local macro_rules | `(tactic| walk_at "rd1A") => `(tactic| with_reducible refine rd_callS ?_)
local macro_rules | `(tactic| walk_at "rd1A") => `(tactic| with_reducible refine rd_lc ?_)
local macro_rules | `(tactic| walk_at "rd1A") => `(tactic| with_reducible refine rd_iTup ?_)
local macro_rules | `(tactic| walk_at "rd1A") => `(tactic| with_reducible refine rd_iList ?_)
local macro_rules | `(tactic| walk_at "rd1A") => `(tactic| with_reducible refine rd_iRng1 ?_)
local macro_rules | `(tactic| walk_at "rd1A") => `(tactic| with_reducible refine rd_for ?_)
local macro_rules | `(tactic| walk_at "rd1A") => `(tactic| with_reducible refine rd_nopart ?_)
local macro_rules | `(tactic| walk_at "rd1A") => `(tactic| with_reducible refine rd_part ?_)
local macro_rules | `(tactic| walk_at "rd1A") => `(tactic| with_reducible refine rd_neB ?_)
local macro_rules | `(tactic| walk_at "rd1A") => `(tactic| with_reducible refine rd_eqS ?_)
local macro_rules | `(tactic| walk_at "rd1A") => `(tactic| with_reducible refine rd_eqB ?_)
local macro_rules | `(tactic| walk_at "rd1A") => `(tactic| with_reducible refine if_nN_ref ?_)
local macro_rules | `(tactic| walk_at "rd1A") => `(tactic| with_reducible refine if_nN_str ?_)
local macro_rules | `(tactic| walk_at "rd1A") => `(tactic| with_reducible refine if_nN_bl ?_)
local macro_rules | `(tactic| walk_at "rd1A") => `(tactic| with_reducible refine if_nN_int ?_)
local macro_rules | `(tactic| walk_at "rd1A") => `(tactic| with_reducible refine if_n_ref ?_)
local macro_rules | `(tactic| walk_at "rd1A") => `(tactic| with_reducible refine if_n_str ?_)
local macro_rules | `(tactic| walk_at "rd1A") => `(tactic| with_reducible refine if_n_bl ?_)
local macro_rules | `(tactic| walk_at "rd1A") => `(tactic| with_reducible refine if_n_int ?_)
local macro_rules | `(tactic| walk_at "rd1A") => `(tactic| with_reducible refine if_nnN ?_)
local macro_rules | `(tactic| walk_at "rd1A") => `(tactic| with_reducible refine if_nt ?_)
local macro_rules | `(tactic| walk_at "rd1A") => `(tactic| with_reducible refine if_nf ?_)
local macro_rules | `(tactic| walk_at "rd1A") => `(tactic| with_reducible refine if_nn ?_)
local macro_rules | `(tactic| walk_at "rd1A") => `(tactic| with_reducible refine iteF ?_)
local macro_rules | `(tactic| walk_at "rd1A") => `(tactic| with_reducible refine iteT ?_)
local macro_rules | `(tactic| walk_at "rd1A") => `(tactic| with_reducible refine rd_asgS ?_)
local macro_rules | `(tactic| walk_at "rd1A") => `(tactic| with_reducible refine rd_chain ?_)
local macro_rules | `(tactic| walk_at "rd1A") => `(tactic| with_reducible refine rd_bm ?_)
local macro_rules | `(tactic| walk_at "rd1A") => `(tactic| with_reducible refine rd_sl ?_)
local macro_rules | `(tactic| walk_at "rd1A") => `(tactic| with_reducible refine rd_tup ?_)
local macro_rules | `(tactic| walk_at "rd1A") => `(tactic| with_reducible refine rd_lst ?_)
local macro_rules | `(tactic| walk_at "rd1A") => `(tactic| with_reducible refine rd_neI ?_)
local macro_rules | `(tactic| walk_at "rd1A") => `(tactic| with_reducible refine rd_if ?_)
local macro_rules | `(tactic| walk_at "rd1A") => `(tactic| with_reducible refine rd_notV ?_)
local macro_rules | `(tactic| walk_at "rd1A") => `(tactic| with_reducible refine rd_orV ?_)
local macro_rules | `(tactic| walk_at "rd1A") => `(tactic| with_reducible refine rd_andV ?_)
local macro_rules | `(tactic| walk_at "rd1A") => `(tactic| with_reducible refine rd_drop ?_)
local macro_rules | `(tactic| walk_at "rd1A") => `(tactic| with_reducible refine rd_next ?_)
local macro_rules | `(tactic| walk_at "rd1A") => `(tactic| with_reducible refine rd_U ?_)
local macro_rules | `(tactic| walk_at "rd1A") => `(tactic| with_reducible refine rd_un ?_)
local macro_rules | `(tactic| walk_at "rd1A") => `(tactic| with_reducible refine rd_or ?_)
local macro_rules | `(tactic| walk_at "rd1A") => `(tactic| with_reducible refine rd_and ?_)
local macro_rules | `(tactic| walk_at "rd1A") => `(tactic| with_reducible refine rd_not ?_)
local macro_rules | `(tactic| walk_at "rd1A") => `(tactic| with_reducible refine rd_tB ?_)
local macro_rules | `(tactic| walk_at "rd1A") => `(tactic| with_reducible refine rd_test ?_)
local macro_rules | `(tactic| walk_at "rd1A") => `(tactic| with_reducible refine rd_ifS ?_)
local macro_rules | `(tactic| walk_at "rd1A") => `(tactic| with_reducible refine rd_ret ?_)
local macro_rules | `(tactic| walk_at "rd1A") => `(tactic| with_reducible refine rd_min2 ?_)
local macro_rules | `(tactic| walk_at "rd1A") => `(tactic| with_reducible refine rd_max2 ?_)
local macro_rules | `(tactic| walk_at "rd1A") => `(tactic| with_reducible refine rd_int1 ?_)
local macro_rules | `(tactic| walk_at "rd1A") => `(tactic| with_reducible refine rd_nn ?_)
local macro_rules | `(tactic| walk_at "rd1A") => `(tactic| with_reducible refine rd_bx ?_)
local macro_rules | `(tactic| walk_at "rd1A") => `(tactic| with_reducible refine rd_eqI ?_)
local macro_rules | `(tactic| walk_at "rd1A") => `(tactic| with_reducible refine rd_I0 ?_)
local macro_rules | `(tactic| walk_at "rd1A") => `(tactic| with_reducible refine rd_call ?_)
local macro_rules | `(tactic| walk_at "rd1A") => `(tactic| with_reducible refine rd_cb ?_)
local macro_rules | `(tactic| walk_at "rd1A") => `(tactic| with_reducible refine rd_nil ?_)
local macro_rules | `(tactic| walk_at "rd1A") => `(tactic| with_reducible refine rd_cons ?_)
local macro_rules | `(tactic| walk_at "rd1A") => `(tactic| with_reducible refine rd_op ?_)
local macro_rules | `(tactic| walk_at "rd1A") => `(tactic| with_reducible refine rd_c ?_)
local macro_rules | `(tactic| walk_at "rd1A") => `(tactic| with_reducible refine rd_asg ?_)
local macro_rules | `(tactic| walk_at "rd1A") => `(tactic| with_reducible refine rd_seq ?_)
local macro_rules | `(tactic| walk_at "rdA") => `(tactic| repeat walk_at "rd1A")
abbrev s_law_name : Stmt := topS 52
theorem sc_law_name : FnScope ["store", "letters", "signs", "kind", "length", "name", "k"] ["store"] (defScope s_law_name) := ⟨rfl, rfl, rfl, by decide +kernel, rfl, by decide +kernel, by decide +kernel⟩
section
variable {P : Program} {w : World} {K : PySem.W.Frag} {mg : Str → Option Value} {base : Heap}
def spName : Sp := fun vs H Q _ => ∃ S : Sto, vs = [.ref S.1] ∧ StoreOk S H ∧ ∀ z H', isNm z = true → StoreOk S H' → ExS S H H' → Q (.str z) H'
theorem ok_name {k : Nat} {f : Addr} {fd : FuncData} (F : Fun K "_law_name" "_law_name" s_law_name f fd) (T : Blt mg) (H_law_take : Has P w K mg base "_law_take" k ["store", "many"] spTake) : FnOk P w K mg base CX0 (k + 1) f fd ["store"] spName := by
  refine F.ok sc_law_name (fun vs H Q E h => ?_) (fun cdv A outer s H vs Q E hr h => ?_)
  · obtain ⟨S, rfl, _⟩ := h; rfl
  · obtain ⟨S, rfl, hS, h⟩ := h
    refine ⟨_, (pss_cons (ps_set (i := 1) sc_law_name.nd rfl (.inl rfl) pe_str)
 (pss_cons (ps_set (i := 2) sc_law_name.nd rfl (.inl rfl) (pe_op op_add_str (pv 1) pe_str))
 (pss_cons (ps_set (i := 3) sc_law_name.nd rfl (.inl rfl) (pe_callH H_law_take hr (by rfl) (pa_cons (pv 0) (pa_cons pe_int pa_nil))))
 (pss_cons (ps_set (i := 4) sc_law_name.nd rfl (.inl rfl) (pe_op op_add pe_int (pe_callH H_law_take hr (by rfl) (pa_cons (pv 0) (pa_cons pe_int pa_nil)))))
 (C8.pss_cut (ps_if (pt_cmpR op_lt (pv 3) pe_int (nomark _)) (pss_one (ps_set (i := 4) sc_law_name.nd rfl (.inl rfl) (pe_ix ix_list (pe_lst (pa_cons pe_int (pa_cons pe_int (pa_cons pe_int pa_nil)))) (pv 3) (fun _ _ => rfl)))) pss_nil)
 (pss_cons (ps_set (i := 5) sc_law_name.nd rfl (.inl rfl) (pe_ix ix_str (pv 1) (pe_callH H_law_take hr (by rfl) (pa_cons (pv 0) (pa_cons pe_int pa_nil))) (fun _ _ => rfl)))
 (pss_cons (ps_for PassesOwn.never rfl (pi_range1 rfl T.range (pa_cons (pe_op op_sub (pv 4) pe_int) pa_nil)) (pg_name (i := 6) sc_law_name.nd rfl (.inl rfl)) (pss_one (ps_set (i := 5) sc_law_name.nd rfl (.inl rfl) (pe_op op_add_str (pv 5) (pe_ix ix_str (pv 2) (pe_callH H_law_take hr (by rfl) (pa_cons (pv 0) (pa_cons pe_int pa_nil))) (fun _ _ => rfl))))))
 (pss_one (ps_ret (pv 5)))))))))), ?_⟩
    walk_at "rdB"
    refine ⟨by decide +kernel, ?_⟩
    rw [show ("abcdefghijklmnopqrstuvwxyz" ++ "0123456789" : Str) = letsD from lets_digits]
    walk_at "rdB"
    refine ⟨S, 5, rfl, by omega, hS, fun r H1 r0 r1 hS1 e1 => ?_⟩
    walk_at "rdB"
    refine ⟨S, 8, rfl, by omega, hS1, fun r2 H2 r20 r21 hS2 e2 => ?_⟩
    walk_at "rdB"
    refine rd_cut (fun σ' H' => ∃ L : Int, σ' = [some (.ref S.1), some (.str lets), some (.str letsD), some (.int r), some (.int L), none, none] ∧ 1 ≤ L ∧ L ≤ 8 ∧ StoreOk S H' ∧ ExS S H H') ?_ ?_
    · walk_at "rdB"
      refine if_dec (fun hk => ?_) (fun hk => ?_)
      · walk_at "rdB"
        refine ⟨sz (by simp), fun p np => ?_⟩
        walk_at "rdB"
        obtain rfl | rfl | rfl : r = 0 ∨ r = 1 ∨ r = 2 := by omega
        all_goals refine rd_ixL upd_same rfl ?_
        all_goals walk_at "rdB"
        all_goals exact ⟨_, rfl, by omega, by omega, hS2.new np, (e1.trans e2).trans (ExS.new np)⟩
      · walk_at "rdB"
        exact ⟨_, rfl, by omega, by omega, hS2, e1.trans e2⟩
    · rintro σ' H3 ⟨L, rfl, l1, l8, hS3, e3⟩
      walk_at "rdB"
      refine ⟨S, 26, rfl, by omega, hS3, fun r4 H4 r40 r41 hS4 e4 => ?_⟩
      obtain ⟨c, hc, _, ec⟩ := atI_nats (l := lets.cps.toList) (i := r4) r40 (by rw [show lets.cps.toList.length = 26 from by decide +kernel]; omega)
      refine rd_ixS (by decide +kernel) ec ?_
      walk_at "rdB"
      refine ⟨by omega, by omega, for_rng (fun i σ H' => ∃ z y, σ = [some (.ref S.1), some (.str lets), some (.str letsD), some (.int r), some (.int L), some (.str z), y] ∧ NmP z (i + 1) ∧ StoreOk S H' ∧ ExS S H H') ⟨_, _, rfl, NmP.one hc, hS4, e3.trans e4⟩ ?_ ?_⟩
      · rintro i σ H5 hi ⟨z, y, rfl, hz, hS5, e5⟩
        walk_at "rdB"
        refine ⟨S, 36, rfl, by omega, hS5, fun r6 H6 r60 r61 hS6 e6 => ?_⟩
        obtain ⟨d, hd, _, ed⟩ := atI_nats (l := letsD.cps.toList) (i := r6) r60 (by rw [show letsD.cps.toList.length = 36 from by decide +kernel]; omega)
        refine rd_ixS (by decide +kernel) ed ?_
        walk_at "rdB"
        refine ⟨sz (by rw [hz.1, one_len]; omega), ?_⟩
        walk_at "rdB"
        exact ⟨_, _, rfl, hz.add hd, hS6, e5.trans e6⟩
      · rintro σ H5 ⟨z, y, rfl, hz, hS5, e5⟩
        walk_at "rdB"
        exact h z H5 (hz.nm (by omega)) hS5 e5
end
abbrev s_law_unused : Stmt := topS 53
theorem sc_law_unused : FnScope ["used", "k"] ["used"] (defScope s_law_unused) := ⟨rfl, rfl, rfl, by decide +kernel, rfl, by decide +kernel, by decide +kernel⟩
abbrev s_law_fresh_names : Stmt := topS 54
theorem sc_law_fresh_names : FnScope ["store", "many", "used", "names", "k", "name"] ["store", "many", "used"] (defScope s_law_fresh_names) := ⟨rfl, rfl, rfl, by decide +kernel, rfl, by decide +kernel, by decide +kernel⟩
local macro_rules | `(tactic| walk_at "sideD") => `(tactic| first | assumption | exact Z.sl_of (by assumption) | exact upd_same | (show (0 : Int) < _; omega) | exact Or.inl ⟨by omega, by omega⟩ | exact Or.inr ⟨by omega, by omega⟩)
local macro_rules | `(tactic| walk_at "tyofD") => `(tactic| first | exact TyOf.int _ | exact TyOf.bl _ | exact TyOf.non | exact TyOf.str _ | (apply TyOf.lst; assumption) | (apply TyOf.tup; assumption))
local macro_rules | `(tactic| walk_at "rd1D") => `(tactic| ((with_reducible refine rd_ixL (xs := ?xs) (v := ?v) ?hh ?he ?_); (case hh => first | exact upd_same | assumption); (case he => exact rfl)))
local macro_rules | `(tactic| walk_at "rd1D") => `(tactic| ((with_reducible refine rd_I ?hc ?_); (case hc => walk_at "sideD")))
local macro_rules | `(tactic| walk_at "rd1D") => `(tactic| ((with_reducible refine rd_isiT (b := ?b) (by assumption) ?k ?_); (case k => with_reducible first | exact kb_tuple_int | exact kb_tuple_bool | exact kb_tuple_str | exact kb_tuple_dict | exact kb_tuple_list | exact kb_tuple_tuple)))
local macro_rules | `(tactic| walk_at "rd1D") => `(tactic| ((with_reducible refine rd_isiL (b := ?b) (by assumption) ?k ?_); (case k => with_reducible first | exact kb_list_int | exact kb_list_bool | exact kb_list_str | exact kb_list_dict | exact kb_list_list | exact kb_list_tuple)))
local macro_rules | `(tactic| walk_at "rd1D") => `(tactic| ((with_reducible refine rd_isi (a := ?a) (b := ?b) ?ty ?k ?_); (case ty => first | exact TyOf.int _ | exact TyOf.bl _ | exact TyOf.non | exact TyOf.str _); (case k => with_reducible first | exact kb_int_int | exact kb_int_bool | exact kb_int_str | exact kb_int_dict | exact kb_int_list | exact kb_int_tuple | exact kb_bool_int | exact kb_bool_bool | exact kb_bool_str | exact kb_bool_dict | exact kb_bool_list | exact kb_bool_tuple | exact kb_NoneType_int | exact kb_NoneType_bool | exact kb_NoneType_str | exact kb_NoneType_dict | exact kb_NoneType_list | exact kb_NoneType_tuple | exact kb_str_int | exact kb_str_bool | exact kb_str_str | exact kb_str_dict | exact kb_str_list | exact kb_str_tuple)))
local macro_rules | `(tactic| walk_at "rd1D") => `(tactic| ((with_reducible refine rd_setS (j := ?j) ?he ?_); (case he => exact rfl)))
local macro_rules | `(tactic| walk_at "rd1D") => `(tactic| ((with_reducible refine rd_var (v := ?v) ?hv ?_); (case hv => exact rfl)))
local macro_rules | `(tactic| walk_at "rd1D") => `(tactic| with_reducible refine rd_pass ?_)
local macro_rules | `(tactic| walk_at "rd1D") => `(tactic| with_reducible refine rd_raise ?_)
local macro_rules | `(tactic| walk_at "rd1D") => `(tactic| with_reducible refine rd_iSeq ?_)
local macro_rules | `(tactic| walk_at "rd1D") => `(tactic| with_reducible refine rd_iStr ?_)
local macro_rules | `(tactic| walk_at "rd1D") => `(tactic| with_reducible refine rd_si ?_)
local macro_rules | `(tactic| walk_at "rd1D") => `(tactic| with_reducible refine rd_ii ?_)
local macro_rules | `(tactic| walk_at "rd1D") => `(tactic| with_reducible refine rd_callSD ?_)
local macro_rules | `(tactic| walk_at "rd1D") => `(tactic| with_reducible refine rd_callNS ?_)
local macro_rules | `(tactic| walk_at "rd1D") => `(tactic| with_reducible refine rd_yes ?_)
local macro_rules | `(tactic| walk_at "rd1D") => `(tactic| with_reducible refine rd_dnotin ?_)
local macro_rules | `(tactic| walk_at "rd1D") => `(tactic| with_reducible refine rd_dput ?_)
local macro_rules | `(tactic| walk_at "rd1D") => `(tactic| with_reducible refine rd_dnewK ?_)
local macro_rules | `(tactic| walk_at "rd1D") => `(tactic| with_reducible refine rd_lrv ?_)
local macro_rules | `(tactic| walk_at "rd1D") => `(tactic| with_reducible refine rd_makeS ?_)
local macro_rules | `(tactic| walk_at "rd1D") => `(tactic| with_reducible refine rd_make ?_)
local macro_rules | `(tactic| walk_at "rd1D") => `(tactic| with_reducible refine rd_sfld ?_)
local macro_rules | `(tactic| walk_at "rd1D") => `(tactic| with_reducible refine rd_fld ?_)
local macro_rules | `(tactic| walk_at "rd1D") => `(tactic| with_reducible refine rd_i1 ?_)
local macro_rules | `(tactic| walk_at "rd1D") => `(tactic| with_reducible refine rd_s1 ?_)
local macro_rules | `(tactic| walk_at "rd1D") => `(tactic| with_reducible refine rd_ss ?_)
local macro_rules | `(tactic| walk_at "rd1D") => `(tactic| with_reducible refine rd_p40 ?_)
local macro_rules | `(tactic| walk_at "rd1D") => `(tactic| with_reducible refine rd_p30 ?_)
local macro_rules | `(tactic| walk_at "rd1D") => `(tactic| with_reducible refine rd_p18 ?_)
local macro_rules | `(tactic| walk_at "rd1D") => `(tactic| with_reducible refine rd_p13 ?_)
local macro_rules | `(tactic| walk_at "rd1D") => `(tactic| with_reducible refine rd_p12 ?_)
local macro_rules | `(tactic| walk_at "rd1D") => `(tactic| with_reducible refine rd_p11 ?_)
local macro_rules | `(tactic| walk_at "rd1D") => `(tactic| with_reducible refine rd_p9 ?_)
local macro_rules | `(tactic| walk_at "rd1D") => `(tactic| with_reducible refine rd_xf ?_)
local macro_rules | `(tactic| walk_at "rd1D") => `(tactic| with_reducible refine rd_ckw ?_)
local macro_rules | `(tactic| walk_at "rd1D") => `(tactic| with_reducible refine rd_mkO ?_)
local macro_rules | `(tactic| walk_at "rd1D") => `(tactic| with_reducible refine rd_callKS ?_)
local macro_rules | `(tactic| walk_at "rd1D") => `(tactic| with_reducible refine rd_callS ?_)
local macro_rules | `(tactic| walk_at "rd1D") => `(tactic| with_reducible refine rd_lc ?_)
local macro_rules | `(tactic| walk_at "rd1D") => `(tactic| with_reducible refine rd_iTup ?_)
local macro_rules | `(tactic| walk_at "rd1D") => `(tactic| with_reducible refine rd_iList ?_)
local macro_rules | `(tactic| walk_at "rd1D") => `(tactic| with_reducible refine rd_iRng1 ?_)
local macro_rules | `(tactic| walk_at "rd1D") => `(tactic| with_reducible refine rd_for ?_)
local macro_rules | `(tactic| walk_at "rd1D") => `(tactic| with_reducible refine rd_nopart ?_)
local macro_rules | `(tactic| walk_at "rd1D") => `(tactic| with_reducible refine rd_part ?_)
local macro_rules | `(tactic| walk_at "rd1D") => `(tactic| with_reducible refine rd_neB ?_)
local macro_rules | `(tactic| walk_at "rd1D") => `(tactic| with_reducible refine rd_eqS ?_)
local macro_rules | `(tactic| walk_at "rd1D") => `(tactic| with_reducible refine rd_eqB ?_)
local macro_rules | `(tactic| walk_at "rd1D") => `(tactic| with_reducible refine if_nN_ref ?_)
local macro_rules | `(tactic| walk_at "rd1D") => `(tactic| with_reducible refine if_nN_str ?_)
local macro_rules | `(tactic| walk_at "rd1D") => `(tactic| with_reducible refine if_nN_bl ?_)
local macro_rules | `(tactic| walk_at "rd1D") => `(tactic| with_reducible refine if_nN_int ?_)
local macro_rules | `(tactic| walk_at "rd1D") => `(tactic| with_reducible refine if_n_ref ?_)
local macro_rules | `(tactic| walk_at "rd1D") => `(tactic| with_reducible refine if_n_str ?_)
local macro_rules | `(tactic| walk_at "rd1D") => `(tactic| with_reducible refine if_n_bl ?_)
local macro_rules | `(tactic| walk_at "rd1D") => `(tactic| with_reducible refine if_n_int ?_)
local macro_rules | `(tactic| walk_at "rd1D") => `(tactic| with_reducible refine if_nnN ?_)
local macro_rules | `(tactic| walk_at "rd1D") => `(tactic| with_reducible refine if_nt ?_)
local macro_rules | `(tactic| walk_at "rd1D") => `(tactic| with_reducible refine if_nf ?_)
local macro_rules | `(tactic| walk_at "rd1D") => `(tactic| with_reducible refine if_nn ?_)
local macro_rules | `(tactic| walk_at "rd1D") => `(tactic| with_reducible refine iteF ?_)
local macro_rules | `(tactic| walk_at "rd1D") => `(tactic| with_reducible refine iteT ?_)
local macro_rules | `(tactic| walk_at "rd1D") => `(tactic| with_reducible refine rd_asgS ?_)
local macro_rules | `(tactic| walk_at "rd1D") => `(tactic| with_reducible refine rd_chain ?_)
local macro_rules | `(tactic| walk_at "rd1D") => `(tactic| with_reducible refine rd_bm ?_)
local macro_rules | `(tactic| walk_at "rd1D") => `(tactic| with_reducible refine rd_sl ?_)
local macro_rules | `(tactic| walk_at "rd1D") => `(tactic| with_reducible refine rd_tup ?_)
local macro_rules | `(tactic| walk_at "rd1D") => `(tactic| with_reducible refine rd_lst ?_)
local macro_rules | `(tactic| walk_at "rd1D") => `(tactic| with_reducible refine rd_neI ?_)
local macro_rules | `(tactic| walk_at "rd1D") => `(tactic| with_reducible refine rd_if ?_)
local macro_rules | `(tactic| walk_at "rd1D") => `(tactic| with_reducible refine rd_notV ?_)
local macro_rules | `(tactic| walk_at "rd1D") => `(tactic| with_reducible refine rd_orV ?_)
local macro_rules | `(tactic| walk_at "rd1D") => `(tactic| with_reducible refine rd_andV ?_)
local macro_rules | `(tactic| walk_at "rd1D") => `(tactic| with_reducible refine rd_drop ?_)
local macro_rules | `(tactic| walk_at "rd1D") => `(tactic| with_reducible refine rd_next ?_)
local macro_rules | `(tactic| walk_at "rd1D") => `(tactic| with_reducible refine rd_U ?_)
local macro_rules | `(tactic| walk_at "rd1D") => `(tactic| with_reducible refine rd_un ?_)
local macro_rules | `(tactic| walk_at "rd1D") => `(tactic| with_reducible refine rd_or ?_)
local macro_rules | `(tactic| walk_at "rd1D") => `(tactic| with_reducible refine rd_and ?_)
local macro_rules | `(tactic| walk_at "rd1D") => `(tactic| with_reducible refine rd_not ?_)
local macro_rules | `(tactic| walk_at "rd1D") => `(tactic| with_reducible refine rd_tB ?_)
local macro_rules | `(tactic| walk_at "rd1D") => `(tactic| with_reducible refine rd_test ?_)
local macro_rules | `(tactic| walk_at "rd1D") => `(tactic| with_reducible refine rd_ifS ?_)
local macro_rules | `(tactic| walk_at "rd1D") => `(tactic| with_reducible refine rd_ret ?_)
local macro_rules | `(tactic| walk_at "rd1D") => `(tactic| with_reducible refine rd_min2 ?_)
local macro_rules | `(tactic| walk_at "rd1D") => `(tactic| with_reducible refine rd_max2 ?_)
local macro_rules | `(tactic| walk_at "rd1D") => `(tactic| with_reducible refine rd_int1 ?_)
local macro_rules | `(tactic| walk_at "rd1D") => `(tactic| with_reducible refine rd_nn ?_)
local macro_rules | `(tactic| walk_at "rd1D") => `(tactic| with_reducible refine rd_bx ?_)
local macro_rules | `(tactic| walk_at "rd1D") => `(tactic| with_reducible refine rd_eqI ?_)
local macro_rules | `(tactic| walk_at "rd1D") => `(tactic| with_reducible refine rd_I0 ?_)
local macro_rules | `(tactic| walk_at "rd1D") => `(tactic| with_reducible refine rd_call ?_)
local macro_rules | `(tactic| walk_at "rd1D") => `(tactic| with_reducible refine rd_cb ?_)
local macro_rules | `(tactic| walk_at "rd1D") => `(tactic| with_reducible refine rd_nil ?_)
local macro_rules | `(tactic| walk_at "rd1D") => `(tactic| with_reducible refine rd_cons ?_)
local macro_rules | `(tactic| walk_at "rd1D") => `(tactic| with_reducible refine rd_op ?_)
local macro_rules | `(tactic| walk_at "rd1D") => `(tactic| with_reducible refine rd_c ?_)
local macro_rules | `(tactic| walk_at "rd1D") => `(tactic| with_reducible refine rd_asg ?_)
local macro_rules | `(tactic| walk_at "rd1D") => `(tactic| with_reducible refine rd_seq ?_)
local macro_rules | `(tactic| walk_at "rdD") => `(tactic| repeat walk_at "rd1D")
section
variable {P : Program} {w : World} {K : PySem.W.Frag} {mg : Str → Option Value} {base : Heap}
theorem dig_letsD {c : Nat} (h : 48 ≤ c ∧ c ≤ 57) : c ∈ letsD.cps.toList := by
  have e : ∀ c, c < 58 → 48 ≤ c → c ∈ letsD.cps.toList := by decide +kernel
  exact e c (by omega) h.1
theorem nm_x {i : Nat} (h : i < 100000) : isNm ("x" ++ numS i) = true := by
  have e : ("x" ++ numS i : Str).cps.toList = 120 :: TL.numL i := by rw [app_l, numS_l]; rfl
  have hl := numS_len h
  rw [isNm_of e, Bool.and_eq_true, Bool.and_eq_true]
  refine ⟨⟨decide_eq_true (by rw [app_len]; have : ("x" : Str).length = 1 := rfl; omega), by decide +kernel⟩, ?_⟩
  rw [e, List.all_eq_true]
  intro c hc
  rcases List.mem_cons.mp hc with rfl | hc
  · decide +kernel
  · exact decide_eq_true (dig_letsD (TL.numL_digits i c hc))
def spUnused : Sp := fun vs H Q _ => ∃ a, ∃ U : List Str, vs = [.ref a] ∧ H a = some (.lst (U.map V.str)) ∧ U.length ≤ 1000 ∧ ∀ z H', isNm z = true → z ∉ U → Same H H' → Q (.str z) H'
theorem ok_unused {k : Nat} {f : Addr} {fd : FuncData} (F : Fun K "_law_unused" "_law_unused" s_law_unused f fd) (T : Blt mg) : FnOk P w K mg base CX0 (k + 1) f fd ["used"] spUnused := by
  refine F.ok sc_law_unused (fun vs H Q E h => ?_) (fun cdv A outer s H vs Q E hr h => ?_)
  · obtain ⟨a, U, rfl, _⟩ := h; rfl
  · obtain ⟨a, U, rfl, hA, hl, h⟩ := h
    refine ⟨_, (pss_cons (ps_for PassesOwn.never rfl (pi_range1 rfl T.range (pa_cons (pe_op op_add (pe_callB call_len_seq (by rfl) T.len (by decide +kernel) (pa_cons (pv 0) pa_nil)) pe_int) pa_nil)) (pg_name (i := 1) sc_law_unused.nd rfl (.inl rfl)) (pss_one (ps_if (pt_cmpR op_notIn_seq (pe_op op_add_str pe_str (pe_callTy call_str_int (by rfl) T.str (by decide +kernel) (pa_cons (pv 1) pa_nil))) (pv 0) (by rfl)) (pss_one (ps_ret (pe_op op_add_str pe_str (pe_callTy call_str_int (by rfl) T.str (by decide +kernel) (pa_cons (pv 1) pa_nil))))) pss_nil)))
 (pss_one (ps_ret pe_str))), ?_⟩
    have h1 : ("x" : Str).length = 1 := rfl
    walk_at "rdD"
    refine ⟨a, _, rfl, .inl (sl_of hA), ?_⟩
    walk_at "rdD"
    rw [List.length_map]
    refine ⟨by omega, by omega, for_rng (fun i σ H' => ∃ y, σ = [some (.ref a), y] ∧ H' = H ∧ ∀ j, j < i → ("x" : Str) ++ numS j ∈ U) ⟨_, rfl, rfl, by omega⟩ ?_ ?_⟩
    · rintro i σ H' hi ⟨y, rfl, rfl, hj⟩
      have hi : i < U.length + 1 := by omega
      have hni := numS_len (n := i) (by omega)
      walk_at "rdD"
      refine ⟨log_ok (by omega), ?_⟩
      walk_at "rdD"
      refine ⟨sz (by show ("x" : Str).length + (numS i).length ≤ 100000; omega), ?_⟩
      walk_at "rdD"
      refine ⟨a, _, rfl, .inl (sl_of hA), rfl, flat_strs _, ?_⟩
      rw [inV_strs]
      refine ⟨_, rfl, ?_⟩
      refine if_ndec (fun hn => ?_) (fun hn => ?_)
      · walk_at "rdD"
        refine ⟨log_ok (by omega), ?_⟩
        walk_at "rdD"
        refine ⟨sz (by show ("x" : Str).length + (numS i).length ≤ 100000; omega), ?_⟩
        exact h _ _ (nm_x (by omega)) hn (Same.refl _)
      · walk_at "rdD"
        refine ⟨_, rfl, rfl, fun j hj' => ?_⟩
        by_cases e : j = i
        · rw [e]; exact hn
        · exact hj j (by omega)
    · rintro σ H' ⟨y, rfl, rfl, hj⟩
      have hj : ∀ j, j < U.length + 1 → ("x" : Str) ++ numS j ∈ U := fun j hj' => hj j (by omega)
      exfalso
      have := nodup_le (xs := (List.range (U.length + 1)).map fun m => ("x" : Str) ++ numS m) (ys := U) ?_ ?_
      · rw [List.length_map, List.length_range] at this; omega
      · rw [List.nodup_iff_pairwise_ne, List.pairwise_map]
        exact List.Pairwise.imp (fun {a b} (hab : a ≠ b) => fun e => hab (app_num_inj e)) (List.nodup_iff_pairwise_ne.mp List.nodup_range)
      · intro x hx
        obtain ⟨m, hm, rfl⟩ := List.mem_map.mp hx
        exact hj m (List.mem_range.mp hm)
def spFreshNames : Sp := fun vs H Q _ => ∃ S : Sto, ∃ m : Nat, ∃ b, ∃ UL : List Str, vs = [.ref S.1, .int m, .ref b] ∧ m ≤ 30 ∧ UL.length ≤ 500 ∧ StoreOk S H ∧ At S H b (.lst (UL.map V.str)) ∧
  ∀ (p : Addr) (U : List Str) (H' : Hp), (∀ z ∈ U, isNm z = true) → U.Nodup → (∀ z ∈ U, z ∉ UL) → U.length = m → H p = none → At S H' p (.lst (U.map V.str)) → StoreOk S H' → ExS S H H' → Q (.ref p) H'
theorem ok_fresh_names {k : Nat} {f : Addr} {fd : FuncData} (F : Fun K "_law_fresh_names" "_law_fresh_names" s_law_fresh_names f fd) (T : Blt mg) (H_law_name : Has P w K mg base "_law_name" k ["store"] spName) (H_law_unused : Has P w K mg base "_law_unused" k ["used"] spUnused) : FnOk P w K mg base CX0 (k + 1) f fd ["store", "many", "used"] spFreshNames := by
  refine F.ok sc_law_fresh_names (fun vs H Q E h => ?_) (fun cdv A outer s H vs Q E hr h => ?_)
  · obtain ⟨S, m, b, UL, rfl, _⟩ := h; rfl
  · obtain ⟨S, m, b, UL, rfl, hm, hUL, hS, hb, h⟩ := h
    refine ⟨_, (pss_cons (ps_set (i := 3) sc_law_fresh_names.nd rfl (.inl rfl) (pe_lst pa_nil))
 (pss_cons (ps_for PassesOwn.never rfl (pi_range1 rfl T.range (pa_cons (pv 1) pa_nil)) (pg_name (i := 4) sc_law_fresh_names.nd rfl (.inl rfl)) (pss_cons (ps_set (i := 5) sc_law_fresh_names.nd rfl (.inl rfl) (pe_callH H_law_name hr (by rfl) (pa_cons (pv 0) pa_nil)))
 (C8.pss_cut (ps_if (PW.pt (pw_or (pt_cmpR op_in_seq (pv 5) (pv 2) (by rfl)) (pw_or1 (pt_cmpR op_in_seq (pv 5) (pv 3) (by rfl))))) (pss_one (ps_set (i := 5) sc_law_fresh_names.nd rfl (.inl rfl) (pe_callH H_law_unused hr (by rfl) (pa_cons (pe_op op_cat (pe_callTy call_list_of (by rfl) T.list' (by decide +kernel) (pa_cons (pv 2) pa_nil)) (pv 3)) pa_nil)))) pss_nil)
 (pss_one (ps_expr (pe_bm PySem.F.plainAttrs_list PySem.F.slot_list_append PySem.F.type_list_append mt_append (pv 3) (pa_cons (pv 5) pa_nil)))))))
 (pss_one (ps_ret (pv 3))))), ?_⟩
    walk_at "rdD"
    refine ⟨sz (by simp), fun p np => ?_⟩
    have p1 := hS.ne1 np
    have p2 := hS.ne2 np
    walk_at "rdD"
    refine ⟨by omega, by omega, for_rng (fun i σ H' => ∃ y y2, ∃ U : List Str, σ = [some (.ref S.1), some (.int m), some (.ref b), some (.ref p), y, y2] ∧ (∀ z ∈ U, isNm z = true) ∧ U.Nodup ∧ (∀ z ∈ U, z ∉ UL) ∧ U.length = i ∧ H' p = some (.lst (U.map V.str)) ∧ StoreOk S H' ∧ ExS S H H') ⟨_, _, [], rfl, by simp, by simp, by simp, rfl, upd_same, hS.new np, ExS.new np⟩ ?_ ?_⟩
    · rintro i σ H' hi ⟨y, y2, U, rfl, hU, dU, fU, lU, hp, hS', e'⟩
      have hi : i < m := by simpa using hi
      walk_at "rdD"
      refine ⟨S, rfl, hS', fun z H2 hz hS2 e2 => ?_⟩
      have hp2 := e2 _ _ p1 hp
      have hb2 := (hb.back e').back e2
      have e2' := e'.trans e2
      walk_at "rdD"
      refine rd_cut (fun σ' H3 => ∃ z, σ' = [some (.ref S.1), some (.int m), some (.ref b), some (.ref p), some (.int i), some (.str z)] ∧ isNm z = true ∧ z ∉ UL ∧ z ∉ U ∧ H3 p = some (.lst (U.map V.str)) ∧ StoreOk S H3 ∧ ExS S H H3) ?_ ?_
      · have new : ∀ σr : Prop, σr → σr := fun _ h => h
        walk_at "rdD"
        refine ⟨b, _, rfl, .inl (sl_of hb2.2), rfl, flat_strs _, ?_⟩
        rw [inV_strs]
        refine ⟨_, rfl, ?_⟩
        refine if_dec (fun hin => ?_) (fun hin => ?_)
        · walk_at "rdD"
          refine ⟨b, _, rfl, .inl (sl_of hb2.2), fun l nl => ?_⟩
          have hp3 := same_new (o := .lst (UL.map V.str)) nl _ _ hp2
          walk_at "rdD"
          refine ⟨l, p, _, _, rfl, rfl, upd_same, hp3, sz (by simp; omega), fun l' nl' => ?_⟩
          have sm := (same_new (o := .lst (UL.map V.str)) nl).trans (same_new (o := .lst (UL.map V.str ++ U.map V.str)) nl')
          walk_at "rdD"
          refine ⟨l', UL ++ U, rfl, by rw [List.map_append]; exact upd_same, by simp; omega, fun z2 H3 hz2 nz2 s3 => ?_⟩
          walk_at "rdD"
          exact ⟨z2, rfl, hz2, fun q => nz2 (List.mem_append_left _ q), fun q => nz2 (List.mem_append_right _ q), (sm.trans s3) _ _ hp2, hS2.same (sm.trans s3), e2'.trans (same_ex (sm.trans s3))⟩
        · walk_at "rdD"
          refine ⟨p, _, rfl, .inl (sl_of hp2), rfl, flat_strs _, ?_⟩
          rw [inV_strs]
          refine ⟨_, rfl, ?_⟩
          refine if_dec (fun hin2 => ?_) (fun hin2 => ?_)
          · walk_at "rdD"
            refine ⟨b, _, rfl, .inl (sl_of hb2.2), fun l nl => ?_⟩
            have hp3 := same_new (o := .lst (UL.map V.str)) nl _ _ hp2
            walk_at "rdD"
            refine ⟨l, p, _, _, rfl, rfl, upd_same, hp3, sz (by simp; omega), fun l' nl' => ?_⟩
            have sm := (same_new (o := .lst (UL.map V.str)) nl).trans (same_new (o := .lst (UL.map V.str ++ U.map V.str)) nl')
            walk_at "rdD"
            refine ⟨l', UL ++ U, rfl, by rw [List.map_append]; exact upd_same, by simp; omega, fun z2 H3 hz2 nz2 s3 => ?_⟩
            walk_at "rdD"
            exact ⟨z2, rfl, hz2, fun q => nz2 (List.mem_append_left _ q), fun q => nz2 (List.mem_append_right _ q), (sm.trans s3) _ _ hp2, hS2.same (sm.trans s3), e2'.trans (same_ex (sm.trans s3))⟩
          · walk_at "rdD"
            exact ⟨z, rfl, hz, hin, hin2, hp2, hS2, e2'⟩
      · rintro σ' H3 ⟨z, rfl, hz, nu, nU, hp3, hS3, e3⟩
        walk_at "rdD"
        refine ⟨.inl ⟨rfl, _, .inl (.inl hp3)⟩, ?_⟩
        walk_at "rdD"
        refine ⟨p, _, _, rfl, rfl, hp3, by rw [List.length_map]; exact Nat.lt_of_le_of_lt (by omega : U.length ≤ 30) (by decide), ?_⟩
        refine ⟨_, _, U ++ [z], rfl, fun x hx => ?_, ?_, fun x hx => ?_, by rw [List.length_append, lU]; rfl, by rw [upd_same, List.map_append]; rfl, store_upd hS3 p1 p2, e3.mut np⟩
        · rcases List.mem_append.mp hx with q | q
          · exact hU x q
          · rw [List.mem_singleton.mp q]; exact hz
        · rw [List.nodup_append]
          refine ⟨dU, by simp, fun x hx y hy => ?_⟩
          rw [List.mem_singleton.mp hy]
          intro e; rw [e] at hx; exact nU hx
        · rcases List.mem_append.mp hx with q | q
          · exact fU x q
          · rw [List.mem_singleton.mp q]; exact nu
    · rintro σ H' ⟨y, y2, U, rfl, hU, dU, fU, lU, hp, hS', e'⟩
      walk_at "rdD"
      exact h p U H' hU dU fU (by simpa using lU) np ⟨p1, hp⟩ hS' e'
end
def lt (n : Nat) : Nat := 97 + n % 26
def n1 (f : Int) (s r : Nat) (z : List Nat) (k : Nat) : List Nat := if f = 1 then z.take r ++ [lt (s + k)] ++ z.drop (r + 1) else [lt (s + k)]
def n2 (f : Int) (s r : Nat) (z : List Nat) (k : Nat) : List Nat := if f = 2 then z.take 2 ++ TL.numL (s % 4 + 7 + k * (1 + s % 3)) else n1 f s r z k
def n3 (f : Int) (s r : Nat) (z : List Nat) (k : Nat) : List Nat := if f = 4 then List.replicate (1 + k % 8) (lt (s + k / 8)) else n2 f s r z k
theorem lt_lets (n : Nat) : lt n ∈ lets.cps.toList := by
  have e : ∀ j, j < 26 → 97 + j ∈ lets.cps.toList := by decide +kernel
  exact e _ (Nat.mod_lt _ (by decide))
theorem lets_at (j : Nat) : atI lets.cps.toList (((j % 26 : Nat)) : Int) = some (lt j) := by
  have e : ∀ j, j < 26 → lets.cps.toList[j]? = some (97 + j) := by decide +kernel
  have hj := Nat.mod_lt j (by decide : 26 > 0)
  have hl : lets.cps.toList.length = 26 := by decide +kernel
  have := e _ hj
  unfold atI ixN lt
  rw [if_pos (by omega), if_pos (by rw [hl]; omega)]
  rw [Int.toNat_natCast]; exact this
structure Good (l : List Nat) : Prop where
  len : l.length ≤ 8
  hd : ∃ c, l.head? = some c ∧ c ∈ lets.cps.toList
  all : ∀ d ∈ l, d ∈ letsD.cps.toList
theorem good_iff {l : List Nat} : isNmL l = true ↔ Good l := by
  cases l with
  | nil => exact ⟨fun h => (by cases h), fun h => (by obtain ⟨c, e, _⟩ := h.hd; cases e)⟩
  | cons c l =>
    show (decide ((c :: l).length ≤ 8) && decide (c ∈ lets.cps.toList) && (c :: l).all fun d => decide (d ∈ letsD.cps.toList)) = true ↔ _
    rw [Bool.and_eq_true, Bool.and_eq_true, decide_eq_true_iff, decide_eq_true_iff, List.all_eq_true]
    constructor
    · rintro ⟨⟨a, b⟩, d⟩
      exact ⟨a, ⟨c, rfl, b⟩, fun x hx => of_decide_eq_true (d x hx)⟩
    · rintro ⟨a, ⟨c', e, b⟩, d⟩
      cases e
      exact ⟨⟨a, b⟩, fun x hx => decide_eq_true (d x hx)⟩
theorem n3_good {f : Int} {s r : Nat} {z : List Nat} {k : Nat} (hz : Good z) (hr : r < z.length) (hk : k < 26) : Good (n3 f s r z k) := by
  have hl := fun n => lets_sub _ (lt_lets n)
  unfold n3
  split
  · refine ⟨by rw [List.length_replicate]; have := Nat.mod_lt k (by decide : 8 > 0); omega, ⟨lt (s + k / 8), by rw [Nat.add_comm]; rfl, lt_lets _⟩, fun d hd => ?_⟩
    rw [(List.mem_replicate.mp hd).2]; exact hl _
  · unfold n2
    split
    · have hn : s % 4 + 7 + k * (1 + s % 3) < 10 ^ 3 := by
        have h3 := Nat.mod_lt s (by decide : 3 > 0)
        have h4 := Nat.mod_lt s (by decide : 4 > 0)
        have := Nat.mul_le_mul (show k ≤ 26 by omega) (show 1 + s % 3 ≤ 3 by omega)
        omega
      have hlen := TL.numL_len (by decide) hn
      obtain ⟨c, e, hc⟩ := hz.hd
      refine ⟨?_, ⟨c, ?_, hc⟩, fun d hd => ?_⟩
      · rw [List.length_append, List.length_take]; omega
      · cases z with
        | nil => cases e
        | cons a l => exact e
      · rcases List.mem_append.mp hd with q | q
        · exact hz.all d (List.mem_of_mem_take q)
        · exact dig_letsD (TL.numL_digits _ d q)
    · unfold n1
      split
      · obtain ⟨c, e, hc⟩ := hz.hd
        refine ⟨?_, ?_, fun d hd => ?_⟩
        · have := hz.len
          rw [List.length_append, List.length_append, List.length_take, List.length_drop, List.length_singleton]; omega
        · cases r with
          | zero => exact ⟨_, rfl, lt_lets _⟩
          | succ r =>
            cases z with
            | nil => cases e
            | cons a l => exact ⟨c, e, hc⟩
        · rcases List.mem_append.mp hd with q | q
          · rcases List.mem_append.mp q with q | q
            · exact hz.all d (List.mem_of_mem_take q)
            · rw [List.mem_singleton.mp q]; exact hl _
          · exact hz.all d (List.mem_of_mem_drop q)
      · refine ⟨by simp, ⟨_, rfl, lt_lets _⟩, fun d hd => ?_⟩
        rw [List.mem_singleton.mp hd]; exact hl _
theorem lt_inj {s j k : Nat} (hj : j < 26) (hk : k < 26) (e : lt (s + j) = lt (s + k)) : j = k := by unfold lt at e; omega
theorem n3_inj {f : Int} {s r : Nat} {z : List Nat} {j k : Nat} (hj : j < 26) (hk : k < 26) (e : n3 f s r z j = n3 f s r z k) : j = k := by
  unfold n3 at e
  split at e
  · have l := congrArg List.length e
    rw [List.length_replicate, List.length_replicate] at l
    have h := congrArg List.head? e
    rw [Nat.add_comm 1, Nat.add_comm 1] at h
    have h : lt (s + j / 8) = lt (s + k / 8) := Option.some.inj h
    have := lt_inj (by omega) (by omega) h
    omega
  · unfold n2 at e
    split at e
    · have := TL.numL_inj (List.append_cancel_left e)
      have := Nat.eq_of_mul_eq_mul_right (show 0 < 1 + s % 3 by omega) (show j * (1 + s % 3) = k * (1 + s % 3) by omega)
      exact this
    · unfold n1 at e
      split at e
      · have := List.append_cancel_left (List.append_cancel_right e)
        exact lt_inj hj hk (List.cons.inj this).1
      · exact lt_inj hj hk (List.cons.inj e).1
theorem names_nodup {f : Int} {s r : Nat} {z : List Nat} {U : List Str} {m : Nat} (e : U.map TL.tl = (List.range m).map (n3 f s r z)) (hm : m ≤ 26) : U.Nodup := by
  have h : (U.map TL.tl).Nodup := by
    rw [e, List.nodup_iff_pairwise_ne, List.pairwise_map]
    refine List.Pairwise.imp_of_mem (fun {a b} ha hb (hab : a ≠ b) => fun q => hab (n3_inj (by have := List.mem_range.mp ha; omega) (by have := List.mem_range.mp hb; omega) q)) (List.nodup_iff_pairwise_ne.mp List.nodup_range)
  rw [List.nodup_iff_pairwise_ne, List.pairwise_map] at h
  rw [List.nodup_iff_pairwise_ne]
  exact h.imp fun {a b} q e => q (by rw [e])
theorem names_good {f : Int} {s r : Nat} {z : Str} {U : List Str} {m : Nat} (e : U.map TL.tl = (List.range m).map (n3 f s r (TL.tl z))) (hm : m ≤ 26) (hz : isNm z = true) (hr : r < z.length) : ∀ u ∈ U, isNm u = true := fun u hu => by
  have : TL.tl u ∈ U.map TL.tl := List.mem_map_of_mem hu
  rw [e] at this
  obtain ⟨k, hk, q⟩ := List.mem_map.mp this
  unfold isNm
  rw [show u.cps.toList = TL.tl u from rfl, ← q]
  exact good_iff.mpr (n3_good (good_iff.mp hz) (by rw [← TL.len_tl]; exact hr) (by have := List.mem_range.mp hk; omega))
theorem reps_list (c : Nat) : ∀ (q : Nat) (acc : Array Nat), ((List.replicate q #[c]).foldl (· ++ ·) acc).toList = acc.toList ++ List.replicate q c
  | 0, acc => by simp
  | q + 1, acc => by
    rw [List.replicate_succ, List.foldl_cons, reps_list c q, Array.toList_append, List.replicate_succ]; simp
theorem mul_list {c n : Nat} (h : 1 ≤ n) : TL.tl (Txt.mul ⟨#[c]⟩ (n : Int)) = List.replicate n c := by
  unfold Txt.mul
  rw [if_neg (by omega)]
  split
  · rename_i q
    have : n = 1 := by
      have hl : (⟨#[c]⟩ : Str).length = 1 := rfl
      rw [hl] at q
      simp at q; omega
    subst this; rfl
  · show ((List.replicate (n : Int).toNat #[c]).foldl (· ++ ·) #[]).toList = _
    rw [reps_list, Int.toNat_natCast]; rfl
abbrev s_law_names : Stmt := topS 55
theorem sc_law_names : FnScope ["store", "many", "letters", "family", "start", "stem", "at", "names", "k", "name"] ["store", "many"] (defScope s_law_names) := ⟨rfl, rfl, rfl, by decide +kernel, rfl, by decide +kernel, by decide +kernel⟩
section
variable {P : Program} {w : World} {K : PySem.W.Frag} {mg : Str → Option Value} {base : Heap}
theorem cut_to_l (z : Str) (k : Nat) : TL.tl (cutS z none (some (k : Int))) = (TL.tl z).take k := cutS_to z k
theorem cut_from_l (z : Str) (k : Nat) : TL.tl (cutS z (some (k : Int)) none) = (TL.tl z).drop k := by
  show ((z.cps.toList.drop _).take _).toArray.toList = _
  rw [List.toList_toArray, HT.sIx_none, HT.sIx_nat]
  by_cases h : k ≤ z.length
  · rw [Nat.min_eq_left h, List.take_of_length_le (by rw [List.length_drop, len_l]; omega)]
  · have e1 : min k z.length = z.length := by omega
    rw [e1, Nat.sub_self, List.take_zero]
    exact (List.drop_eq_nil_of_le (by rw [len_l]; omega)).symm
def unS : V → Str
  | .str z => z
  | _ => Str.empty
theorem perm_strs {ys : List V} {U : List Str} (h : ys.Perm (U.map V.str)) : ∃ W : List Str, ys = W.map V.str ∧ W.Perm U := by
  refine ⟨ys.map unS, ?_, ?_⟩
  · rw [List.map_map]
    have : ∀ y ∈ ys, (V.str ∘ unS) y = y := fun y hy => by
      obtain ⟨u, _, rfl⟩ := List.mem_map.mp (h.mem_iff.mp hy)
      rfl
    rw [List.map_congr_left this]; simp
  · have q := h.map unS
    rw [List.map_map] at q
    have e : U.map (unS ∘ V.str) = U := by
      have : (unS ∘ V.str) = id := rfl
      rw [this, List.map_id]
    rw [e] at q; exact q
theorem tl_app (a b : Str) : TL.tl (a ++ b) = TL.tl a ++ TL.tl b := app_l a b
def spNames : Sp := fun vs H Q _ => ∃ S : Sto, ∃ m : Nat, vs = [.ref S.1, .int m] ∧ m ≤ 26 ∧ StoreOk S H ∧
  ∀ (p : Addr) (U : List Str) (H' : Hp), (∀ z ∈ U, isNm z = true) → U.Nodup → U.length = m → H p = none → At S H' p (.lst (U.map V.str)) → StoreOk S H' → ExS S H H' → Q (.ref p) H'
theorem ok_names {k : Nat} {f : Addr} {fd : FuncData} (F : Fun K "_law_names" "_law_names" s_law_names f fd) (T : Blt mg) (H_law_take : Has P w K mg base "_law_take" k ["store", "many"] spTake) (H_law_fresh_names : Has P w K mg base "_law_fresh_names" k ["store", "many", "used"] spFreshNames) (H_law_name : Has P w K mg base "_law_name" k ["store"] spName) (H_law_shuffled : Has P w K mg base "_law_shuffled" k ["store", "items"] spShuffled) : FnOk P w K mg base CX0 (k + 1) f fd ["store", "many"] spNames := by
  refine F.ok sc_law_names (fun vs H Q E h => ?_) (fun cdv A outer s H vs Q E hr h => ?_)
  · obtain ⟨S, m, rfl, _⟩ := h; rfl
  · obtain ⟨S, m, rfl, hm, hS, h⟩ := h
    refine ⟨_, (pss_cons (ps_set (i := 2) sc_law_names.nd rfl (.inl rfl) pe_str)
 (pss_cons (ps_set (i := 3) sc_law_names.nd rfl (.inl rfl) (pe_callH H_law_take hr (by rfl) (pa_cons (pv 0) (pa_cons pe_int pa_nil))))
 (pss_cons (ps_set (i := 4) sc_law_names.nd rfl (.inl rfl) (pe_callH H_law_take hr (by rfl) (pa_cons (pv 0) (pa_cons pe_int pa_nil))))
 (pss_cons (ps_if (pt_cmpR op_eq (pv 3) pe_int (nomark _)) (pss_one (ps_ret (pe_callH H_law_fresh_names hr (by rfl) (pa_cons (pv 0) (pa_cons (pv 1) (pa_cons (pe_lst pa_nil) pa_nil)))))) pss_nil)
 (pss_cons (ps_set (i := 5) sc_law_names.nd rfl (.inl rfl) (pe_callH H_law_name hr (by rfl) (pa_cons (pv 0) pa_nil)))
 (pss_cons (ps_set (i := 6) sc_law_names.nd rfl (.inl rfl) (pe_callH H_law_take hr (by rfl) (pa_cons (pv 0) (pa_cons (pe_callB call_len_str (by rfl) T.len (by decide +kernel) (pa_cons (pv 5) pa_nil)) pa_nil))))
 (pss_cons (ps_set (i := 7) sc_law_names.nd rfl (.inl rfl) (pe_lst pa_nil))
 (pss_cons (ps_for PassesOwn.never rfl (pi_range1 rfl T.range (pa_cons (pv 1) pa_nil)) (pg_name (i := 8) sc_law_names.nd rfl (.inl rfl)) (pss_cons (ps_set (i := 9) sc_law_names.nd rfl (.inl rfl) (pe_ix ix_str (pv 2) (pe_op op_mod (pe_callTy call_int1 (by rfl) T.int (by decide +kernel) (pa_cons (pe_op op_add (pv 4) (pv 8)) pa_nil)) pe_int) (fun _ _ => rfl)))
 (C8.pss_cut (ps_if (pt_cmpR op_eq (pv 3) pe_int (nomark _)) (pss_one (ps_set (i := 9) sc_law_names.nd rfl (.inl rfl) (pe_op op_add_str (pe_op op_add_str (pe_slice sl_str (pv 5) po_none (po_some (pv 6))) (pv 9)) (pe_slice sl_str (pv 5) (po_some (pe_op op_add (pv 6) pe_int)) po_none)))) pss_nil)
 (C8.pss_cut (ps_if (pt_cmpR op_eq (pv 3) pe_int (nomark _)) (pss_one (ps_set (i := 9) sc_law_names.nd rfl (.inl rfl) (pe_op op_add_str (pe_slice sl_str (pv 5) po_none (po_some pe_int)) (pe_callTy call_str_int (by rfl) T.str (by decide +kernel) (pa_cons (pe_op op_add (pe_op op_add (pe_op op_mod (pe_callTy call_int1 (by rfl) T.int (by decide +kernel) (pa_cons (pv 4) pa_nil)) pe_int) pe_int) (pe_op op_mul (pv 8) (pe_op op_add pe_int (pe_op op_mod (pe_callTy call_int1 (by rfl) T.int (by decide +kernel) (pa_cons (pv 4) pa_nil)) pe_int)))) pa_nil))))) pss_nil)
 (C8.pss_cut (ps_if (pt_cmpR op_eq (pv 3) pe_int (nomark _)) (pss_one (ps_set (i := 9) sc_law_names.nd rfl (.inl rfl) (pe_op op_mul_str (pe_ix ix_str (pv 2) (pe_op op_mod (pe_callTy call_int1 (by rfl) T.int (by decide +kernel) (pa_cons (pe_op op_add (pv 4) (pe_op op_fdivW (pv 8) pe_int)) pa_nil)) pe_int) (fun _ _ => rfl)) (pe_op op_add pe_int (pe_op op_mod (pe_callTy call_int1 (by rfl) T.int (by decide +kernel) (pa_cons (pv 8) pa_nil)) pe_int))))) pss_nil)
 (pss_one (ps_expr (pe_bm PySem.F.plainAttrs_list PySem.F.slot_list_append PySem.F.type_list_append mt_append (pv 7) (pa_cons (pv 9) pa_nil)))))))))
 (pss_one (ps_ret (pe_callH H_law_shuffled hr (by rfl) (pa_cons (pv 0) (pa_cons (pv 7) pa_nil))))))))))))), ?_⟩
    walk_at "rdD"
    refine ⟨S, 5, rfl, by omega, hS, fun fam H1 f0 f1 hS1 e1 => ?_⟩
    walk_at "rdD"
    refine ⟨S, 26, rfl, by omega, hS1, fun st H2 t0 t1 hS2 e2 => ?_⟩
    obtain ⟨sn, rfl⟩ : ∃ n : Nat, st = n := ⟨st.toNat, by omega⟩
    have e2' := e1.trans e2
    walk_at "rdD"
    refine if_dec (fun h3 => ?_) (fun h3 => ?_)
    · walk_at "rdD"
      refine ⟨sz (by simp), fun b nb => ?_⟩
      walk_at "rdD"
      exact ⟨S, m, b, [], rfl, by omega, by simp, hS2.new nb, .new hS2 nb, fun p U H' hU dU _ lU np hA hS' e' => h p U H' hU dU lU (e2'.free hS2 ((ExS.new (S := S) nb).free (hS2.new nb) np)) hA hS' (e2'.trans ((ExS.new nb).trans e'))⟩
    · walk_at "rdD"
      refine ⟨S, rfl, hS2, fun z H3 hz hS3 e3 => ?_⟩
      obtain ⟨z1, z8⟩ := isNm_len hz
      have e3' := e2'.trans e3
      walk_at "rdD"
      refine ⟨sz (by omega), ?_⟩
      walk_at "rdD"
      refine ⟨S, _, rfl, by omega, hS3, fun r H4 r0 r1 hS4 e4 => ?_⟩
      obtain ⟨rn, rfl⟩ : ∃ n : Nat, r = n := ⟨r.toNat, by omega⟩
      have e4' := e3'.trans e4
      walk_at "rdD"
      refine ⟨sz (by simp), fun p np => ?_⟩
      have p1 := hS4.ne1 np
      have p2 := hS4.ne2 np
      walk_at "rdD"
      refine ⟨by omega, by omega, for_rng (fun i σ H' => ∃ y y2, ∃ U : List Str, σ = [some (.ref S.1), some (.int m), some (.str lets), some (.int fam), some (.int sn), some (.str z), some (.int rn), some (.ref p), y, y2] ∧ U.map TL.tl = (List.range i).map (n3 fam sn rn (TL.tl z)) ∧ U.length = i ∧ H' p = some (.lst (U.map V.str)) ∧ StoreOk S H' ∧ ExS S H H') ⟨_, _, [], rfl, rfl, rfl, upd_same, hS4.new np, e4'.trans (ExS.new np)⟩ ?_ ?_⟩
      · rintro i σ H5 hi ⟨y, y2, U, rfl, hU, lU, hp, hS5, e5⟩
        have hi : i < m := by simpa using hi
        have a1 : ((sn : Int) + (i : Int)) % 26 = (((sn + i) % 26 : Nat) : Int) := by omega
        have a2 : ((sn : Int) + (i : Int) / 8) % 26 = (((sn + i / 8) % 26 : Nat) : Int) := by omega
        have a3 : (sn : Int) % 4 + 7 + (i : Int) * (1 + (sn : Int) % 3) = ((sn % 4 + 7 + i * (1 + sn % 3) : Nat) : Int) := by push_cast; rfl
        have a4 : (1 : Int) + (i : Int) % 8 = ((1 + i % 8 : Nat) : Int) := by omega
        have hn : sn % 4 + 7 + i * (1 + sn % 3) < 100000 := by
          have := Nat.mul_le_mul (show i ≤ 26 by omega) (show 1 + sn % 3 ≤ 3 by omega)
          omega
        walk_at "rdD"
        rw [a1]
        refine rd_ixS (by decide +kernel) (lets_at _) ?_
        walk_at "rdD"
        refine rd_cut (fun σ' H3 => ∃ x : Str, σ' = [some (.ref S.1), some (.int m), some (.str lets), some (.int fam), some (.int sn), some (.str z), some (.int rn), some (.ref p), some (.int i), some (.str x)] ∧ TL.tl x = n1 fam sn rn (TL.tl z) i ∧ x.length ≤ 40 ∧ H3 = H5) ?_ ?_
        · walk_at "rdD"
          refine if_dec (fun hf => ?_) (fun hf => ?_)
          · have l1 := cutS_len z none (some (rn : Int))
            have l2 := cutS_len z (some ((rn : Int) + 1)) none
            have l3 : (⟨#[lt (sn + i)]⟩ : Str).length = 1 := rfl
            walk_at "rdD"
            refine rd_slS (by omega) ?_
            walk_at "rdD"
            refine ⟨sz (by omega), ?_⟩
            walk_at "rdD"
            refine rd_slS (by omega) ?_
            walk_at "rdD"
            refine ⟨sz (by rw [app_len]; omega), ?_⟩
            walk_at "rdD"
            refine ⟨_, rfl, ?_, by rw [app_len, app_len]; omega, rfl⟩
            rw [tl_app, tl_app, cut_to_l, show (rn : Int) + 1 = ((rn + 1 : Nat) : Int) from rfl, cut_from_l]
            unfold n1; rw [if_pos hf]
          · walk_at "rdD"
            exact ⟨_, rfl, by unfold n1; rw [if_neg hf], by show 1 ≤ 40; omega, rfl⟩
        · rintro σ' H6 ⟨x, rfl, hx, lx, rfl⟩
          refine rd_cut (fun σ' H3 => ∃ x : Str, σ' = [some (.ref S.1), some (.int m), some (.str lets), some (.int fam), some (.int sn), some (.str z), some (.int rn), some (.ref p), some (.int i), some (.str x)] ∧ TL.tl x = n2 fam sn rn (TL.tl z) i ∧ x.length ≤ 40 ∧ H3 = H6) ?_ ?_
          · walk_at "rdD"
            refine if_dec (fun hf => ?_) (fun hf => ?_)
            · have l1 := cutS_len z none (some 2)
              walk_at "rdD"
              refine rd_slS (by omega) ?_
              walk_at "rdD"
              rw [a3]
              have hns := numS_len hn
              refine ⟨log_ok (by omega), ?_⟩
              walk_at "rdD"
              refine ⟨sz (by show (cutS z none (some 2)).length + (numS _).length ≤ 100000; omega), ?_⟩
              walk_at "rdD"
              refine ⟨cutS z none (some 2) ++ numS (sn % 4 + 7 + i * (1 + sn % 3)), rfl, ?_, by rw [app_len]; omega, rfl⟩
              rw [tl_app, show (some (2 : Int)) = some ((2 : Nat) : Int) from rfl, cut_to_l]
              unfold n2; rw [if_pos hf]
              rw [show TL.tl (numS (sn % 4 + 7 + i * (1 + sn % 3))) = _ from numS_l _]
            · walk_at "rdD"
              exact ⟨_, rfl, by unfold n2; rw [if_neg hf]; exact hx, lx, rfl⟩
          · rintro σ' H7 ⟨x, rfl, hx, lx, rfl⟩
            refine rd_cut (fun σ' H3 => ∃ x : Str, σ' = [some (.ref S.1), some (.int m), some (.str lets), some (.int fam), some (.int sn), some (.str z), some (.int rn), some (.ref p), some (.int i), some (.str x)] ∧ TL.tl x = n3 fam sn rn (TL.tl z) i ∧ x.length ≤ 40 ∧ H3 = H7) ?_ ?_
            · walk_at "rdD"
              refine if_dec (fun hf => ?_) (fun hf => ?_)
              · walk_at "rdD"
                refine ⟨_, _, rfl, rfl, ⟨by decide, by decide⟩, ?_⟩
                walk_at "rdD"
                rw [a2]
                refine rd_ixS (by decide +kernel) (lets_at _) ?_
                walk_at "rdD"
                rw [a4]
                refine ⟨_, _, rfl, rfl, by omega, by omega, by show 1 ≤ 1000; omega, ?_⟩
                walk_at "rdD"
                have ml := mul_list (c := lt (sn + i / 8)) (n := 1 + i % 8) (by omega)
                refine ⟨_, rfl, by unfold n3; rw [if_pos hf]; exact ml, ?_, rfl⟩
                rw [TL.len_tl, ml, List.length_replicate]; omega
              · walk_at "rdD"
                exact ⟨_, rfl, by unfold n3; rw [if_neg hf]; exact hx, lx, rfl⟩
            · rintro σ' H8 ⟨x, rfl, hx, lx, rfl⟩
              walk_at "rdD"
              refine ⟨.inl ⟨rfl, _, .inl (.inl hp)⟩, ?_⟩
              walk_at "rdD"
              refine ⟨p, _, _, rfl, rfl, hp, by rw [List.length_map]; exact Nat.lt_of_le_of_lt (by omega : U.length ≤ 30) (by decide), ?_⟩
              refine ⟨_, _, U ++ [x], rfl, ?_, by rw [List.length_append, lU]; rfl, by rw [upd_same, List.map_append]; rfl, store_upd hS5 p1 p2, e5.mut (e4'.free hS4 np)⟩
              rw [List.map_append, hU, List.range_succ, List.map_append]
              simp [hx]
      · rintro σ H5 ⟨y, y2, U, rfl, hU, lU, hp, hS5, e5⟩
        have lU : U.length = m := by simpa using lU
        have hU : U.map TL.tl = (List.range m).map (n3 fam sn rn (TL.tl z)) := by simpa using hU
        have dU := names_nodup hU hm
        have gU := names_good hU hm hz (by omega)
        walk_at "rdD"
        refine ⟨S, p, _, rfl, hS5, ⟨p1, hp⟩, by rw [List.length_map]; omega, fun q ys H6 hperm nq hq hS6 e6 => ?_⟩
        obtain ⟨W, rfl, hW⟩ : ∃ W : List Str, ys = W.map V.str ∧ W.Perm U := perm_strs hperm
        exact h q W H6 (fun z hz => gU z (hW.mem_iff.mp hz)) (hW.nodup_iff.mpr dU) (by rw [hW.length_eq]; exact lU) (e5.free hS5 nq) hq hS6 (e5.trans e6)
end
abbrev s_law_clamped : Stmt := topS 47
theorem sc_law_clamped : FnScope ["number"] ["number"] (defScope s_law_clamped) := ⟨rfl, rfl, rfl, by decide +kernel, rfl, by decide +kernel, by decide +kernel⟩
abbrev s_law_near : Stmt := topS 48
theorem sc_law_near : FnScope ["store", "pool"] ["store", "pool"] (defScope s_law_near) := ⟨rfl, rfl, rfl, by decide +kernel, rfl, by decide +kernel, by decide +kernel⟩
abbrev s_law_bar : Stmt := topS 50
theorem sc_law_bar : FnScope ["store", "pool", "kind"] ["store", "pool"] (defScope s_law_bar) := ⟨rfl, rfl, rfl, by decide +kernel, rfl, by decide +kernel, by decide +kernel⟩
local macro_rules | `(tactic| walk_at "sideE") => `(tactic| first | assumption | exact Z.sl_of (by assumption) | exact upd_same | (show (0 : Int) < _; omega) | exact Or.inl ⟨by omega, by omega⟩ | exact Or.inr ⟨by omega, by omega⟩)
local macro_rules | `(tactic| walk_at "tyofE") => `(tactic| first | exact TyOf.int _ | exact TyOf.bl _ | exact TyOf.non | exact TyOf.str _ | (apply TyOf.lst; assumption) | (apply TyOf.tup; assumption))
local macro_rules | `(tactic| walk_at "rd1E") => `(tactic| ((with_reducible refine rd_ixL (xs := ?xs) (v := ?v) ?hh ?he ?_); (case hh => first | exact upd_same | assumption); (case he => exact rfl)))
local macro_rules | `(tactic| walk_at "rd1E") => `(tactic| ((with_reducible refine rd_I ?hc ?_); (case hc => walk_at "sideE")))
local macro_rules | `(tactic| walk_at "rd1E") => `(tactic| ((with_reducible refine rd_isiT (b := ?b) (by assumption) ?k ?_); (case k => with_reducible first | exact kb_tuple_int | exact kb_tuple_bool | exact kb_tuple_str | exact kb_tuple_dict | exact kb_tuple_list | exact kb_tuple_tuple)))
local macro_rules | `(tactic| walk_at "rd1E") => `(tactic| ((with_reducible refine rd_isiL (b := ?b) (by assumption) ?k ?_); (case k => with_reducible first | exact kb_list_int | exact kb_list_bool | exact kb_list_str | exact kb_list_dict | exact kb_list_list | exact kb_list_tuple)))
local macro_rules | `(tactic| walk_at "rd1E") => `(tactic| ((with_reducible refine rd_isi (a := ?a) (b := ?b) ?ty ?k ?_); (case ty => first | exact TyOf.int _ | exact TyOf.bl _ | exact TyOf.non | exact TyOf.str _); (case k => with_reducible first | exact kb_int_int | exact kb_int_bool | exact kb_int_str | exact kb_int_dict | exact kb_int_list | exact kb_int_tuple | exact kb_bool_int | exact kb_bool_bool | exact kb_bool_str | exact kb_bool_dict | exact kb_bool_list | exact kb_bool_tuple | exact kb_NoneType_int | exact kb_NoneType_bool | exact kb_NoneType_str | exact kb_NoneType_dict | exact kb_NoneType_list | exact kb_NoneType_tuple | exact kb_str_int | exact kb_str_bool | exact kb_str_str | exact kb_str_dict | exact kb_str_list | exact kb_str_tuple)))
local macro_rules | `(tactic| walk_at "rd1E") => `(tactic| ((with_reducible refine rd_setS (j := ?j) ?he ?_); (case he => exact rfl)))
local macro_rules | `(tactic| walk_at "rd1E") => `(tactic| ((with_reducible refine rd_var (v := ?v) ?hv ?_); (case hv => exact rfl)))
local macro_rules | `(tactic| walk_at "rd1E") => `(tactic| with_reducible refine rd_smI ?_)
local macro_rules | `(tactic| walk_at "rd1E") => `(tactic| with_reducible refine rd_smK ?_)
local macro_rules | `(tactic| walk_at "rd1E") => `(tactic| with_reducible refine rd_sm ?_)
local macro_rules | `(tactic| walk_at "rd1E") => `(tactic| with_reducible refine rd_prop ?_)
local macro_rules | `(tactic| walk_at "rd1E") => `(tactic| with_reducible refine rd_st2 ?_)
local macro_rules | `(tactic| walk_at "rd1E") => `(tactic| with_reducible refine rd_nl ?_)
local macro_rules | `(tactic| walk_at "rd1E") => `(tactic| with_reducible refine rd_st1 ?_)
local macro_rules | `(tactic| walk_at "rd1E") => `(tactic| with_reducible refine rd_fmt ?_)
local macro_rules | `(tactic| walk_at "rd1E") => `(tactic| with_reducible refine rd_js0 ?_)
local macro_rules | `(tactic| walk_at "rd1E") => `(tactic| with_reducible refine rd_js ?_)
local macro_rules | `(tactic| walk_at "rd1E") => `(tactic| with_reducible refine rd_neS ?_)
local macro_rules | `(tactic| walk_at "rd1E") => `(tactic| with_reducible refine rd_isS ?_)
local macro_rules | `(tactic| walk_at "rd1E") => `(tactic| with_reducible refine rd_m1 ?_)
local macro_rules | `(tactic| walk_at "rd1E") => `(tactic| with_reducible refine rd_m0 ?_)
local macro_rules | `(tactic| walk_at "rd1E") => `(tactic| with_reducible refine rd_pass ?_)
local macro_rules | `(tactic| walk_at "rd1E") => `(tactic| with_reducible refine rd_raise ?_)
local macro_rules | `(tactic| walk_at "rd1E") => `(tactic| with_reducible refine rd_iSeq ?_)
local macro_rules | `(tactic| walk_at "rd1E") => `(tactic| with_reducible refine rd_iStr ?_)
local macro_rules | `(tactic| walk_at "rd1E") => `(tactic| with_reducible refine rd_si ?_)
local macro_rules | `(tactic| walk_at "rd1E") => `(tactic| with_reducible refine rd_ii ?_)
local macro_rules | `(tactic| walk_at "rd1E") => `(tactic| with_reducible refine rd_callSD ?_)
local macro_rules | `(tactic| walk_at "rd1E") => `(tactic| with_reducible refine rd_callNS ?_)
local macro_rules | `(tactic| walk_at "rd1E") => `(tactic| with_reducible refine rd_yes ?_)
local macro_rules | `(tactic| walk_at "rd1E") => `(tactic| with_reducible refine rd_dnotin ?_)
local macro_rules | `(tactic| walk_at "rd1E") => `(tactic| with_reducible refine rd_dput ?_)
local macro_rules | `(tactic| walk_at "rd1E") => `(tactic| with_reducible refine rd_dnewK ?_)
local macro_rules | `(tactic| walk_at "rd1E") => `(tactic| with_reducible refine rd_lrv ?_)
local macro_rules | `(tactic| walk_at "rd1E") => `(tactic| with_reducible refine rd_makeS ?_)
local macro_rules | `(tactic| walk_at "rd1E") => `(tactic| with_reducible refine rd_make ?_)
local macro_rules | `(tactic| walk_at "rd1E") => `(tactic| with_reducible refine rd_sfld ?_)
local macro_rules | `(tactic| walk_at "rd1E") => `(tactic| with_reducible refine rd_fld ?_)
local macro_rules | `(tactic| walk_at "rd1E") => `(tactic| with_reducible refine rd_i1 ?_)
local macro_rules | `(tactic| walk_at "rd1E") => `(tactic| with_reducible refine rd_s1 ?_)
local macro_rules | `(tactic| walk_at "rd1E") => `(tactic| with_reducible refine rd_ss ?_)
local macro_rules | `(tactic| walk_at "rd1E") => `(tactic| with_reducible refine rd_p40 ?_)
local macro_rules | `(tactic| walk_at "rd1E") => `(tactic| with_reducible refine rd_p30 ?_)
local macro_rules | `(tactic| walk_at "rd1E") => `(tactic| with_reducible refine rd_p18 ?_)
local macro_rules | `(tactic| walk_at "rd1E") => `(tactic| with_reducible refine rd_p13 ?_)
local macro_rules | `(tactic| walk_at "rd1E") => `(tactic| with_reducible refine rd_p12 ?_)
local macro_rules | `(tactic| walk_at "rd1E") => `(tactic| with_reducible refine rd_p11 ?_)
local macro_rules | `(tactic| walk_at "rd1E") => `(tactic| with_reducible refine rd_p9 ?_)
local macro_rules | `(tactic| walk_at "rd1E") => `(tactic| with_reducible refine rd_xf ?_)
local macro_rules | `(tactic| walk_at "rd1E") => `(tactic| with_reducible refine rd_ckw ?_)
local macro_rules | `(tactic| walk_at "rd1E") => `(tactic| with_reducible refine rd_mkO ?_)
local macro_rules | `(tactic| walk_at "rd1E") => `(tactic| with_reducible refine rd_callKS ?_)
local macro_rules | `(tactic| walk_at "rd1E") => `(tactic| with_reducible refine rd_callS ?_)
local macro_rules | `(tactic| walk_at "rd1E") => `(tactic| with_reducible refine rd_lc ?_)
local macro_rules | `(tactic| walk_at "rd1E") => `(tactic| with_reducible refine rd_iTup ?_)
local macro_rules | `(tactic| walk_at "rd1E") => `(tactic| with_reducible refine rd_iList ?_)
local macro_rules | `(tactic| walk_at "rd1E") => `(tactic| with_reducible refine rd_iRng1 ?_)
local macro_rules | `(tactic| walk_at "rd1E") => `(tactic| with_reducible refine rd_for ?_)
local macro_rules | `(tactic| walk_at "rd1E") => `(tactic| with_reducible refine rd_nopart ?_)
local macro_rules | `(tactic| walk_at "rd1E") => `(tactic| with_reducible refine rd_part ?_)
local macro_rules | `(tactic| walk_at "rd1E") => `(tactic| with_reducible refine rd_neB ?_)
local macro_rules | `(tactic| walk_at "rd1E") => `(tactic| with_reducible refine rd_eqS ?_)
local macro_rules | `(tactic| walk_at "rd1E") => `(tactic| with_reducible refine rd_eqB ?_)
local macro_rules | `(tactic| walk_at "rd1E") => `(tactic| with_reducible refine if_nN_ref ?_)
local macro_rules | `(tactic| walk_at "rd1E") => `(tactic| with_reducible refine if_nN_str ?_)
local macro_rules | `(tactic| walk_at "rd1E") => `(tactic| with_reducible refine if_nN_bl ?_)
local macro_rules | `(tactic| walk_at "rd1E") => `(tactic| with_reducible refine if_nN_int ?_)
local macro_rules | `(tactic| walk_at "rd1E") => `(tactic| with_reducible refine if_n_ref ?_)
local macro_rules | `(tactic| walk_at "rd1E") => `(tactic| with_reducible refine if_n_str ?_)
local macro_rules | `(tactic| walk_at "rd1E") => `(tactic| with_reducible refine if_n_bl ?_)
local macro_rules | `(tactic| walk_at "rd1E") => `(tactic| with_reducible refine if_n_int ?_)
local macro_rules | `(tactic| walk_at "rd1E") => `(tactic| with_reducible refine if_nnN ?_)
local macro_rules | `(tactic| walk_at "rd1E") => `(tactic| with_reducible refine if_nt ?_)
local macro_rules | `(tactic| walk_at "rd1E") => `(tactic| with_reducible refine if_nf ?_)
local macro_rules | `(tactic| walk_at "rd1E") => `(tactic| with_reducible refine if_nn ?_)
local macro_rules | `(tactic| walk_at "rd1E") => `(tactic| with_reducible refine iteF ?_)
local macro_rules | `(tactic| walk_at "rd1E") => `(tactic| with_reducible refine iteT ?_)
local macro_rules | `(tactic| walk_at "rd1E") => `(tactic| with_reducible refine rd_asgS ?_)
local macro_rules | `(tactic| walk_at "rd1E") => `(tactic| with_reducible refine rd_chain ?_)
local macro_rules | `(tactic| walk_at "rd1E") => `(tactic| with_reducible refine rd_bm ?_)
local macro_rules | `(tactic| walk_at "rd1E") => `(tactic| with_reducible refine rd_sl ?_)
local macro_rules | `(tactic| walk_at "rd1E") => `(tactic| with_reducible refine rd_tup ?_)
local macro_rules | `(tactic| walk_at "rd1E") => `(tactic| with_reducible refine rd_lst ?_)
local macro_rules | `(tactic| walk_at "rd1E") => `(tactic| with_reducible refine rd_neI ?_)
local macro_rules | `(tactic| walk_at "rd1E") => `(tactic| with_reducible refine rd_if ?_)
local macro_rules | `(tactic| walk_at "rd1E") => `(tactic| with_reducible refine rd_notV ?_)
local macro_rules | `(tactic| walk_at "rd1E") => `(tactic| with_reducible refine rd_orV ?_)
local macro_rules | `(tactic| walk_at "rd1E") => `(tactic| with_reducible refine rd_andV ?_)
local macro_rules | `(tactic| walk_at "rd1E") => `(tactic| with_reducible refine rd_drop ?_)
local macro_rules | `(tactic| walk_at "rd1E") => `(tactic| with_reducible refine rd_next ?_)
local macro_rules | `(tactic| walk_at "rd1E") => `(tactic| with_reducible refine rd_U ?_)
local macro_rules | `(tactic| walk_at "rd1E") => `(tactic| with_reducible refine rd_un ?_)
local macro_rules | `(tactic| walk_at "rd1E") => `(tactic| with_reducible refine rd_or ?_)
local macro_rules | `(tactic| walk_at "rd1E") => `(tactic| with_reducible refine rd_and ?_)
local macro_rules | `(tactic| walk_at "rd1E") => `(tactic| with_reducible refine rd_not ?_)
local macro_rules | `(tactic| walk_at "rd1E") => `(tactic| with_reducible refine rd_tB ?_)
local macro_rules | `(tactic| walk_at "rd1E") => `(tactic| with_reducible refine rd_test ?_)
local macro_rules | `(tactic| walk_at "rd1E") => `(tactic| with_reducible refine rd_ifS ?_)
local macro_rules | `(tactic| walk_at "rd1E") => `(tactic| with_reducible refine rd_ret ?_)
local macro_rules | `(tactic| walk_at "rd1E") => `(tactic| with_reducible refine rd_min2 ?_)
local macro_rules | `(tactic| walk_at "rd1E") => `(tactic| with_reducible refine rd_max2 ?_)
local macro_rules | `(tactic| walk_at "rd1E") => `(tactic| with_reducible refine rd_int1 ?_)
local macro_rules | `(tactic| walk_at "rd1E") => `(tactic| with_reducible refine rd_nn ?_)
local macro_rules | `(tactic| walk_at "rd1E") => `(tactic| with_reducible refine rd_bx ?_)
local macro_rules | `(tactic| walk_at "rd1E") => `(tactic| with_reducible refine rd_eqI ?_)
local macro_rules | `(tactic| walk_at "rd1E") => `(tactic| with_reducible refine rd_I0 ?_)
local macro_rules | `(tactic| walk_at "rd1E") => `(tactic| with_reducible refine rd_call ?_)
local macro_rules | `(tactic| walk_at "rd1E") => `(tactic| with_reducible refine rd_cb ?_)
local macro_rules | `(tactic| walk_at "rd1E") => `(tactic| with_reducible refine rd_nil ?_)
local macro_rules | `(tactic| walk_at "rd1E") => `(tactic| with_reducible refine rd_cons ?_)
local macro_rules | `(tactic| walk_at "rd1E") => `(tactic| with_reducible refine rd_op ?_)
local macro_rules | `(tactic| walk_at "rd1E") => `(tactic| with_reducible refine rd_c ?_)
local macro_rules | `(tactic| walk_at "rd1E") => `(tactic| with_reducible refine rd_asg ?_)
local macro_rules | `(tactic| walk_at "rd1E") => `(tactic| with_reducible refine rd_seq ?_)
local macro_rules | `(tactic| walk_at "rdE") => `(tactic| repeat walk_at "rd1E")
def isOpen : V → Bool
  | .non => true
  | v => isNum v
def NI (v : V) : Prop := v = .non ∨ ∃ i, v = .int i
def crossed : V → V → Bool
  | .int i, .int j => decide (j < i)
  | _, _ => false
def OpE (v : V) : Prop := NI v ∧ isOpen v = true
theorem OpE.sc {v : V} (h : OpE v) : Sc v := by
  rcases h.1 with rfl | ⟨n, rfl⟩ <;> trivial
def Bar (v : V) : Prop := v = .non ∨ ∃ n, v = .int n ∧ InR n
theorem Bar.op {v : V} (h : Bar v) : OpE v := by
  rcases h with rfl | ⟨n, rfl, h⟩
  · exact ⟨.inl rfl, rfl⟩
  · exact ⟨.inr ⟨n, rfl⟩, decide_eq_true h⟩
section
variable {P : Program} {w : World} {K : PySem.W.Frag} {mg : Str → Option Value} {base : Heap}
def spClamped : Sp := fun vs H Q _ => ∃ n, vs = [.int n] ∧ ∀ m, InR m → (InR n → m = n) → Q (.int m) H
theorem ok_clamped {k : Nat} {f : Addr} {fd : FuncData} (F : Fun K "_law_clamped" "_law_clamped" s_law_clamped f fd) (T : Blt mg) : FnOk P w K mg base CX0 (k + 1) f fd ["number"] spClamped := by
  refine F.ok sc_law_clamped (fun vs H Q E h => ?_) (fun cdv A outer s H vs Q E hr h => ?_)
  · obtain ⟨n, rfl, _⟩ := h; rfl
  · obtain ⟨n, rfl, h⟩ := h
    refine ⟨_, (pss_one (ps_ret (pe_callB (call_max2 rfl) (by rfl) T.max (by decide +kernel) (pa_cons (pe_un un_neg (pe_op op_pow pe_int pe_int)) (pa_cons (pe_callB (call_min2 rfl) (by rfl) T.min (by decide +kernel) (pa_cons (pe_op op_pow pe_int pe_int) (pa_cons (pv 0) pa_nil))) pa_nil))))), ?_⟩
    walk_at "rdE"
    refine h _ ?_ (fun hn => ?_)
    · unfold InR; split <;> split <;> omega
    · unfold InR at hn; split <;> split <;> omega
def spNear : Sp := fun vs H Q _ => ∃ S : Sto, ∃ p, ∃ ns : List Int, vs = [.ref S.1, .ref p] ∧ StoreOk S H ∧ At S H p (.lst (ns.map V.int)) ∧ 0 < ns.length ∧ ns.length < 1000 ∧ ∀ n H', InR n → StoreOk S H' → ExS S H H' → Q (.int n) H'
theorem ok_near {k : Nat} {f : Addr} {fd : FuncData} (F : Fun K "_law_near" "_law_near" s_law_near f fd) (T : Blt mg) (H_law_take : Has P w K mg base "_law_take" k ["store", "many"] spTake) (H_law_pick : Has P w K mg base "_law_pick" k ["store", "items"] spPick) (H_law_clamped : Has P w K mg base "_law_clamped" k ["number"] spClamped) : FnOk P w K mg base CX0 (k + 1) f fd ["store", "pool"] spNear := by
  refine F.ok sc_law_near (fun vs H Q E h => ?_) (fun cdv A outer s H vs Q E hr h => ?_)
  · obtain ⟨S, p, ns, rfl, _⟩ := h; rfl
  · obtain ⟨S, p, ns, rfl, hS, hA, l0, l1, h⟩ := h
    refine ⟨_, (pss_one (ps_ret (pe_callH H_law_clamped hr (by rfl) (pa_cons (pe_op op_add (pe_callH H_law_pick hr (by rfl) (pa_cons (pv 0) (pa_cons (pv 1) pa_nil))) (pe_ix ix_list (pe_lst (pa_cons pe_int (pa_cons pe_int (pa_cons pe_int (pa_cons (pe_un un_neg pe_int) pa_nil))))) (pe_callH H_law_take hr (by rfl) (pa_cons (pv 0) (pa_cons pe_int pa_nil))) (fun _ _ => rfl))) pa_nil)))), ?_⟩
    walk_at "rdE"
    refine ⟨S, _, rfl, hS, .inl ⟨p, _, rfl, hA, by simpa using l0, by rw [List.length_map]; omega, fun v H1 hv hS1 e1 => ?_⟩⟩
    obtain ⟨n, hn, rfl⟩ := List.mem_map.mp hv
    walk_at "rdE"
    refine ⟨sz (by simp), fun q nq => ?_⟩
    walk_at "rdE"
    refine ⟨S, 4, rfl, by omega, hS1.new nq, fun r H2 r0 r1 hS2 e2 => ?_⟩
    have hq := e2 _ _ (hS1.ne1 nq) upd_same
    have e3 := e1.trans ((ExS.new nq).trans e2)
    obtain ⟨hb, en⟩ := atI_get (xs := [V.int 0, .int 0, .int 1, .int (-1)]) (i := r) r0 (by simp; omega)
    refine rd_ixL hq en ?_
    obtain ⟨d, hd⟩ : ∃ d, [V.int 0, .int 0, .int 1, .int (-1)][r.toNat] = .int d := by
      have : r.toNat = 0 ∨ r.toNat = 1 ∨ r.toNat = 2 ∨ r.toNat = 3 := by omega
      rcases this with e | e | e | e <;> simp only [e] <;> exact ⟨_, rfl⟩
    rw [hd]
    walk_at "rdE"
    refine ⟨_, rfl, fun m hm _ => ?_⟩
    exact h m H2 hm hS2 e3
def spBar : Sp := fun vs H Q _ => ∃ S : Sto, ∃ p, ∃ ns : List Int, vs = [.ref S.1, .ref p] ∧ StoreOk S H ∧ At S H p (.lst (ns.map V.int)) ∧ (∀ n ∈ ns, InR n) ∧ 0 < ns.length ∧ ns.length < 1000 ∧ ∀ v H', Bar v → StoreOk S H' → ExS S H H' → Q v H'
theorem ok_bar {k : Nat} {f : Addr} {fd : FuncData} (F : Fun K "_law_bar" "_law_bar" s_law_bar f fd) (T : Blt mg) (H_law_take : Has P w K mg base "_law_take" k ["store", "many"] spTake) (H_law_near : Has P w K mg base "_law_near" k ["store", "pool"] spNear) (H_law_pick : Has P w K mg base "_law_pick" k ["store", "items"] spPick) : FnOk P w K mg base CX0 (k + 1) f fd ["store", "pool"] spBar := by
  refine F.ok sc_law_bar (fun vs H Q E h => ?_) (fun cdv A outer s H vs Q E hr h => ?_)
  · obtain ⟨S, p, ns, rfl, _⟩ := h; rfl
  · obtain ⟨S, p, ns, rfl, hS, hA, hns, l0, l1, h⟩ := h
    refine ⟨_, (pss_cons (ps_set (i := 2) sc_law_bar.nd rfl (.inl rfl) (pe_callH H_law_take hr (by rfl) (pa_cons (pv 0) (pa_cons pe_int pa_nil))))
 (pss_cons (ps_if (pt_cmpR op_lt (pv 2) pe_int (nomark _)) (pss_one (ps_ret pe_non)) pss_nil)
 (pss_cons (ps_if (pt_cmpR op_eq (pv 2) pe_int (nomark _)) (pss_one (ps_ret (pe_callH H_law_near hr (by rfl) (pa_cons (pv 0) (pa_cons (pv 1) pa_nil))))) pss_nil)
 (pss_one (ps_ret (pe_callH H_law_pick hr (by rfl) (pa_cons (pv 0) (pa_cons (pv 1) pa_nil)))))))), ?_⟩
    walk_at "rdE"
    refine ⟨S, 4, rfl, by omega, hS, fun r H1 r0 r1 hS1 e1 => ?_⟩
    walk_at "rdE"
    refine if_dec (fun hk => ?_) (fun hk => ?_)
    · walk_at "rdE"
      exact h _ _ (.inl rfl) hS1 e1
    · walk_at "rdE"
      refine if_dec (fun hk => ?_) (fun hk => ?_)
      · walk_at "rdE"
        exact ⟨S, p, ns, rfl, hS1, hA.back e1, l0, l1, fun n H2 hn hS2 e2 => h _ _ (.inr ⟨n, rfl, hn⟩) hS2 (e1.trans e2)⟩
      · walk_at "rdE"
        refine ⟨S, _, rfl, hS1, .inl ⟨p, _, rfl, hA.back e1, by simpa using l0, by rw [List.length_map]; omega, fun v H2 hv hS2 e2 => ?_⟩⟩
        obtain ⟨n, hn, rfl⟩ := List.mem_map.mp hv
        exact h _ _ (.inr ⟨n, rfl, hns n hn⟩) hS2 (e1.trans e2)
end
abbrev s_law_ends : Stmt := topS 51
theorem sc_law_ends : FnScope ["store", "pool", "kind", "one", "other"] ["store", "pool"] (defScope s_law_ends) := ⟨rfl, rfl, rfl, by decide +kernel, rfl, by decide +kernel, by decide +kernel⟩
section
variable {P : Program} {w : World} {K : PySem.W.Frag} {mg : Str → Option Value} {base : Heap} {C : Addr}
def spEnds : Sp := fun vs H Q _ => ∃ S : Sto, ∃ p, ∃ ns : List Int, vs = [.ref S.1, .ref p] ∧ StoreOk S H ∧ At S H p (.lst (ns.map V.int)) ∧ 0 < ns.length ∧ ns.length < 1000 ∧
  ∀ q l h H', Bar l → Bar h → crossed l h = false → H q = none → At S H' q (.tup [l, h]) → StoreOk S H' → ExS S H H' → Q (.ref q) H'
theorem exs_free {S : Sto} {H H2 : Hp} {u : Addr} (e : ExS S H H2) (hS : StoreOk S H2) (n : H2 u = none) : H u = none := by
  cases q : H u with
  | none => rfl
  | some o => rw [e u o (hS.ne1 n) q] at n; cases n
theorem ok_ends {k : Nat} {f : Addr} {fd : FuncData} (F : Fun K "_law_ends" "_law_ends" s_law_ends f fd) (T : Blt mg) (H_law_take : Has P w K mg base "_law_take" k ["store", "many"] spTake) (H_law_near : Has P w K mg base "_law_near" k ["store", "pool"] spNear) : FnOk P w K mg base CX0 (k + 1) f fd ["store", "pool"] spEnds := by
  refine F.ok sc_law_ends (fun vs H Q E h => ?_) (fun cdv A outer s H vs Q E hr h => ?_)
  · obtain ⟨S, p, ns, rfl, _⟩ := h; rfl
  · obtain ⟨S, p, ns, rfl, hS, hA, l0, l1, h⟩ := h
    refine ⟨_, (pss_cons (ps_set (i := 2) sc_law_ends.nd rfl (.inl rfl) (pe_callH H_law_take hr (by rfl) (pa_cons (pv 0) (pa_cons pe_int pa_nil))))
 (pss_cons (ps_if (pt_cmpR op_lt (pv 2) pe_int (nomark _)) (pss_one (ps_ret (pe_tup (pa_cons pe_non (pa_cons pe_non pa_nil))))) pss_nil)
 (pss_cons (ps_set (i := 3) sc_law_ends.nd rfl (.inl rfl) (pe_callH H_law_near hr (by rfl) (pa_cons (pv 0) (pa_cons (pv 1) pa_nil))))
 (pss_cons (ps_if (pt_cmpR op_eq (pv 2) pe_int (nomark _)) (pss_one (ps_ret (pe_tup (pa_cons pe_non (pa_cons (pv 3) pa_nil))))) pss_nil)
 (pss_cons (ps_if (pt_cmpR op_eq (pv 2) pe_int (nomark _)) (pss_one (ps_ret (pe_tup (pa_cons (pv 3) (pa_cons pe_non pa_nil))))) pss_nil)
 (pss_cons (ps_if (pt_cmpR op_eq (pv 2) pe_int (nomark _)) (pss_one (ps_ret (pe_tup (pa_cons (pv 3) (pa_cons (pv 3) pa_nil))))) pss_nil)
 (pss_cons (ps_set (i := 4) sc_law_ends.nd rfl (.inl rfl) (pe_callH H_law_near hr (by rfl) (pa_cons (pv 0) (pa_cons (pv 1) pa_nil))))
 (pss_one (ps_ret (pe_tup (pa_cons (pe_callB (call_min2 rfl) (by rfl) T.min (by decide +kernel) (pa_cons (pv 3) (pa_cons (pv 4) pa_nil))) (pa_cons (pe_callB (call_max2 rfl) (by rfl) T.max (by decide +kernel) (pa_cons (pv 3) (pa_cons (pv 4) pa_nil))) pa_nil)))))))))))), ?_⟩
    have fin : ∀ {H1 : Hp} {l hh : V}, Bar l → Bar hh → crossed l hh = false → StoreOk S H1 → ExS S H H1 → [l, hh].length ≤ sizeLine ∧ ∀ q, H1 q = none → Q (.ref q) (upd H1 q (.tup [l, hh])) := fun {H1 l hh} b1 b2 c hS1 e1 =>
      ⟨sz (by simp), fun q nq => h q l hh _ b1 b2 c (exs_free e1 hS1 nq) (.new hS1 nq) (hS1.new nq) (e1.trans (ExS.new nq))⟩
    walk_at "rdB"
    refine ⟨S, 6, rfl, by omega, hS, fun r H1 r0 r1 hS1 e1 => ?_⟩
    walk_at "rdB"
    refine if_dec (fun hk => ?_) (fun hk => ?_)
    · walk_at "rdB"
      exact fin (.inl rfl) (.inl rfl) rfl hS1 e1
    · walk_at "rdB"
      refine ⟨S, p, ns, rfl, hS1, hA.back e1, l0, l1, fun n H2 hn hS2 e2 => ?_⟩
      have e2' := e1.trans e2
      walk_at "rdB"
      refine if_dec (fun hk2 => ?_) (fun hk2 => ?_)
      · walk_at "rdB"
        exact fin (.inl rfl) (.inr ⟨n, rfl, hn⟩) rfl hS2 e2'
      · walk_at "rdB"
        refine if_dec (fun hk3 => ?_) (fun hk3 => ?_)
        · walk_at "rdB"
          exact fin (.inr ⟨n, rfl, hn⟩) (.inl rfl) rfl hS2 e2'
        · walk_at "rdB"
          refine if_dec (fun hk5 => ?_) (fun hk5 => ?_)
          · walk_at "rdB"
            exact fin (.inr ⟨n, rfl, hn⟩) (.inr ⟨n, rfl, hn⟩) (decide_eq_false (by omega)) hS2 e2'
          · walk_at "rdB"
            refine ⟨S, p, ns, rfl, hS2, hA.back e2', l0, l1, fun m H3 hm hS3 e3 => ?_⟩
            walk_at "rdB"
            refine fin (.inr ⟨_, rfl, ?_⟩) (.inr ⟨_, rfl, ?_⟩) (decide_eq_false ?_) hS3 (e2'.trans e3)
            all_goals unfold InR at *
            all_goals (repeat' split)
            all_goals omega
end
abbrev s_law_edges : Stmt := topS 60
theorem sc_law_edges : FnScope ["store", "posts", "labels", "pool", "edges", "chain", "k", "one", "other", "ends", "kept", "span"] ["store", "posts", "labels", "pool"] (defScope s_law_edges) := ⟨rfl, rfl, rfl, by decide +kernel, rfl, by decide +kernel, by decide +kernel⟩
/-- a bond's row, and where it lies -/
structure Edg where
  a : Addr
  (n x y : Str)
  (l h : V)
def Edg.row (e : Edg) : List V := [.str e.n, .str e.x, .str e.y, e.l, e.h]
structure EdOk (P : List Str) (e : Edg) : Prop where
  x : e.x ∈ P
  y : e.y ∈ P
  ne : P.Nodup → e.x ≠ e.y
  bl : Bar e.l
  bh : Bar e.h
  nc : crossed e.l e.h = false
section
variable {P : Program} {w : World} {K : PySem.W.Frag} {mg : Str → Option Value} {base : Heap}
theorem str_at {U : List Str} {i : Int} (h0 : 0 ≤ i) (h1 : i < U.length) : ∃ (hb : i.toNat < U.length), atI (U.map V.str) i = some (.str U[i.toNat]) := by
  obtain ⟨hb, e⟩ := atI_get (xs := U.map V.str) (i := i) h0 (by rw [List.length_map]; exact h1)
  have hb' : i.toNat < U.length := by rw [List.length_map] at hb; exact hb
  exact ⟨hb', by rw [e]; simp⟩
theorem nodup_get {U : List Str} (h : U.Nodup) {i j : Nat} (hi : i < U.length) (hj : j < U.length) (e : U[i] = U[j]) : i = j := by
  have p := List.pairwise_iff_getElem.mp (List.nodup_iff_pairwise_ne.mp h)
  rcases Nat.lt_trichotomy i j with q | q | q
  · exact absurd e (p i j hi hj q)
  · exact q
  · exact absurd e.symm (p j i hj hi q)
def spEdges : Sp := fun vs H Q _ => ∃ S : Sto, ∃ (pa la qa : Addr) (U W : List Str) (ns : List Int), vs = [.ref S.1, .ref pa, .ref la, .ref qa] ∧ StoreOk S H ∧ At S H pa (.lst (U.map V.str)) ∧ At S H la (.lst (W.map V.str)) ∧ At S H qa (.lst (ns.map V.int)) ∧ U.length ≤ 26 ∧ W.length ≤ 26 ∧ 0 < ns.length ∧ ns.length < 1000 ∧
  ∀ (p : Addr) (Es : List Edg) (H' : Hp), (∀ e ∈ Es, EdOk U e) → (Es = [] ∨ Es.map (·.n) = W) → H p = none → At S H' p (.lst (Es.map fun e => V.ref e.a)) → (∀ e ∈ Es, At S H' e.a (.tup e.row)) → StoreOk S H' → ExS S H H' → Q (.ref p) H'
theorem ok_edges {k : Nat} {f : Addr} {fd : FuncData} (F : Fun K "_law_edges" "_law_edges" s_law_edges f fd) (T : Blt mg) (H_law_take : Has P w K mg base "_law_take" k ["store", "many"] spTake) (H_law_pick : Has P w K mg base "_law_pick" k ["store", "items"] spPick) (H_law_ends : Has P w K mg base "_law_ends" k ["store", "pool"] spEnds) : FnOk P w K mg base CX0 (k + 1) f fd ["store", "posts", "labels", "pool"] spEdges := by
  refine F.ok sc_law_edges (fun vs H Q E h => ?_) (fun cdv A outer s H vs Q E hr h => ?_)
  · obtain ⟨S, pa, la, qa, U, W, ns, rfl, _⟩ := h; rfl
  · obtain ⟨S, pa, la, qa, U, W, ns, rfl, hS, hU, hW, hN, lU, lW, n0, n1, h⟩ := h
    refine ⟨_, (pss_cons (ps_set (i := 4) sc_law_edges.nd rfl (.inl rfl) (pe_lst pa_nil))
 (pss_cons (ps_if (pt_cmpR op_lt (pe_callB call_len_seq (by rfl) T.len (by decide +kernel) (pa_cons (pv 1) pa_nil)) pe_int (nomark _)) (pss_one (ps_ret (pv 4))) pss_nil)
 (pss_cons (ps_set (i := 5) sc_law_edges.nd rfl (.inl rfl) (pe_cmpR op_eq (pe_callH H_law_take hr (by rfl) (pa_cons (pv 0) (pa_cons pe_int pa_nil))) pe_int (nomark _)))
 (pss_cons (ps_for PassesOwn.never rfl (pi_range1 rfl T.range (pa_cons (pe_callB call_len_seq (by rfl) T.len (by decide +kernel) (pa_cons (pv 2) pa_nil)) pa_nil)) (pg_name (i := 6) sc_law_edges.nd rfl (.inl rfl)) (pss_cons (ps_set (i := 7) sc_law_edges.nd rfl (.inl rfl) (pe_callH H_law_take hr (by rfl) (pa_cons (pv 0) (pa_cons (pe_callB call_len_seq (by rfl) T.len (by decide +kernel) (pa_cons (pv 1) pa_nil)) pa_nil))))
 (pss_cons (ps_set (i := 8) sc_law_edges.nd rfl (.inl rfl) (pe_op op_mod (pe_callTy call_int1 (by rfl) T.int (by decide +kernel) (pa_cons (pe_op op_add (pe_op op_add (pv 7) pe_int) (pe_callH H_law_take hr (by rfl) (pa_cons (pv 0) (pa_cons (pe_op op_sub (pe_callB call_len_seq (by rfl) T.len (by decide +kernel) (pa_cons (pv 1) pa_nil)) pe_int) pa_nil)))) pa_nil)) (pe_callB call_len_seq (by rfl) T.len (by decide +kernel) (pa_cons (pv 1) pa_nil))))
 (C8.pss_cut (ps_if (PW.pt (pw_and (pt_val (pv 5)) (pw_and1 (pt_cmpR op_lt (pe_op op_add (pv 6) pe_int) (pe_callB call_len_seq (by rfl) T.len (by decide +kernel) (pa_cons (pv 1) pa_nil)) (nomark _))))) (pss_cons (ps_set (i := 7) sc_law_edges.nd rfl (.inl rfl) (pe_op op_add (pv 6) pe_int))
 (pss_one (ps_set (i := 8) sc_law_edges.nd rfl (.inl rfl) (pe_op op_mod (pe_callTy call_int1 (by rfl) T.int (by decide +kernel) (pa_cons (pv 8) pa_nil)) (pe_op op_add (pv 6) pe_int))))) pss_nil)
 (pss_cons (ps_set (i := 9) sc_law_edges.nd rfl (.inl rfl) (pe_lst (pa_cons (pe_ix ix_list (pv 1) (pv 7) (fun _ _ => rfl)) (pa_cons (pe_ix ix_list (pv 1) (pv 8) (fun _ _ => rfl)) pa_nil))))
 (C8.pss_cut (ps_if (PW.pt (pw_and (pt_cmpR op_gt (pv 6) pe_int (nomark _)) (pw_and1 (pt_cmpR op_eq (pe_callH H_law_take hr (by rfl) (pa_cons (pv 0) (pa_cons pe_int pa_nil))) pe_int (nomark _))))) (pss_cons (ps_set (i := 10) sc_law_edges.nd rfl (.inl rfl) (pe_callH H_law_pick hr (by rfl) (pa_cons (pv 0) (pa_cons (pv 4) pa_nil))))
 (pss_one (ps_set (i := 9) sc_law_edges.nd rfl (.inl rfl) (pe_lst (pa_cons (pe_ix ix_seq (pv 10) pe_int (fun _ _ => rfl)) (pa_cons (pe_ix ix_seq (pv 10) pe_int (fun _ _ => rfl)) pa_nil)))))) pss_nil)
 (pss_cons (ps_set (i := 11) sc_law_edges.nd rfl (.inl rfl) (pe_callH H_law_ends hr (by rfl) (pa_cons (pv 0) (pa_cons (pv 3) pa_nil))))
 (pss_one (ps_expr (pe_bm PySem.F.plainAttrs_list PySem.F.slot_list_append PySem.F.type_list_append mt_append (pv 4) (pa_cons (pe_tup (pa_cons (pe_ix ix_list (pv 2) (pv 6) (fun _ _ => rfl)) (pa_cons (pe_ix ix_list (pv 9) pe_int (fun _ _ => rfl)) (pa_cons (pe_ix ix_list (pv 9) pe_int (fun _ _ => rfl)) (pa_cons (pe_ix ix_seq (pv 11) pe_int (fun _ _ => rfl)) (pa_cons (pe_ix ix_seq (pv 11) pe_int (fun _ _ => rfl)) pa_nil)))))) pa_nil)))))))))))
 (pss_one (ps_ret (pv 4))))))), ?_⟩
    walk_at "rdE"
    refine ⟨sz (by simp), fun ea nea => ?_⟩
    have hS1 := hS.new (o := .lst []) nea
    have e1 := ExS.new (S := S) (o := .lst []) nea
    have p1 := hS.ne1 nea
    have p2 := hS.ne2 nea
    walk_at "rdE"
    refine ⟨pa, _, rfl, .inl (sl_of (hU.back e1).2), ?_⟩
    walk_at "rdE"
    rw [List.length_map]
    refine if_dec (fun hl => ?_) (fun hl => ?_)
    · walk_at "rdE"
      exact h ea [] _ (by simp) (.inl rfl) nea ⟨p1, upd_same⟩ (by simp) hS1 e1
    · walk_at "rdE"
      refine ⟨S, 2, rfl, by omega, hS1, fun ch H2 c0 c1 hS2 e2 => ?_⟩
      have e2' := e1.trans e2
      walk_at "rdE"
      refine ⟨la, _, rfl, .inl (sl_of (hW.back e2').2), ?_⟩
      walk_at "rdE"
      rw [List.length_map]
      refine ⟨by omega, by omega, for_rng (fun i σ H' => ∃ y6 y7 y8 y9 y10 y11, ∃ Es : List Edg, σ = [some (.ref S.1), some (.ref pa), some (.ref la), some (.ref qa), some (.ref ea), some (.bl (decide (ch = 0))), y6, y7, y8, y9, y10, y11] ∧ (∀ e ∈ Es, EdOk U e) ∧ Es.map (·.n) = W.take i ∧ H' ea = some (.lst (Es.map fun e => V.ref e.a)) ∧ (∀ e ∈ Es, At S H' e.a (.tup e.row)) ∧ StoreOk S H' ∧ ExS S H H') ⟨_, _, _, _, _, _, [], rfl, by simp, rfl, e2 _ _ p1 upd_same, by simp, hS2, e2'⟩ ?_ ?_⟩
      · rintro i σ H3 hi ⟨y6, y7, y8, y9, y10, y11, Es, rfl, hE, hn, hea, hEA, hS3, e3⟩
        have hi : i < W.length := by omega
        have lE : Es.length = i := by
          have := congrArg List.length hn
          rw [List.length_map, List.length_take] at this
          omega
        walk_at "rdE"
        refine ⟨pa, _, rfl, .inl (sl_of (hU.back e3).2), ?_⟩
        walk_at "rdE"
        rw [List.length_map]
        refine ⟨S, _, rfl, by omega, hS3, fun o H4 o0 o1 hS4 e4 => ?_⟩
        have e4' := e3.trans e4
        walk_at "rdE"
        refine ⟨pa, _, rfl, .inl (sl_of (hU.back e4').2), ?_⟩
        walk_at "rdE"
        rw [List.length_map]
        refine ⟨S, _, rfl, by omega, hS4, fun t H5 t0 t1 hS5 e5 => ?_⟩
        have e5' := e4'.trans e5
        walk_at "rdE"
        refine ⟨pa, _, rfl, .inl (sl_of (hU.back e5').2), ?_⟩
        walk_at "rdE"
        rw [List.length_map]
        refine ⟨_, _, rfl, rfl, by omega, ?_⟩
        have t2 := Int.emod_nonneg (o + 1 + t) (show (U.length : Int) ≠ 0 by omega)
        have t3 := Int.emod_lt_of_pos (o + 1 + t) (show (0 : Int) < U.length by omega)
        have t4 : (o + 1 + t) % U.length ≠ o := by
          by_cases q : o + 1 + t < U.length
          · rw [Int.emod_eq_of_lt (by omega) q]; omega
          · have : (o + 1 + t) % U.length = o + 1 + t - U.length := by
              rw [← Int.sub_emod_right, Int.emod_eq_of_lt (by omega) (by omega)]
            rw [this]; omega
        have gen : ∀ q : Int, q = (o + 1 + t) % (U.length : Int) → q = (o + 1 + t) % (U.length : Int) := fun _ h => h
        walk_at "rdE"
        refine rd_cut (fun σ' H' => ∃ o t : Int, σ' = [some (.ref S.1), some (.ref pa), some (.ref la), some (.ref qa), some (.ref ea), some (.bl (decide (ch = 0))), some (.int i), some (.int o), some (.int t), y9, y10, y11] ∧ 0 ≤ o ∧ o < U.length ∧ 0 ≤ t ∧ t < U.length ∧ t ≠ o ∧ H' = H5) ?_ ?_
        · walk_at "rdE"
          refine if_dec (fun hc => ?_) (fun hc => ?_)
          · walk_at "rdE"
            refine ⟨pa, _, rfl, .inl (sl_of (hU.back e5').2), ?_⟩
            walk_at "rdE"
            rw [List.length_map]
            refine if_dec (fun hc2 => ?_) (fun hc2 => ?_)
            · walk_at "rdE"
              have t5 := Int.emod_nonneg ((o + 1 + t) % (U.length : Int)) (show (i : Int) + 1 ≠ 0 by omega)
              have t6 := Int.emod_lt_of_pos ((o + 1 + t) % (U.length : Int)) (show (0 : Int) < (i : Int) + 1 by omega)
              exact ⟨_, _, rfl, by omega, by omega, t5, by omega, by omega, rfl⟩
            · walk_at "rdE"
              exact ⟨o, ((o + 1 + t) % (U.length : Int)), rfl, o0, by omega, t2, t3, t4, rfl⟩
          · walk_at "rdE"
            exact ⟨o, ((o + 1 + t) % (U.length : Int)), rfl, o0, by omega, t2, t3, t4, rfl⟩
        · rintro σ' H6 ⟨o, t, rfl, o0, o1, t0, t1, ne, rfl⟩
          have e5'' := e4.trans e5
          have e5 := e5'
          obtain ⟨b1, a1⟩ := str_at o0 o1
          obtain ⟨b2, a2⟩ := str_at t0 t1
          have nxy : U.Nodup → U[o.toNat] ≠ U[t.toNat] := fun dU q => ne (by have := nodup_get dU b1 b2 q; omega)
          have m1 := List.getElem_mem b1
          have m2 := List.getElem_mem b2
          generalize U[o.toNat] = x at a1 nxy m1
          generalize U[t.toNat] = y at a2 nxy m2
          walk_at "rdE"
          refine rd_ixL (hU.back e5).2 a1 ?_
          walk_at "rdE"
          refine rd_ixL (hU.back e5).2 a2 ?_
          walk_at "rdE"
          refine ⟨sz (by simp), fun ga nga => ?_⟩
          have g1 := hS5.ne1 nga
          have s7 := same_new (o := .lst [.str x, .str y]) nga
          have hS7 := hS5.new (o := .lst [.str x, .str y]) nga
          have e7 := e5.trans (ExS.new (S := S) (o := .lst [.str x, .str y]) nga)
          have hea7 := s7 _ _ (e5'' _ _ p1 hea)
          have hEA7 : ∀ e ∈ Es, At S (upd H6 ga (.lst [.str x, .str y])) e.a (.tup e.row) := fun e he => ((hEA e he).back e5'').back (ExS.new nga)
          walk_at "rdE"
          refine rd_cut (fun σ' H' => ∃ (g : Addr) (x y : Str) (y10 : Option V), σ' = [some (.ref S.1), some (.ref pa), some (.ref la), some (.ref qa), some (.ref ea), some (.bl (decide (ch = 0))), some (.int i), some (.int o), some (.int t), some (.ref g), y10, y11] ∧ x ∈ U ∧ y ∈ U ∧ (U.Nodup → x ≠ y) ∧ At S H' g (.lst [.str x, .str y]) ∧ H' ea = some (.lst (Es.map fun e => V.ref e.a)) ∧ (∀ e ∈ Es, At S H' e.a (.tup e.row)) ∧ StoreOk S H' ∧ ExS S H H') ?_ ?_
          · walk_at "rdE"
            refine if_dec (fun hi0 => ?_) (fun hi0 => ?_)
            · walk_at "rdE"
              refine ⟨S, 6, rfl, by omega, hS7, fun r H8 r0 r1 hS8 e8 => ?_⟩
              have hg8 : At S H8 ga (.lst [.str x, .str y]) := ⟨g1, e8 _ _ g1 upd_same⟩
              have hea8 := e8 _ _ p1 hea7
              have hEA8 : ∀ e ∈ Es, At S H8 e.a (.tup e.row) := fun e he => (hEA7 e he).back e8
              walk_at "rdE"
              refine if_dec (fun h5 => ?_) (fun h5 => ?_)
              · walk_at "rdE"
                refine ⟨S, _, rfl, hS8, .inl ⟨ea, _, rfl, ⟨p1, hea8⟩, by rw [List.length_map]; omega, by rw [List.length_map]; omega, fun v H9 hv hS9 e9 => ?_⟩⟩
                obtain ⟨ed, hed, rfl⟩ := List.mem_map.mp hv
                have o := hE ed hed
                have hed9 := ((hEA8 ed hed).back e9).2
                walk_at "rdE"
                refine rd_ixQT hed9 rfl ?_
                walk_at "rdE"
                refine rd_ixQT hed9 rfl ?_
                walk_at "rdE"
                refine ⟨sz (by simp), fun gb ngb => ?_⟩
                exact ⟨gb, ed.y, ed.x, _, rfl, o.y, o.x, fun dU q => o.ne dU q.symm, .new hS9 ngb, same_new ngb _ _ (e9 _ _ p1 hea8), fun e he => ((hEA8 e he).back e9).back (ExS.new ngb), hS9.new ngb, ((e7.trans e8).trans e9).trans (ExS.new ngb)⟩
              · walk_at "rdE"
                exact ⟨ga, x, y, _, rfl, m1, m2, nxy, hg8, hea8, hEA8, hS8, e7.trans e8⟩
            · walk_at "rdE"
              exact ⟨ga, x, y, _, rfl, m1, m2, nxy, ⟨g1, upd_same⟩, hea7, hEA7, hS7, e7⟩
          · rintro σ' H8 ⟨g, x, y, y10, rfl, m1, m2, nxy, hg, hea8, hEA8, hS8, e8⟩
            walk_at "rdE"
            refine ⟨S, qa, ns, rfl, hS8, hN.back e8, n0, n1, fun q l hh H9 bl bh nc nq hq hS9 e9 => ?_⟩
            have e9' := e8.trans e9
            have hea9 := e9 _ _ p1 hea8
            walk_at "rdE"
            refine ⟨.inl ⟨rfl, _, .inl (.inl hea9)⟩, ?_⟩
            walk_at "rdE"
            obtain ⟨b3, a3⟩ := str_at (U := W) (i := (i : Int)) (by omega) (by omega)
            refine rd_ixL (hW.back e9').2 a3 ?_
            walk_at "rdE"
            refine rd_ixL (hg.back e9).2 rfl ?_
            walk_at "rdE"
            refine rd_ixL (hg.back e9).2 rfl ?_
            walk_at "rdE"
            refine rd_ixQT hq.2 rfl ?_
            walk_at "rdE"
            refine rd_ixQT hq.2 rfl ?_
            walk_at "rdE"
            refine ⟨sz (by simp), fun ta nta => ?_⟩
            have hea10 := same_new (o := .tup [.str (W[(i : Int).toNat]), .str x, .str y, l, hh]) nta _ _ hea9
            refine ⟨ea, _, _, rfl, rfl, hea10, by rw [List.length_map]; exact Nat.lt_of_le_of_lt (by omega : Es.length ≤ 26) (by decide), ?_⟩
            have nte : ta ≠ ea := (ne_of_none hea9 nta).symm
            have hSa := hS9.new (o := .tup [.str (W[(i : Int).toNat]), .str x, .str y, l, hh]) nta
            refine ⟨_, _, _, _, _, _, Es ++ [⟨ta, W[(i : Int).toNat], x, y, l, hh⟩], rfl, fun e he => ?_, ?_, by rw [upd_same, List.map_append]; rfl, fun e he => ?_, store_upd hSa p1 p2, (e9'.trans (ExS.new nta)).mut nea⟩
            · rcases List.mem_append.mp he with q1 | q1
              · exact hE e q1
              · rw [List.mem_singleton.mp q1]
                exact ⟨m1, m2, nxy, bl, bh, nc⟩
            · rw [List.map_append, hn, List.take_add_one, List.getElem?_eq_getElem hi]
              simp
            · rcases List.mem_append.mp he with q1 | q1
              · have hx := ((hEA8 e q1).back e9).back (ExS.new (o := .tup [.str (W[(i : Int).toNat]), .str x, .str y, l, hh]) nta)
                have ne2 : e.a ≠ ea := fun q2 => by have := hx.2; rw [q2, hea10] at this; cases this
                exact ⟨hx.1, by rw [upd_ne ne2]; exact hx.2⟩
              · rw [List.mem_singleton.mp q1]
                exact ⟨hS9.ne1 nta, by rw [upd_ne nte]; exact upd_same⟩
      · rintro σ H3 ⟨y6, y7, y8, y9, y10, y11, Es, rfl, hE, hn, hea, hEA, hS3, e3⟩
        walk_at "rdE"
        exact h ea Es H3 hE (.inr (by rw [hn]; simp)) nea ⟨p1, hea⟩ hEA hS3 e3
end
abbrev sBadNumber___init__ : Stmt := inClass (topS 4) 0
theorem scBadNumber___init__ : FnScope ["self", "number"] ["self", "number"] (defScope sBadNumber___init__) := ⟨rfl, rfl, rfl, by decide +kernel, rfl, by decide +kernel, by decide +kernel⟩
abbrev sBadSpan___init__ : Stmt := inClass (topS 5) 0
theorem scBadSpan___init__ : FnScope ["self", "low", "high"] ["self", "low", "high"] (defScope sBadSpan___init__) := ⟨rfl, rfl, rfl, by decide +kernel, rfl, by decide +kernel, by decide +kernel⟩
abbrev sis_number : Stmt := topS 12
theorem scis_number : FnScope ["value"] ["value"] (defScope sis_number) := ⟨rfl, rfl, rfl, by decide +kernel, rfl, by decide +kernel, by decide +kernel⟩
abbrev scheck_number : Stmt := topS 13
theorem sccheck_number : FnScope ["value"] ["value"] (defScope scheck_number) := ⟨rfl, rfl, rfl, by decide +kernel, rfl, by decide +kernel, by decide +kernel⟩
abbrev scheck_open_number : Stmt := topS 14
theorem sccheck_open_number : FnScope ["value"] ["value"] (defScope scheck_open_number) := ⟨rfl, rfl, rfl, by decide +kernel, rfl, by decide +kernel, by decide +kernel⟩
abbrev sare_crossed : Stmt := topS 16
theorem scare_crossed : FnScope ["low", "high"] ["low", "high"] (defScope sare_crossed) := ⟨rfl, rfl, rfl, by decide +kernel, rfl, by decide +kernel, by decide +kernel⟩
abbrev scheck_low_high : Stmt := topS 15
theorem sccheck_low_high : FnScope ["low", "high"] ["low", "high"] (defScope scheck_low_high) := ⟨rfl, rfl, rfl, by decide +kernel, rfl, by decide +kernel, by decide +kernel⟩
abbrev sSpan___init__ : Stmt := inClass (topS 22) 0
theorem scSpan___init__ : FnScope ["self", "low", "high"] ["self", "low", "high"] (defScope sSpan___init__) := ⟨rfl, rfl, rfl, by decide +kernel, rfl, by decide +kernel, by decide +kernel⟩
abbrev sBadName___init__ : Stmt := inClass (topS 3) 0
theorem scBadName___init__ : FnScope ["self", "name"] ["self", "name"] (defScope sBadName___init__) := ⟨rfl, rfl, rfl, by decide +kernel, rfl, by decide +kernel, by decide +kernel⟩
abbrev sis_name : Stmt := topS 31
theorem scis_name : FnScope ["text", "sign"] ["text"] (defScope sis_name) := ⟨rfl, rfl, rfl, by decide +kernel, rfl, by decide +kernel, by decide +kernel⟩
abbrev sDoubled___init__ : Stmt := inClass (topS 6) 0
theorem scDoubled___init__ : FnScope ["self", "name"] ["self", "name"] (defScope sDoubled___init__) := ⟨rfl, rfl, rfl, by decide +kernel, rfl, by decide +kernel, by decide +kernel⟩
abbrev scheck_name : Stmt := topS 32
theorem sccheck_name : FnScope ["text"] ["text"] (defScope scheck_name) := ⟨rfl, rfl, rfl, by decide +kernel, rfl, by decide +kernel, by decide +kernel⟩
abbrev scheck_unlike : Stmt := topS 24
theorem sccheck_unlike : FnScope ["items", "seen", "item"] ["items"] (defScope scheck_unlike) := ⟨rfl, rfl, rfl, by decide +kernel, rfl, by decide +kernel, by decide +kernel⟩
abbrev sSelfBond___init__ : Stmt := inClass (topS 7) 0
theorem scSelfBond___init__ : FnScope ["self", "bond"] ["self", "bond"] (defScope sSelfBond___init__) := ⟨rfl, rfl, rfl, by decide +kernel, rfl, by decide +kernel, by decide +kernel⟩
abbrev sUnknown___init__ : Stmt := inClass (topS 8) 0
theorem scUnknown___init__ : FnScope ["self", "name"] ["self", "name"] (defScope sUnknown___init__) := ⟨rfl, rfl, rfl, by decide +kernel, rfl, by decide +kernel, by decide +kernel⟩
abbrev sOutOfRange___init__ : Stmt := inClass (topS 9) 0
theorem scOutOfRange___init__ : FnScope ["self", "number", "low", "high"] ["self", "number", "low", "high"] (defScope sOutOfRange___init__) := ⟨rfl, rfl, rfl, by decide +kernel, rfl, by decide +kernel, by decide +kernel⟩
abbrev scheck_between : Stmt := topS 25
theorem sccheck_between : FnScope ["number", "low", "high"] ["number", "low", "high"] (defScope scheck_between) := ⟨rfl, rfl, rfl, by decide +kernel, rfl, by decide +kernel, by decide +kernel⟩
abbrev slook_up : Stmt := topS 26
theorem sclook_up : FnScope ["table", "name"] ["table", "name"] (defScope slook_up) := ⟨rfl, rfl, rfl, by decide +kernel, rfl, by decide +kernel, by decide +kernel⟩
local macro_rules | `(tactic| walk_at "sideF") => `(tactic| first | assumption | exact Z.sl_of (by assumption) | exact upd_same | (show (0 : Int) < _; omega) | exact Or.inl ⟨by omega, by omega⟩ | exact Or.inr ⟨by omega, by omega⟩)
local macro_rules | `(tactic| walk_at "wiped") => `(tactic| (repeat rw [Z.wipe_set (by decide)]) <;> first | rfl | exact Z.wipe_wipe)
local macro_rules | `(tactic| walk_at "tyofF") => `(tactic| first | exact TyOf.int _ | exact TyOf.bl _ | exact TyOf.non | exact TyOf.str _ | (apply TyOf.lst; assumption) | (apply TyOf.tup; assumption))
local macro_rules | `(tactic| walk_at "rd1F") => `(tactic| ((with_reducible refine rd_ixL (xs := ?xs) (v := ?v) ?hh ?he ?_); (case hh => first | exact upd_same | assumption); (case he => exact rfl)))
local macro_rules | `(tactic| walk_at "rd1F") => `(tactic| ((with_reducible refine rd_I ?hc ?_); (case hc => walk_at "sideF")))
local macro_rules | `(tactic| walk_at "rd1F") => `(tactic| ((with_reducible refine rd_isiT (b := ?b) (by assumption) ?k ?_); (case k => with_reducible first | exact kb_tuple_int | exact kb_tuple_bool | exact kb_tuple_str | exact kb_tuple_dict | exact kb_tuple_list | exact kb_tuple_tuple)))
local macro_rules | `(tactic| walk_at "rd1F") => `(tactic| ((with_reducible refine rd_isiL (b := ?b) (by assumption) ?k ?_); (case k => with_reducible first | exact kb_list_int | exact kb_list_bool | exact kb_list_str | exact kb_list_dict | exact kb_list_list | exact kb_list_tuple)))
local macro_rules | `(tactic| walk_at "rd1F") => `(tactic| ((with_reducible refine rd_isi (a := ?a) (b := ?b) ?ty ?k ?_); (case ty => first | exact TyOf.int _ | exact TyOf.bl _ | exact TyOf.non | exact TyOf.str _); (case k => with_reducible first | exact kb_int_int | exact kb_int_bool | exact kb_int_str | exact kb_int_dict | exact kb_int_list | exact kb_int_tuple | exact kb_bool_int | exact kb_bool_bool | exact kb_bool_str | exact kb_bool_dict | exact kb_bool_list | exact kb_bool_tuple | exact kb_NoneType_int | exact kb_NoneType_bool | exact kb_NoneType_str | exact kb_NoneType_dict | exact kb_NoneType_list | exact kb_NoneType_tuple | exact kb_str_int | exact kb_str_bool | exact kb_str_str | exact kb_str_dict | exact kb_str_list | exact kb_str_tuple)))
local macro_rules | `(tactic| walk_at "rd1F") => `(tactic| ((with_reducible refine rd_setS (j := ?j) ?he ?_); (case he => exact rfl)))
local macro_rules | `(tactic| walk_at "rd1F") => `(tactic| ((with_reducible refine rd_var (v := ?v) ?hv ?_); (case hv => exact rfl)))
local macro_rules | `(tactic| walk_at "rd1F") => `(tactic| with_reducible refine rd_asgT ?_)
local macro_rules | `(tactic| walk_at "rd1F") => `(tactic| with_reducible refine rd_gNm ?_)
local macro_rules | `(tactic| walk_at "rd1F") => `(tactic| with_reducible refine rd_gN ?_)
local macro_rules | `(tactic| walk_at "rd1F") => `(tactic| with_reducible refine rd_gC ?_)
local macro_rules | `(tactic| walk_at "rd1F") => `(tactic| with_reducible refine rd_frz ?_)
local macro_rules | `(tactic| walk_at "rd1F") => `(tactic| with_reducible refine rd_dc ?_)
local macro_rules | `(tactic| walk_at "rd1F") => `(tactic| with_reducible refine rd_iOwn ?_)
local macro_rules | `(tactic| walk_at "rd1F") => `(tactic| with_reducible refine rd_iItems ?_)
local macro_rules | `(tactic| walk_at "rd1F") => `(tactic| with_reducible refine rd_li ?_)
local macro_rules | `(tactic| walk_at "rd1F") => `(tactic| with_reducible refine rd_din ?_)
local macro_rules | `(tactic| walk_at "rd1F") => `(tactic| with_reducible refine rd_dget ?_)
local macro_rules | `(tactic| walk_at "rd1F") => `(tactic| with_reducible refine rd_mtN ?_)
local macro_rules | `(tactic| walk_at "rd1F") => `(tactic| with_reducible refine rd_mt ?_)
local macro_rules | `(tactic| walk_at "rd1F") => `(tactic| with_reducible refine rd_smI ?_)
local macro_rules | `(tactic| walk_at "rd1F") => `(tactic| with_reducible refine rd_smK ?_)
local macro_rules | `(tactic| walk_at "rd1F") => `(tactic| with_reducible refine rd_sm ?_)
local macro_rules | `(tactic| walk_at "rd1F") => `(tactic| with_reducible refine rd_prop ?_)
local macro_rules | `(tactic| walk_at "rd1F") => `(tactic| with_reducible refine rd_st2 ?_)
local macro_rules | `(tactic| walk_at "rd1F") => `(tactic| with_reducible refine rd_nl ?_)
local macro_rules | `(tactic| walk_at "rd1F") => `(tactic| with_reducible refine rd_st1 ?_)
local macro_rules | `(tactic| walk_at "rd1F") => `(tactic| with_reducible refine rd_fmt ?_)
local macro_rules | `(tactic| walk_at "rd1F") => `(tactic| with_reducible refine rd_js0 ?_)
local macro_rules | `(tactic| walk_at "rd1F") => `(tactic| with_reducible refine rd_js ?_)
local macro_rules | `(tactic| walk_at "rd1F") => `(tactic| with_reducible refine rd_neS ?_)
local macro_rules | `(tactic| walk_at "rd1F") => `(tactic| with_reducible refine rd_isS ?_)
local macro_rules | `(tactic| walk_at "rd1F") => `(tactic| with_reducible refine rd_m1 ?_)
local macro_rules | `(tactic| walk_at "rd1F") => `(tactic| with_reducible refine rd_m0 ?_)
local macro_rules | `(tactic| walk_at "rd1F") => `(tactic| with_reducible refine rd_pass ?_)
local macro_rules | `(tactic| walk_at "rd1F") => `(tactic| with_reducible refine rd_raise ?_)
local macro_rules | `(tactic| walk_at "rd1F") => `(tactic| with_reducible refine rd_iSeq ?_)
local macro_rules | `(tactic| walk_at "rd1F") => `(tactic| with_reducible refine rd_iStr ?_)
local macro_rules | `(tactic| walk_at "rd1F") => `(tactic| with_reducible refine rd_si ?_)
local macro_rules | `(tactic| walk_at "rd1F") => `(tactic| with_reducible refine rd_ii ?_)
local macro_rules | `(tactic| walk_at "rd1F") => `(tactic| with_reducible refine rd_callSD ?_)
local macro_rules | `(tactic| walk_at "rd1F") => `(tactic| with_reducible refine rd_callNS ?_)
local macro_rules | `(tactic| walk_at "rd1F") => `(tactic| with_reducible refine rd_yes ?_)
local macro_rules | `(tactic| walk_at "rd1F") => `(tactic| with_reducible refine rd_dnotin ?_)
local macro_rules | `(tactic| walk_at "rd1F") => `(tactic| with_reducible refine rd_dput ?_)
local macro_rules | `(tactic| walk_at "rd1F") => `(tactic| with_reducible refine rd_dnewK ?_)
local macro_rules | `(tactic| walk_at "rd1F") => `(tactic| with_reducible refine rd_lrv ?_)
local macro_rules | `(tactic| walk_at "rd1F") => `(tactic| with_reducible refine rd_makeS ?_)
local macro_rules | `(tactic| walk_at "rd1F") => `(tactic| with_reducible refine rd_make ?_)
local macro_rules | `(tactic| walk_at "rd1F") => `(tactic| with_reducible refine rd_sfld ?_)
local macro_rules | `(tactic| walk_at "rd1F") => `(tactic| with_reducible refine rd_fld ?_)
local macro_rules | `(tactic| walk_at "rd1F") => `(tactic| with_reducible refine rd_i1 ?_)
local macro_rules | `(tactic| walk_at "rd1F") => `(tactic| with_reducible refine rd_s1 ?_)
local macro_rules | `(tactic| walk_at "rd1F") => `(tactic| with_reducible refine rd_ss ?_)
local macro_rules | `(tactic| walk_at "rd1F") => `(tactic| with_reducible refine rd_p40 ?_)
local macro_rules | `(tactic| walk_at "rd1F") => `(tactic| with_reducible refine rd_p30 ?_)
local macro_rules | `(tactic| walk_at "rd1F") => `(tactic| with_reducible refine rd_p18 ?_)
local macro_rules | `(tactic| walk_at "rd1F") => `(tactic| with_reducible refine rd_p13 ?_)
local macro_rules | `(tactic| walk_at "rd1F") => `(tactic| with_reducible refine rd_p12 ?_)
local macro_rules | `(tactic| walk_at "rd1F") => `(tactic| with_reducible refine rd_p11 ?_)
local macro_rules | `(tactic| walk_at "rd1F") => `(tactic| with_reducible refine rd_p9 ?_)
local macro_rules | `(tactic| walk_at "rd1F") => `(tactic| with_reducible refine rd_xf ?_)
local macro_rules | `(tactic| walk_at "rd1F") => `(tactic| with_reducible refine rd_ckw ?_)
local macro_rules | `(tactic| walk_at "rd1F") => `(tactic| with_reducible refine rd_mkO ?_)
local macro_rules | `(tactic| walk_at "rd1F") => `(tactic| with_reducible refine rd_callKS ?_)
local macro_rules | `(tactic| walk_at "rd1F") => `(tactic| with_reducible refine rd_callS ?_)
local macro_rules | `(tactic| walk_at "rd1F") => `(tactic| with_reducible refine rd_lc ?_)
local macro_rules | `(tactic| walk_at "rd1F") => `(tactic| with_reducible refine rd_iTup ?_)
local macro_rules | `(tactic| walk_at "rd1F") => `(tactic| with_reducible refine rd_iList ?_)
local macro_rules | `(tactic| walk_at "rd1F") => `(tactic| with_reducible refine rd_iRng1 ?_)
local macro_rules | `(tactic| walk_at "rd1F") => `(tactic| with_reducible refine rd_for ?_)
local macro_rules | `(tactic| walk_at "rd1F") => `(tactic| with_reducible refine rd_nopart ?_)
local macro_rules | `(tactic| walk_at "rd1F") => `(tactic| with_reducible refine rd_part ?_)
local macro_rules | `(tactic| walk_at "rd1F") => `(tactic| with_reducible refine rd_neB ?_)
local macro_rules | `(tactic| walk_at "rd1F") => `(tactic| with_reducible refine rd_eqS ?_)
local macro_rules | `(tactic| walk_at "rd1F") => `(tactic| with_reducible refine rd_eqB ?_)
local macro_rules | `(tactic| walk_at "rd1F") => `(tactic| with_reducible refine if_nN_ref ?_)
local macro_rules | `(tactic| walk_at "rd1F") => `(tactic| with_reducible refine if_nN_str ?_)
local macro_rules | `(tactic| walk_at "rd1F") => `(tactic| with_reducible refine if_nN_bl ?_)
local macro_rules | `(tactic| walk_at "rd1F") => `(tactic| with_reducible refine if_nN_int ?_)
local macro_rules | `(tactic| walk_at "rd1F") => `(tactic| with_reducible refine if_n_ref ?_)
local macro_rules | `(tactic| walk_at "rd1F") => `(tactic| with_reducible refine if_n_str ?_)
local macro_rules | `(tactic| walk_at "rd1F") => `(tactic| with_reducible refine if_n_bl ?_)
local macro_rules | `(tactic| walk_at "rd1F") => `(tactic| with_reducible refine if_n_int ?_)
local macro_rules | `(tactic| walk_at "rd1F") => `(tactic| with_reducible refine if_nnN ?_)
local macro_rules | `(tactic| walk_at "rd1F") => `(tactic| with_reducible refine if_nt ?_)
local macro_rules | `(tactic| walk_at "rd1F") => `(tactic| with_reducible refine if_nf ?_)
local macro_rules | `(tactic| walk_at "rd1F") => `(tactic| with_reducible refine if_nn ?_)
local macro_rules | `(tactic| walk_at "rd1F") => `(tactic| with_reducible refine iteF ?_)
local macro_rules | `(tactic| walk_at "rd1F") => `(tactic| with_reducible refine iteT ?_)
local macro_rules | `(tactic| walk_at "rd1F") => `(tactic| with_reducible refine rd_asgS ?_)
local macro_rules | `(tactic| walk_at "rd1F") => `(tactic| with_reducible refine rd_chain ?_)
local macro_rules | `(tactic| walk_at "rd1F") => `(tactic| with_reducible refine rd_bm ?_)
local macro_rules | `(tactic| walk_at "rd1F") => `(tactic| with_reducible refine rd_sl ?_)
local macro_rules | `(tactic| walk_at "rd1F") => `(tactic| with_reducible refine rd_tup ?_)
local macro_rules | `(tactic| walk_at "rd1F") => `(tactic| with_reducible refine rd_lst ?_)
local macro_rules | `(tactic| walk_at "rd1F") => `(tactic| with_reducible refine rd_neI ?_)
local macro_rules | `(tactic| walk_at "rd1F") => `(tactic| with_reducible refine rd_if ?_)
local macro_rules | `(tactic| walk_at "rd1F") => `(tactic| with_reducible refine rd_notV ?_)
local macro_rules | `(tactic| walk_at "rd1F") => `(tactic| with_reducible refine rd_orV ?_)
local macro_rules | `(tactic| walk_at "rd1F") => `(tactic| with_reducible refine rd_andV ?_)
local macro_rules | `(tactic| walk_at "rd1F") => `(tactic| with_reducible refine rd_drop ?_)
local macro_rules | `(tactic| walk_at "rd1F") => `(tactic| with_reducible refine rd_next ?_)
local macro_rules | `(tactic| walk_at "rd1F") => `(tactic| with_reducible refine rd_U ?_)
local macro_rules | `(tactic| walk_at "rd1F") => `(tactic| with_reducible refine rd_un ?_)
local macro_rules | `(tactic| walk_at "rd1F") => `(tactic| with_reducible refine rd_or ?_)
local macro_rules | `(tactic| walk_at "rd1F") => `(tactic| with_reducible refine rd_and ?_)
local macro_rules | `(tactic| walk_at "rd1F") => `(tactic| with_reducible refine rd_not ?_)
local macro_rules | `(tactic| walk_at "rd1F") => `(tactic| with_reducible refine rd_tB ?_)
local macro_rules | `(tactic| walk_at "rd1F") => `(tactic| with_reducible refine rd_test ?_)
local macro_rules | `(tactic| walk_at "rd1F") => `(tactic| with_reducible refine rd_ifS ?_)
local macro_rules | `(tactic| walk_at "rd1F") => `(tactic| with_reducible refine rd_ret ?_)
local macro_rules | `(tactic| walk_at "rd1F") => `(tactic| with_reducible refine rd_min2 ?_)
local macro_rules | `(tactic| walk_at "rd1F") => `(tactic| with_reducible refine rd_max2 ?_)
local macro_rules | `(tactic| walk_at "rd1F") => `(tactic| with_reducible refine rd_int1 ?_)
local macro_rules | `(tactic| walk_at "rd1F") => `(tactic| with_reducible refine rd_nn ?_)
local macro_rules | `(tactic| walk_at "rd1F") => `(tactic| with_reducible refine rd_bx ?_)
local macro_rules | `(tactic| walk_at "rd1F") => `(tactic| with_reducible refine rd_eqI ?_)
local macro_rules | `(tactic| walk_at "rd1F") => `(tactic| with_reducible refine rd_I0 ?_)
local macro_rules | `(tactic| walk_at "rd1F") => `(tactic| with_reducible refine rd_call ?_)
local macro_rules | `(tactic| walk_at "rd1F") => `(tactic| with_reducible refine rd_cb ?_)
local macro_rules | `(tactic| walk_at "rd1F") => `(tactic| with_reducible refine rd_nil ?_)
local macro_rules | `(tactic| walk_at "rd1F") => `(tactic| with_reducible refine rd_cons ?_)
local macro_rules | `(tactic| walk_at "rd1F") => `(tactic| with_reducible refine rd_op ?_)
local macro_rules | `(tactic| walk_at "rd1F") => `(tactic| with_reducible refine rd_c ?_)
local macro_rules | `(tactic| walk_at "rd1F") => `(tactic| with_reducible refine rd_asg ?_)
local macro_rules | `(tactic| walk_at "rd1F") => `(tactic| with_reducible refine rd_seq ?_)
local macro_rules | `(tactic| walk_at "rdF") => `(tactic| repeat walk_at "rd1F")
theorem hu_of' {A : Around} {k : Nat} (hr : Room k A) : A.units + 1 < cLine := hu_of hr
structure HasMk (P : Program) (w : World) (K : PySem.W.Frag) (mg : Str → Option Value) (base : Heap) (CX : CXT) (C : Addr) (x : Str) (k : Nat) (ps : List Str) (dvs : List V) (sp : Sp) : Prop where
  ex : ∃ f fd ds, FnOk P w K mg base CX k f fd ps sp ∧ Mk K C f ∧ mg x = some (.ref C) ∧ Vals dvs ds ∧ Binds K fd ps ds
theorem HasMk.mono {P : Program} {w : World} {K : PySem.W.Frag} {mg : Str → Option Value} {base : Heap} {CX : CXT} {C : Addr} {x : Str} {j k : Nat} {ps : List Str} {dvs : List V} {sp : Sp} (h : HasMk P w K mg base CX C x j ps dvs sp) (l : j ≤ k) : HasMk P w K mg base CX C x k ps dvs sp := by
  obtain ⟨f, fd, ds, F, r⟩ := h.ex
  exact ⟨f, fd, ds, F.mono l, r⟩
theorem pe_makeHS {X : Cx} {CX : CXT} {C : Addr} {x : Str} {k : Nat} {ps : List Str} {dvs : List V} {sp : Sp} {E : L2.St → XK} {p pos : Pos} {e : Expr} {es : List Expr} {t : TA} (h : HasMk X.prog X.w X.K X.mg X.base CX C x k ps dvs sp) (hr : Room (k + 1) X.A) (hg : Gl X x) (hx : ∀ σ, PassesAt CX X σ (E σ)) (ha : PA X (e :: es) t)
    (hdb : (x == ("__debug__" : Str)) = false := by decide) (he : starEach (e :: es) X.env = (false, eval e X.env) :: starEach es X.env := by rfl) (hpl : (backTo pos (starEach es X.env)).any (·.1) = false := by rfl) :
    PE X (.Call (.Name x p) (e :: es) [] pos) (tMakeS C sp dvs E t) := by
  obtain ⟨f, fd, ds, F, M, hm, hd, hb⟩ := h.ex
  exact pe_makeS M F hr hg hm hb hd hx ha hdb he hpl
def spIsNum : Sp := fun vs H Q _ => ∃ v, vs = [v] ∧ Sc v ∧ Q (.bl (isNum v)) H
def spIsName : Sp := fun vs H Q _ => ∃ z : Str, vs = [.str z] ∧ z.length ≤ 1000 ∧ ∀ H', Same H H' → Q (.bl (isNm z)) H'
section
variable {P : Program} {w : World} {K : PySem.W.Frag} {mg : Str → Option Value} {base : Heap} {C CE CB CD : Addr}
theorem ok_BadNumber_init {k : Nat} {f : Addr} {fd : FuncData} (F : Fun K "__init__" "BadNumber.__init__" sBadNumber___init__ f fd) : FnOk P w K mg base CX0 (k + 1) f fd ["self", "number"] (spInit1 K "number") := by
  refine F.ok scBadNumber___init__ (fun vs H Q E h => ?_) (fun cdv A outer s H vs Q E hr h => ?_)
  · obtain ⟨a, C, v, rfl, _⟩ := h; rfl
  · obtain ⟨a, C, v, rfl, ox, nf, ha, h⟩ := h
    refine ⟨_, (pss_one (ps_ost (pv 0) (pv 1))), ?_⟩
    exact ⟨v, rfl, .ref a, rfl, a, C, rfl, ox, nf, .inl ⟨ha, h⟩⟩
theorem ok_p_is_number {k : Nat} {f : Addr} {fd : FuncData} (F : Fun K "is_number" "is_number" sis_number f fd) (T : Blt mg) : FnOk P w K mg base CX0 (k + 1) f fd ["value"] spIsNum := by
  refine F.ok scis_number (fun vs H Q E h => ?_) (fun cdv A outer s H vs Q E hr h => ?_)
  · obtain ⟨v, rfl, _⟩ := h; rfl
  · obtain ⟨v, rfl, hv, h⟩ := h
    refine ⟨_, (pss_one (ps_ret (pe_and (pe_callB call_isi (by rfl) T.isinstance (by decide +kernel) (pa_cons (pv 0) (pa_cons (pe_bltn (v := .ty "int") rfl T.int (by decide +kernel) rfl) pa_nil))) (pe_and (pe_not (pe_callB call_isi (by rfl) T.isinstance (by decide +kernel) (pa_cons (pv 0) (pa_cons (pe_bltn (v := .ty "bool") rfl T.bool (by decide +kernel) rfl) pa_nil)))) (pe_one (pe_chain op_le op_le (pe_un un_neg (pe_globI rfl T.g_LIMIT)) (pv 0) (pe_globI rfl T.g_LIMIT))))))), ?_⟩
    cases v <;> first | exact hv.elim | skip
    · walk_at "rdF"; exact h
    · walk_at "rdF"; exact h
    · rename_i n
      walk_at "rdF"
      have hh : ∀ b : Bool, b = isNum (.int n) → Q (.bl b) H := fun b e => by rw [e]; exact h
      refine if_dec (fun h1 => ?_) (fun h1 => ?_)
      · walk_at "rdF"
        refine hh _ ?_
        unfold isNum InR; simp [h1]
      · refine hh _ ?_
        unfold isNum InR; simp [h1]
    · walk_at "rdF"; exact h
def Err (E : XK) (C : Addr) (H : Hp) (v : V) : Prop := ∀ d H', Same H H' → H' d = some (.xd [("number", v)]) → E (.ref C) (some d) H'
def spCheck (C : Addr) : Sp := fun vs H Q E => ∃ v, vs = [v] ∧ Sc v ∧ (isNum v = true → Q v H) ∧ (isNum v = false → Err E C H v)
theorem ok_check_number {k : Nat} {f : Addr} {fd : FuncData} (F : Fun K "check_number" "check_number" scheck_number f fd) (T : Blt mg) (E_BadNumber : ErrC K mg "BadNumber" C) (I_BadNumber : HasI P w K mg base C 1 ["self", "number"] (spInit1 K "number")) (N_BadNumber_number : PySem.W.findIn K (.ref C) "number" = some none)
    (His_number : Has P w K mg base "is_number" k ["value"] spIsNum) (hk : 2 ≤ k) : FnOk P w K mg base (L2.CX P w) (k + 1) f fd ["value"] (spCheck C) := by
  refine F.okX sccheck_number (fun vs H Q E h => ?_) (fun cdv A outer s H vs Q E hr h => ?_)
  · obtain ⟨v, rfl, _⟩ := h; rfl
  · obtain ⟨v, rfl, hv, h1, h2⟩ := h
    refine ⟨_, (pss_cons (ps_if (pt_not (pt_val (pe_callH His_number hr (by rfl) (pa_cons (pv 0) pa_nil)))) (pss_one (ps_raiseC rfl (takes_of rfl rfl rfl rfl) E_BadNumber I_BadNumber hr (by omega) (by rfl) (pa_cons (pv 0) pa_nil))) pss_nil)
 (pss_one (ps_ret (pv 0)))), ?_⟩
    walk_at "rdF"
    refine ⟨v, rfl, hv, ?_⟩
    walk_at "rdF"
    refine if_nbool (fun hn => ?_) (fun hn => ?_)
    · walk_at "rdF"
      exact rd_mk1 E_BadNumber.ox N_BadNumber_number fun d H' _ sm e => h2 hn d H' sm e
    · walk_at "rdF"
      exact h1 hn
def spCheckO (C : Addr) : Sp := fun vs H Q E => ∃ v, vs = [v] ∧ Sc v ∧ (isOpen v = true → Q v H) ∧ (isOpen v = false → Err E C H v)
theorem ok_check_open_number {k : Nat} {f : Addr} {fd : FuncData} (F : Fun K "check_open_number" "check_open_number" scheck_open_number f fd) (T : Blt mg) (Hcheck_number : HasX P w K mg base "check_number" k ["value"] (spCheck C)) : FnOk P w K mg base (L2.CX P w) (k + 1) f fd ["value"] (spCheckO C) := by
  refine F.okX sccheck_open_number (fun vs H Q E h => ?_) (fun cdv A outer s H vs Q E hr h => ?_)
  · obtain ⟨v, rfl, _⟩ := h; rfl
  · obtain ⟨v, rfl, hv, h1, h2⟩ := h
    refine ⟨_, (pss_cons (ps_if (pt_cmpR op_isN (pv 0) pe_non (nomark _)) (pss_one (ps_ret pe_non)) pss_nil)
 (pss_one (ps_ret (pe_callX Hcheck_number hr (by rfl) (takes_of rfl rfl rfl rfl) (pa_cons (pv 0) pa_nil))))), ?_⟩
    cases v <;> first | exact hv.elim | skip
    · walk_at "rdF"; exact h1 rfl
    all_goals walk_at "rdF"
    all_goals exact ⟨_, rfl, trivial, h1, h2⟩
theorem ok_BadSpan_init {k : Nat} {f : Addr} {fd : FuncData} (F : Fun K "__init__" "BadSpan.__init__" sBadSpan___init__ f fd) : FnOk P w K mg base CX0 (k + 1) f fd ["self", "low", "high"] (spInit2 K "low" "high") := by
  refine F.ok scBadSpan___init__ (fun vs H Q E h => ?_) (fun cdv A outer s H vs Q E hr h => ?_)
  · obtain ⟨a, C, u, v, rfl, _⟩ := h; rfl
  · obtain ⟨a, C, u, v, rfl, ox, nf, ng, ha, h⟩ := h
    refine ⟨_, (pss_cons (ps_ost (pv 0) (pv 1))
 (pss_one (ps_ost (pv 0) (pv 2)))), ?_⟩
    exact ⟨u, rfl, .ref a, rfl, a, C, rfl, ox, nf, .inl ⟨ha, fun dx ndx ne => ⟨v, rfl, .ref a, rfl, a, C, rfl, ox, ng, .inr ⟨dx, [("low", u)], upd_same, by rw [upd_ne ne]; exact upd_same, by simp, h dx ndx ne⟩⟩⟩⟩
def spCrossed : Sp := fun vs H Q _ => ∃ x y, vs = [x, y] ∧ NI x ∧ NI y ∧ Q (.bl (crossed x y)) H
theorem ok_are_crossed {k : Nat} {f : Addr} {fd : FuncData} (F : Fun K "are_crossed" "are_crossed" sare_crossed f fd) (T : Blt mg) : FnOk P w K mg base CX0 (k + 1) f fd ["low", "high"] spCrossed := by
  refine F.ok scare_crossed (fun vs H Q E h => ?_) (fun cdv A outer s H vs Q E hr h => ?_)
  · obtain ⟨x, y, rfl, _⟩ := h; rfl
  · obtain ⟨x, y, rfl, hx, hy, h⟩ := h
    refine ⟨_, (pss_one (ps_ret (pe_and (pe_cmpR op_notN (pv 0) pe_non (nomark _)) (pe_and (pe_cmpR op_notN (pv 1) pe_non (nomark _)) (pe_one (pe_cmpR op_gt (pv 0) (pv 1) (nomark _))))))), ?_⟩
    rcases hx with rfl | ⟨i, rfl⟩ <;> rcases hy with rfl | ⟨j, rfl⟩ <;> walk_at "rdF" <;> exact h
def ErrB (E : XK) (C : Addr) (H : Hp) (x y : V) : Prop := ∀ d H', Same H H' → H' d = some (.xd [("high", y), ("low", x)]) → E (.ref C) (some d) H'
def spLowHigh (C : Addr) : Sp := fun vs H Q E => ∃ x y, vs = [x, y] ∧ NI x ∧ NI y ∧ (crossed x y = false → Q .non H) ∧ (crossed x y = true → ErrB E C H x y)
theorem ok_check_low_high {k : Nat} {f C2 : Addr} {fd : FuncData} (F : Fun K "check_low_high" "check_low_high" scheck_low_high f fd) (T : Blt mg) (E_BadSpan : ErrC K mg "BadSpan" C2) (I_BadSpan : HasI P w K mg base C2 1 ["self", "low", "high"] (spInit2 K "low" "high")) (N1 : PySem.W.findIn K (.ref C2) "low" = some none) (N2 : PySem.W.findIn K (.ref C2) "high" = some none)
    (Hare_crossed : Has P w K mg base "are_crossed" k ["low", "high"] spCrossed) (hk : 2 ≤ k) : FnOk P w K mg base (L2.CX P w) (k + 1) f fd ["low", "high"] (spLowHigh C2) := by
  refine F.okX sccheck_low_high (fun vs H Q E h => ?_) (fun cdv A outer s H vs Q E hr h => ?_)
  · obtain ⟨x, y, rfl, _⟩ := h; rfl
  · obtain ⟨x, y, rfl, hx, hy, h1, h2⟩ := h
    refine ⟨_, (pss_one (ps_if (pt_val (pe_callH Hare_crossed hr (by rfl) (pa_cons (pv 0) (pa_cons (pv 1) pa_nil)))) (pss_one (ps_raiseC rfl (takes_of rfl rfl rfl rfl) E_BadSpan I_BadSpan hr (by omega) (by rfl) (pa_cons (pv 0) (pa_cons (pv 1) pa_nil)))) pss_nil)), ?_⟩
    walk_at "rdF"
    refine ⟨x, y, rfl, hx, hy, ?_⟩
    walk_at "rdF"
    refine if_bool (fun hc => ?_) (fun hc => ?_)
    · walk_at "rdF"
      exact rd_mk2 E_BadSpan.ox N1 N2 fun d H' _ sm e => h2 hc d H' sm e
    · walk_at "rdF"
      exact h1 hc
structure SpC (K : PySem.W.Frag) (C : Addr) : Prop where
  cl : Cls K C
  nl : NoAttr K C "low"
  nh : NoAttr K C "high"
abbrev spn (l h : V) : List (Str × V) := [("low", l), ("high", h)]
theorem spn_low {l h : V} : (spn l h).lookup ("low" : Str) = some l := by simp [spn, List.lookup]
theorem spn_high {l h : V} : (spn l h).lookup ("high" : Str) = some h := by
  have e : (("high" : Str) == ("low" : Str)) = false := by decide
  simp [spn, List.lookup, e]
def spSpanI (C CE CB : Addr) : Sp := fun vs H Q E => ∃ (a dx : Addr) (l h : V), vs = [.ref a, l, h] ∧ H a = some (.ins C dx []) ∧ Sc l ∧ Sc h ∧ (isOpen l = true → isOpen h = true → crossed l h = false → Q .non (upd H a (.ins C dx (spn l h)))) ∧
  (isOpen l = false → Err E CE H l) ∧ (isOpen l = true → isOpen h = false → Err E CE H h) ∧ (isOpen l = true → isOpen h = true → crossed l h = true → ErrB E CB H l h)
theorem open_NI {x : V} (h : isOpen x = true) : NI x := by
  cases x <;> first | exact .inl rfl | exact .inr ⟨_, rfl⟩ | cases h
theorem ok_span_init {k : Nat} {f : Addr} {fd : FuncData} (F : FunD K "__init__" "Span.__init__" (defArgs sSpan___init__) (defBody sSpan___init__) (defScope sSpan___init__) [.non, .non] [] f fd) (T : Blt mg) (S : SpC K C)
    (Hcheck_open_number : HasX P w K mg base "check_open_number" k ["value"] (spCheckO CE)) (Hcheck_low_high : HasX P w K mg base "check_low_high" k ["low", "high"] (spLowHigh CB)) : FnOk P w K mg base (L2.CX P w) (k + 1) f fd ["self", "low", "high"] (spSpanI C CE CB) := by
  refine F.ok scSpan___init__ (fun vs H Q E h => ?_) (fun cdv A outer s H vs Q E hr h => ?_)
  · obtain ⟨a, dx, l, h, rfl, _⟩ := h; rfl
  · obtain ⟨a, dx, l, hh, rfl, ha, sl, sh, h1, h2, h3, h4⟩ := h
    refine ⟨_, (pss_cons (ps_expr (pe_callX Hcheck_open_number hr (by rfl) (takes_of rfl rfl rfl rfl) (pa_cons (pv 1) pa_nil)))
 (pss_cons (ps_expr (pe_callX Hcheck_open_number hr (by rfl) (takes_of rfl rfl rfl rfl) (pa_cons (pv 2) pa_nil)))
 (pss_cons (ps_expr (pe_callX Hcheck_low_high hr (by rfl) (takes_of rfl rfl rfl rfl) (pa_cons (pv 1) (pa_cons (pv 2) pa_nil))))
 (pss_cons (ps_fld (pv 0) (pv 1) rfl)
 (pss_one (ps_fld (pv 0) (pv 2) rfl)))))), ?_⟩
    walk_at "rdF"
    refine ⟨l, rfl, sl, fun ol => ?_, h2⟩
    walk_at "rdF"
    refine ⟨hh, rfl, sh, fun oh => ?_, h3 ol⟩
    walk_at "rdF"
    refine ⟨l, hh, rfl, open_NI ol, open_NI oh, fun nc => ?_, h4 ol oh⟩
    walk_at "rdF"
    refine ⟨a, C, dx, _, rfl, ha, S.cl, S.nl, by simp, ?_⟩
    walk_at "rdF"
    refine ⟨a, C, dx, _, rfl, upd_same, S.cl, S.nh, by simp [putF], ?_⟩
    have e : putF "high" hh (putF "low" l []) = spn l hh := by
      have e0 : ¬ (("low" : Str) = ("high" : Str)) := by decide
      simp [putF, spn, e0]
    rw [upd_upd, e]
    walk_at "rdF"
    exact h1 ol oh nc
theorem ok_BadName_init {k : Nat} {f : Addr} {fd : FuncData} (F : Fun K "__init__" "BadName.__init__" sBadName___init__ f fd) : FnOk P w K mg base CX0 (k + 1) f fd ["self", "name"] (spInit1 K "name") := by
  refine F.ok scBadName___init__ (fun vs H Q E h => ?_) (fun cdv A outer s H vs Q E hr h => ?_)
  · obtain ⟨a, C, v, rfl, _⟩ := h; rfl
  · obtain ⟨a, C, v, rfl, ox, nf, ha, h⟩ := h
    refine ⟨_, (pss_one (ps_ost (pv 0) (pv 1))), ?_⟩
    exact ⟨v, rfl, .ref a, rfl, a, C, rfl, ox, nf, .inl ⟨ha, h⟩⟩
theorem ok_p_is_name {k : Nat} {f : Addr} {fd : FuncData} (F : Fun K "is_name" "is_name" sis_name f fd) (T : Blt mg) : FnOk P w K mg base CX0 (k + 1) f fd ["text"] spIsName := by
  refine F.ok scis_name (fun vs H Q E h => ?_) (fun cdv A outer s H vs Q E hr h => ?_)
  · obtain ⟨z, rfl, _⟩ := h; rfl
  · obtain ⟨z, rfl, hz, h⟩ := h
    have h0 := h H (Same.refl H)
    refine ⟨_, (pss_cons (ps_if (PW.pt (pw_or (pt_cmpR op_lt (pe_callB call_len_str (by rfl) T.len (by decide +kernel) (pa_cons (pv 0) pa_nil)) pe_int (nomark _)) (pw_or1 (pt_cmpR op_gt (pe_callB call_len_str (by rfl) T.len (by decide +kernel) (pa_cons (pv 0) pa_nil)) (pe_globI rfl T.g_LONGEST_NAME) (nomark _))))) (pss_one (ps_ret pe_bl)) pss_nil)
 (pss_one (ps_ret (pe_and (pe_cmpR op_in_sign (pe_ix ix_str (pv 0) pe_int (fun _ _ => rfl)) (pe_globS rfl T.g_LETTERS) (by rfl)) (pe_one (pe_callB (cr_all rfl) (by rfl) T.all (by decide +kernel) (pa_cons (pe_lc (own := [("sign", 1)]) (g := (gName 1)) (by rfl) scis_name.nd (pi_str (pv 0)) (blkOk_by (own := [("sign", 1)]) (N := ["text", "sign"]) (sc := defScope sis_name) (by decide +kernel)) (fun _ _ _ _ _ => (pg_name (i := 1) scis_name.nd rfl (.inl rfl))) (fun _ _ _ _ _ => pts_nil) (fun _ _ _ _ _ => (pe_cmpR op_in_sign (pv 1) (pe_globS rfl T.g_LETTERS_AND_DIGITS) (by rfl)))) pa_nil))))))), ?_⟩
    walk_at "rdF"
    refine ⟨sz (by omega), ?_⟩
    walk_at "rdF"
    refine if_dec (fun h1 => ?_) (fun h1 => ?_)
    · walk_at "rdF"
      rw [isNm_zero (by omega)] at h0
      exact h0
    · walk_at "rdF"
      refine ⟨sz (by omega), ?_⟩
      obtain ⟨c, l, e⟩ : ∃ c l, z.cps.toList = c :: l := by
        cases e : z.cps.toList with
        | nil => have := len_l z; rw [e] at this; simp at this; omega
        | cons c l => exact ⟨c, l, rfl⟩
      have en := isNm_of e
      rw [en] at h h0
      walk_at "rdF"
      refine if_dec (fun h8 => ?_) (fun h8 => ?_)
      · walk_at "rdF"
        rw [decide_eq_false (by omega)] at h0
        exact h0
      · rw [decide_eq_true (by omega : z.length ≤ 8), Bool.true_and] at h h0
        walk_at "rdF"
        refine rd_ixS (c := c) (by omega) (by rw [e]; exact atI_zero) ?_
        walk_at "rdF"
        refine rd_inS ?_
        walk_at "rdF"
        refine if_dec (fun hc => ?_) (fun hc => ?_)
        · walk_at "rdF"
          rw [show decide (c ∈ lets.cps.toList) = true from decide_eq_true hc, Bool.true_and] at h
          refine fun D nD => lc_sgn (fun i H' => H' = upd H D (.lst ((z.cps.toList.take i).map fun d => V.bl (decide (d ∈ letsD.cps.toList))))) rfl ?_ ?_
          · rintro i d H1 hd rfl
            refine ⟨rfl, ?_⟩
            walk_at "rdF"
            refine rd_inS ?_
            walk_at "rdF"
            refine ⟨_, upd_same, ?_, ?_⟩
            · rw [List.length_map, List.length_take, len_l]
              exact Nat.lt_of_le_of_lt (by omega : _ ≤ 1000) (by decide)
            · rw [upd_upd, List.take_add_one, hd, List.map_append]; rfl
          · rintro H1 rfl
            refine ⟨D, z.cps.toList.map fun d => decide (d ∈ letsD.cps.toList), rfl, sl_of ?_, ?_⟩
            · rw [upd_same, ← len_l, List.take_length, List.map_map]; rfl
            · rw [List.all_map]
              exact h _ (same_new nD)
        · walk_at "rdF"
          rw [show decide (c ∈ lets.cps.toList) = false from decide_eq_false hc] at h0
          exact h0
def ErrN (E : XK) (C : Addr) (H : Hp) (v : V) : Prop := ∀ d H', Same H H' → H' d = some (.xd [("name", v)]) → E (.ref C) (some d) H'
theorem ErrN.same {E : XK} {C : Addr} {H H' : Hp} {v : V} (h : ErrN E C H v) (s : Same H H') : ErrN E C H' v := fun d H2 s2 e => h d H2 (s.trans s2) e
theorem ok_Doubled_init {k : Nat} {f : Addr} {fd : FuncData} (F : Fun K "__init__" "Doubled.__init__" sDoubled___init__ f fd) : FnOk P w K mg base CX0 (k + 1) f fd ["self", "name"] (spInit1 K "name") := by
  refine F.ok scDoubled___init__ (fun vs H Q E h => ?_) (fun cdv A outer s H vs Q E hr h => ?_)
  · obtain ⟨a, C, v, rfl, _⟩ := h; rfl
  · obtain ⟨a, C, v, rfl, ox, nf, ha, h⟩ := h
    refine ⟨_, (pss_one (ps_ost (pv 0) (pv 1))), ?_⟩
    exact ⟨v, rfl, .ref a, rfl, a, C, rfl, ox, nf, .inl ⟨ha, h⟩⟩
def spCheckName (C : Addr) : Sp := fun vs H Q E => ∃ z : Str, vs = [.str z] ∧ z.length ≤ 1000 ∧ (isNm z = true → ∀ H', Same H H' → Q (.str z) H') ∧ (isNm z = false → ErrN E C H (.str z))
theorem ok_check_name {k : Nat} {f : Addr} {fd : FuncData} (F : Fun K "check_name" "check_name" scheck_name f fd) (T : Blt mg) (E_BadName : ErrC K mg "BadName" C) (I_BadName : HasI P w K mg base C 1 ["self", "name"] (spInit1 K "name")) (N_BadName_name : PySem.W.findIn K (.ref C) "name" = some none)
    (His_name : Has P w K mg base "is_name" k ["text"] spIsName) (hk : 2 ≤ k) : FnOk P w K mg base (L2.CX P w) (k + 1) f fd ["text"] (spCheckName C) := by
  refine F.okX sccheck_name (fun vs H Q E h => ?_) (fun cdv A outer s H vs Q E hr h => ?_)
  · obtain ⟨v, rfl, _⟩ := h; rfl
  · obtain ⟨z, rfl, hz, h1, h2⟩ := h
    refine ⟨_, (pss_cons (ps_if (pt_not (pt_val (pe_callH His_name hr (by rfl) (pa_cons (pv 0) pa_nil)))) (pss_one (ps_raiseC rfl (takes_of rfl rfl rfl rfl) E_BadName I_BadName hr (by omega) (by rfl) (pa_cons (pv 0) pa_nil))) pss_nil)
 (pss_one (ps_ret (pv 0)))), ?_⟩
    walk_at "rdF"
    refine ⟨z, rfl, hz, fun H1 s1 => ?_⟩
    walk_at "rdF"
    refine if_nbool (fun hn => ?_) (fun hn => ?_)
    · walk_at "rdF"
      exact rd_mk1 E_BadName.ox N_BadName_name fun d H' nd sm e => h2 hn d H' (s1.trans sm) e
    · walk_at "rdF"
      exact h1 hn H1 s1
def spCheckUnlike (CD : Addr) : Sp := fun vs H Q E => ∃ a, ∃ U : List Str, vs = [.ref a] ∧ Strs H a U ∧ U.length ≤ 2000 ∧ (firstDup [] U = none → ∀ H', Same H H' → Q .non H') ∧ (∀ z, firstDup [] U = some z → ErrN E CD H (.str z))
theorem ok_check_unlike {k : Nat} {f : Addr} {fd : FuncData} (F : Fun K "check_unlike" "check_unlike" scheck_unlike f fd) (T : Blt mg) (E_Doubled : ErrC K mg "Doubled" CD) (I_Doubled : HasI P w K mg base CD 1 ["self", "name"] (spInit1 K "name")) (N_Doubled_name : PySem.W.findIn K (.ref CD) "name" = some none) (hk : 2 ≤ k) : FnOk P w K mg base (L2.CX P w) (k + 1) f fd ["items"] (spCheckUnlike CD) := by
  refine F.okX sccheck_unlike (fun vs H Q E h => ?_) (fun cdv A outer s H vs Q E hr h => ?_)
  · obtain ⟨a, U, rfl, _⟩ := h; rfl
  · obtain ⟨a, U, rfl, hA, hl, h1, h2⟩ := h
    refine ⟨_, (pss_cons (ps_set (i := 1) sccheck_unlike.nd rfl (.inl rfl) (pe_callTy0 cr_set0K (by rfl) T.set (by decide +kernel)))
 (pss_one (ps_for (passes_of rfl) rfl (pi_seq (pv 0)) (pg_name (i := 2) sccheck_unlike.nd rfl (.inl rfl)) (pss_cons (ps_if (pt_cmpR or_sinK (pv 2) (pv 1) (by rfl)) (pss_one (ps_raiseC rfl (takes_of rfl rfl rfl rfl) E_Doubled I_Doubled hr (by omega) (by rfl) (pa_cons (pv 2) pa_nil))) pss_nil)
 (pss_one (ps_expr (pe_saddK (pv 1) (pa_cons (pv 2) pa_nil)))))))), ?_⟩
    walk_at "rdF"
    refine ⟨rfl, fun p np => ?_⟩
    walk_at "rdF"
    have sp := same_new (o := SetK P w p (fun _ => false) 0) np
    refine ⟨a, rfl, for_strs (hA.same sp) (fun i σ H' => ∃ y, ∃ Sx : Key → Bool, ∃ n, σ = [some (.ref a), some (.ref p), y] ∧ H' p = some (SetK P w p Sx n) ∧ n ≤ i ∧ (∀ x : Str, Sx (.inr x) = decide (x ∈ U.take i)) ∧ firstDup (U.take i) (U.drop i) = firstDup [] U ∧ Same H H') ⟨_, _, _, rfl, upd_same, Nat.le_refl _, by simp, rfl, sp⟩ ?_ ?_ ?_⟩
    · rintro i σ H' ⟨y, Sx, n, rfl, _, _, _, _, sm⟩
      intro o ho
      rcases hA with hA | hA <;> (obtain rfl := Option.some.inj ((sp _ _ hA).symm.trans ho); exact sm _ _ hA)
    · rintro i z σ H' hz ⟨y, Sx, n, rfl, hp, hn, hS, hD, sm⟩
      have hil : i < U.length := (List.getElem?_eq_some_iff.mp hz).1
      rw [dup_step hz] at hD
      walk_at "rdF"
      refine ⟨.inr z, p, Sx, n, rfl, rfl, hp, ?_⟩
      refine ⟨Sx (.inr z), rfl, ?_⟩
      rw [hS z]
      refine if_dec (fun hin => ?_) (fun hout => ?_)
      · rw [if_pos hin] at hD
        refine rd_mkO ?_
        walk_at "rdF"
        exact rd_mk1 E_Doubled.ox N_Doubled_name fun d H2 nd s2 e => h2 z hD.symm d H2 (sm.trans s2) e
      · rw [if_neg hout] at hD
        walk_at "rdF"
        refine ⟨.ref p, rfl, ⟨p, Sx, n, rfl, hp⟩, .str z, rfl, p, .inr z, Sx, n, rfl, rfl, hp, Nat.lt_of_le_of_lt (by omega : n + 1 ≤ 2000) (by decide), ?_⟩
        walk_at "rdF"
        refine ⟨_, _, _, rfl, upd_same, ?_, fun x => ?_, hD, same_mut sm np⟩
        · split <;> omega
        · exact (congrArg (fun b => b || decide ((Sum.inr x : Key) = Sum.inr z)) (hS x)).trans (take_mem x hz)
    · rintro σ H' ⟨y, Sx, n, rfl, hp, hn, hS, hD, sm⟩
      rw [dup_end] at hD
      exact h1 hD.symm H' sm
def ErrF (E : XK) (C : Addr) (H : Hp) (fs : List (Str × V)) : Prop := ∀ d H', Same H H' → H' d = some (.xd fs) → E (.ref C) (some d) H'
theorem ErrF.same {E : XK} {C : Addr} {H H' : Hp} {fs : List (Str × V)} (h : ErrF E C H fs) (s : Same H H') : ErrF E C H' fs := fun d H2 s2 e => h d H2 (s.trans s2) e
theorem ok_SelfBond_init {k : Nat} {f : Addr} {fd : FuncData} (F : Fun K "__init__" "SelfBond.__init__" sSelfBond___init__ f fd) : FnOk P w K mg base CX0 (k + 1) f fd ["self", "bond"] (spInit1 K "bond") := by
  refine F.ok scSelfBond___init__ (fun vs H Q E h => ?_) (fun cdv A outer s H vs Q E hr h => ?_)
  · obtain ⟨a, C, v, rfl, _⟩ := h; rfl
  · obtain ⟨a, C, v, rfl, ox, nf, ha, h⟩ := h
    refine ⟨_, (pss_one (ps_ost (pv 0) (pv 1))), ?_⟩
    exact ⟨v, rfl, .ref a, rfl, a, C, rfl, ox, nf, .inl ⟨ha, h⟩⟩
theorem ok_Unknown_init {k : Nat} {f : Addr} {fd : FuncData} (F : Fun K "__init__" "Unknown.__init__" sUnknown___init__ f fd) : FnOk P w K mg base CX0 (k + 1) f fd ["self", "name"] (spInit1 K "name") := by
  refine F.ok scUnknown___init__ (fun vs H Q E h => ?_) (fun cdv A outer s H vs Q E hr h => ?_)
  · obtain ⟨a, C, v, rfl, _⟩ := h; rfl
  · obtain ⟨a, C, v, rfl, ox, nf, ha, h⟩ := h
    refine ⟨_, (pss_one (ps_ost (pv 0) (pv 1))), ?_⟩
    exact ⟨v, rfl, .ref a, rfl, a, C, rfl, ox, nf, .inl ⟨ha, h⟩⟩
def spInit3 (K : PySem.W.Frag) (f g j : Str) : Sp := fun vs H Q _ => ∃ (a C : Addr) (u v t : V), vs = [.ref a, u, v, t] ∧ OexC K C ∧ PySem.W.findIn K (.ref C) f = some none ∧ PySem.W.findIn K (.ref C) g = some none ∧ PySem.W.findIn K (.ref C) j = some none ∧ H a = some (exo a C none) ∧
  ∀ dx, H dx = none → dx ≠ a → Q .non (upd (upd (upd (upd H dx (exd dx [(f, u)])) a (exo a C (some dx))) dx (exd dx [(g, v), (f, u)])) dx (exd dx [(j, t), (g, v), (f, u)]))
theorem rd_mk3 {K : PySem.W.Frag} {C : Addr} {f g j : Str} {u v t : V} {H1 : Hp} {W : XK} (T : OexC K C) (nf : PySem.W.findIn K (.ref C) f = some none) (ng : PySem.W.findIn K (.ref C) g = some none) (nj : PySem.W.findIn K (.ref C) j = some none) (h : ∀ d H', H1 d = none → Same H1 H' → H' d = some (.xd [(j, t), (g, v), (f, u)]) → W (.ref C) (some d) H') :
    [u, v, t].length ≤ 1000 ∧ ∀ a, H1 a = none → spInit3 K f g j (.ref a :: ([u, v, t] ++ [])) (upd H1 a (exo a C none))
      (fun v H2 => v = .non ∧ ∃ (d : Addr) (fs : List (Str × V)), H2 a = some (exo a C (some d)) ∧ H2 d = some (exd d fs) ∧ H1 d = none ∧ W (.ref C) (some d) (upd (del H2 a) d (.xd fs))) (fun _ _ _ => False) := by
  refine ⟨by simp, fun a na => ⟨a, C, u, v, t, rfl, T, nf, ng, nj, upd_same, fun dx ndx ne => ?_⟩⟩
  have nd : H1 dx = none := by rw [upd_ne ne] at ndx; exact ndx
  refine ⟨rfl, dx, [(j, t), (g, v), (f, u)], by rw [upd_ne ne.symm, upd_ne ne.symm]; exact upd_same, upd_same, nd, h dx _ nd (fun b o hb => ?_) upd_same⟩
  have h1 := ne_of_none hb na
  have h2 := ne_of_none hb nd
  rw [upd_ne h2, del_ne h1, upd_ne h2, upd_ne h2, upd_ne h1, upd_ne h2, upd_ne h1]
  exact hb
theorem ok_OutOfRange_init {k : Nat} {f : Addr} {fd : FuncData} (F : Fun K "__init__" "OutOfRange.__init__" sOutOfRange___init__ f fd) : FnOk P w K mg base CX0 (k + 1) f fd ["self", "number", "low", "high"] (spInit3 K "number" "low" "high") := by
  refine F.ok scOutOfRange___init__ (fun vs H Q E h => ?_) (fun cdv A outer s H vs Q E hr h => ?_)
  · obtain ⟨a, C, u, v, t, rfl, _⟩ := h; rfl
  · obtain ⟨a, C, u, v, t, rfl, ox, nf, ng, nj, ha, h⟩ := h
    refine ⟨_, (pss_cons (ps_ost (pv 0) (pv 1))
 (pss_cons (ps_ost (pv 0) (pv 2))
 (pss_one (ps_ost (pv 0) (pv 3))))), ?_⟩
    exact ⟨u, rfl, .ref a, rfl, a, C, rfl, ox, nf, .inl ⟨ha, fun dx ndx ne => ⟨v, rfl, .ref a, rfl, a, C, rfl, ox, ng, .inr ⟨dx, [("number", u)], upd_same, by rw [upd_ne ne]; exact upd_same, by simp, ⟨t, rfl, .ref a, rfl, a, C, rfl, ox, nj, .inr ⟨dx, _, by rw [upd_ne ne.symm]; exact upd_same, upd_same, by simp, h dx ndx ne⟩⟩⟩⟩⟩⟩
def spBetween (C : Addr) : Sp := fun vs H Q E => ∃ n l h : Int, vs = [.int n, .int l, .int h] ∧ (l ≤ n → n ≤ h → Q .non H) ∧ (¬ (l ≤ n ∧ n ≤ h) → ErrF E C H [("high", .int h), ("low", .int l), ("number", .int n)])
theorem ok_check_between {k : Nat} {f : Addr} {fd : FuncData} (F : Fun K "check_between" "check_between" scheck_between f fd) (T : Blt mg) (E_OutOfRange : ErrC K mg "OutOfRange" C) (I_OutOfRange : HasI P w K mg base C 1 ["self", "number", "low", "high"] (spInit3 K "number" "low" "high")) (N1 : PySem.W.findIn K (.ref C) "number" = some none) (N2 : PySem.W.findIn K (.ref C) "low" = some none) (N3 : PySem.W.findIn K (.ref C) "high" = some none) (hk : 2 ≤ k) : FnOk P w K mg base (L2.CX P w) (k + 1) f fd ["number", "low", "high"] (spBetween C) := by
  refine F.okX sccheck_between (fun vs H Q E h => ?_) (fun cdv A outer s H vs Q E hr h => ?_)
  · obtain ⟨n, l, h, rfl, _⟩ := h; rfl
  · obtain ⟨n, l, hh, rfl, h1, h2⟩ := h
    refine ⟨_, (pss_one (ps_if (PW.pt (pw_or (pt_cmpR op_lt (pv 0) (pv 1) (nomark _)) (pw_or1 (pt_cmpR op_gt (pv 0) (pv 2) (nomark _))))) (pss_one (ps_raiseC rfl (takes_of rfl rfl rfl rfl) E_OutOfRange I_OutOfRange hr (by omega) (by rfl) (pa_cons (pv 0) (pa_cons (pv 1) (pa_cons (pv 2) pa_nil))))) pss_nil)), ?_⟩
    walk_at "rdF"
    refine if_dec (fun c1 => ?_) (fun c1 => ?_)
    · walk_at "rdF"
      exact rd_mk3 E_OutOfRange.ox N1 N2 N3 fun d H' _ sm e => h2 (by omega) d H' sm e
    · walk_at "rdF"
      refine if_dec (fun c2 => ?_) (fun c2 => ?_)
      · walk_at "rdF"
        exact rd_mk3 E_OutOfRange.ox N1 N2 N3 fun d H' _ sm e => h2 (by omega) d H' sm e
      · walk_at "rdF"
        exact h1 (by omega) (by omega)
def spLookUp (C : Addr) : Sp := fun vs H Q E => ∃ (a : Addr) (z : Str) (kvs : List (Key × V)), vs = [.ref a, .str z] ∧ Rd H a (.dK kvs) ∧ (∀ v, valV kvs (.inr z) = some v → Q v H) ∧ (valV kvs (.inr z) = none → ErrF E C H [("name", .str z)])
theorem ok_look_up {k : Nat} {f : Addr} {fd : FuncData} (F : Fun K "look_up" "look_up" slook_up f fd) (T : Blt mg) (E_Unknown : ErrC K mg "Unknown" C) (I_Unknown : HasI P w K mg base C 1 ["self", "name"] (spInit1 K "name")) (N1 : PySem.W.findIn K (.ref C) "name" = some none) (hk : 2 ≤ k) : FnOk P w K mg base (L2.CX P w) (k + 1) f fd ["table", "name"] (spLookUp C) := by
  refine F.okX sclook_up (fun vs H Q E h => ?_) (fun cdv A outer s H vs Q E hr h => ?_)
  · obtain ⟨a, z, kvs, rfl, _⟩ := h; rfl
  · obtain ⟨a, z, kvs, rfl, ha, h1, h2⟩ := h
    refine ⟨_, (pss_cons (ps_if (pt_cmp (pc_dnotin (hu_of hr) (pv 1) (pv 0)) (by rfl)) (pss_one (ps_raiseC rfl (takes_of rfl rfl rfl rfl) E_Unknown I_Unknown hr (by omega) (by rfl) (pa_cons (pv 1) pa_nil))) pss_nil)
 (pss_one (ps_ret (pe_dget (hu_of' hr) (pv 0) (pv 1) (fun _ _ => rfl))))), ?_⟩
    walk_at "rdF"
    refine ⟨a, _, rfl, dget_rd ha, ?_⟩
    walk_at "rdF"
    cases e : valV kvs (.inr z) with
    | none =>
      refine iteT ?_
      walk_at "rdF"
      exact rd_mk1 E_Unknown.ox N1 fun d H' _ sm e' => h2 e d H' sm e'
    | some v =>
      refine iteF ?_
      walk_at "rdF"
      exact ⟨a, v, rfl, by have := dget_rd (z := z) ha; rw [e] at this; exact this, h1 v e⟩
end
abbrev scheck_row_numbers : Stmt := topS 37
theorem sccheck_row_numbers : FnScope ["lamps", "bonds", "_", "ceiling", "spans", "low", "high"] ["lamps", "bonds"] (defScope scheck_row_numbers) := ⟨rfl, rfl, rfl, by decide +kernel, rfl, by decide +kernel, by decide +kernel⟩
structure BR where
  n : Str
  x : Str
  y : Str
  l : V
  h : V
def LampRow (d : PyData) (r : Str × V) : Prop := isSeq d = true ∧ kids d = [.str r.1, vD r.2] ∧ r.1.length ≤ 1000 ∧ Sc r.2
def BondRow (d : PyData) (r : BR) : Prop := isSeq d = true ∧ kids d = [.str r.n, .str r.x, .str r.y, vD r.l, vD r.h] ∧ r.n.length ≤ 1000 ∧ Sc r.l ∧ Sc r.h
structure RowsD {α : Type} (R : PyData → α → Prop) (d : PyData) (L : List α) : Prop where
  sq : isSeq d = true
  len : (kids d).length = L.length
  at_ : ∀ (i : Nat) (e : PyData), (kids d)[i]? = some e → ∃ r, L[i]? = some r ∧ R e r
def First {α : Type} (p : α → Prop) (l : List α) (v : α) : Prop := ∃ l1 l2, l = l1 ++ v :: l2 ∧ (∀ u ∈ l1, ¬ p u) ∧ p v
theorem First.mem {α : Type} {p : α → Prop} {l : List α} {v : α} (h : First p l v) : v ∈ l := by
  obtain ⟨l1, l2, rfl, _⟩ := h; simp
inductive PErr where
  | name (z : Str) | num (v : V) | span (l h : V) | dbl (z : Str) | self (z : Str) | unk (z : Str) | range (n l h : Int)
structure ECs where
  nm : Addr
  num : Addr
  sp : Addr
  dbl : Addr
  self : Addr
  unk : Addr
  rng : Addr
def ECs.of (c : ECs) : PErr → Addr
  | .name _ => c.nm | .num _ => c.num | .span _ _ => c.sp | .dbl _ => c.dbl | .self _ => c.self | .unk _ => c.unk | .range _ _ _ => c.rng
def PErr.flds : PErr → List (Str × V)
  | .name z => [("name", .str z)] | .num v => [("number", v)] | .span l h => [("high", h), ("low", l)] | .dbl z => [("name", .str z)] | .self z => [("bond", .str z)] | .unk z => [("name", .str z)]
  | .range n l h => [("high", .int h), ("low", .int l), ("number", .int n)]
def Raises (c : ECs) (E : XK) (H : Hp) (e : PErr) : Prop := ErrF E (c.of e) H e.flds
theorem Raises.same {c : ECs} {E : XK} {H H' : Hp} {e : PErr} (h : Raises c E H e) (s : Same H H') : Raises c E H' e := ErrF.same h s
abbrev lampNs (L : List (Str × V)) : List Str := L.map (·.1)
abbrev bondNs (B : List BR) : List Str := B.map (·.n)
def numsOf (L : List (Str × V)) (B : List BR) : List V := L.map (·.2) ++ B.flatMap fun r => [r.l, r.h]
def endsOf (B : List BR) : List Str := B.flatMap fun r => [r.x, r.y]
section
variable {P : Program} {w : World} {K : PySem.W.Frag} {mg : Str → Option Value} {base : Heap} {C CE CB CD : Addr} {U : Addr → Prop}
theorem RowsD.row {α : Type} {R : PyData → α → Prop} {d : PyData} {L : List α} (h : RowsD R d L) {i : Nat} {e : PyData} (he : (kids d)[i]? = some e) : ∃ r, L[i]? = some r ∧ R e r ∧ L = L.take i ++ r :: L.drop (i + 1) := by
  obtain ⟨r, h1, h2⟩ := h.at_ i e he
  refine ⟨r, h1, h2, ?_⟩
  obtain ⟨hl, e1⟩ := List.getElem?_eq_some_iff.mp h1
  rw [← e1]; simp
theorem take_succ {α : Type} {L : List α} {i : Nat} {r : α} (h : L[i]? = some r) : L.take (i + 1) = L.take i ++ [r] := by rw [List.take_add_one, h]; rfl
theorem isOpen_NI {x : V} (h : isOpen x = true) : NI x := by
  cases x <;> first | exact .inl rfl | exact .inr ⟨_, rfl⟩ | cases h
theorem RepQ.any {H : Hp} {v : V} {d : PyData} (h : RepQ K U H v d) : RepQ K (fun _ => True) H v d := h.to fun p o _ e => ⟨trivial, e⟩
theorem rep2 {H : Hp} {xs : List V} {a b : PyData} (h : RepL U H xs [a, b]) : ∃ u v, xs = [u, v] ∧ Rep U H u a ∧ Rep U H v b := by
  cases h with
  | cons h1 h => cases h with
    | cons h2 h => cases h; exact ⟨_, _, rfl, h1, h2⟩
theorem rep5 {H : Hp} {xs : List V} {a b c d e : PyData} (h : RepL U H xs [a, b, c, d, e]) : ∃ u v w x y, xs = [u, v, w, x, y] ∧ Rep U H u a ∧ Rep U H v b ∧ Rep U H w c ∧ Rep U H x d ∧ Rep U H y e := by
  cases h with
  | cons h1 h => cases h with
    | cons h2 h => cases h with
      | cons h3 h => cases h with
        | cons h4 h => cases h with
          | cons h5 h => cases h; exact ⟨_, _, _, _, _, rfl, h1, h2, h3, h4, h5⟩
def spRowNums (K : PySem.W.Frag) (CE CB : Addr) : Sp := fun vs H Q E => ∃ (U : Addr → Prop) (lv bv : V) (dl db : PyData) (L : List (Str × V)) (B : List BR), vs = [lv, bv] ∧ RepQ K U H lv dl ∧ RepQ K U H bv db ∧ RowsD LampRow dl L ∧ RowsD BondRow db B ∧ B.length ≤ 1000 ∧
  ((∀ v ∈ numsOf L B, isOpen v = true) → (∀ r ∈ B, crossed r.l r.h = false) → ∀ H', Same H H' → Q .non H') ∧ (∀ v, First (fun v => isOpen v = false) (numsOf L B) v → Err E CE H v) ∧ (∀ r, (∀ v ∈ numsOf L B, isOpen v = true) → First (fun r : BR => crossed r.l r.h = true) B r → ErrB E CB H r.l r.h)
def spanOf (e : PyData) : PyData := .tuple [(kids e).getD 3 .none, (kids e).getD 4 .none]
def spanD (r : BR) : PyData := .tuple [vD r.l, vD r.h]
theorem Ex.toSame {H H' : Hp} (e : Ex (fun _ => True) H H') : Same H H' := fun p o h => e.keep p o trivial h
theorem nums_first {L : List (Str × V)} {B : List BR} {i : Nat} {r : Str × V} (h : L[i]? = some r) (ho : ∀ q ∈ L.take i, isOpen q.2 = true) (hb : isOpen r.2 = false) : First (fun v => isOpen v = false) (numsOf L B) r.2 := by
  obtain ⟨hl, e1⟩ := List.getElem?_eq_some_iff.mp h
  have eL : L = L.take i ++ r :: L.drop (i + 1) := by rw [← e1]; simp
  refine ⟨(L.take i).map (·.2), (L.drop (i + 1)).map (·.2) ++ B.flatMap fun r => [r.l, r.h], ?_, fun u hu => ?_, hb⟩
  · unfold numsOf
    conv => lhs; rw [eL]
    simp
  · obtain ⟨q, hq, rfl⟩ := List.mem_map.mp hu
    simp [ho q hq]
theorem nums_first2 {L : List (Str × V)} {B : List BR} {i : Nat} {r : BR} (h : B[i]? = some r) (hL : ∀ q ∈ L, isOpen q.2 = true) (ho : ∀ q ∈ B.take i, isOpen q.l = true ∧ isOpen q.h = true) :
    (isOpen r.l = false → First (fun v => isOpen v = false) (numsOf L B) r.l) ∧ (isOpen r.l = true → isOpen r.h = false → First (fun v => isOpen v = false) (numsOf L B) r.h) := by
  obtain ⟨hl, e1⟩ := List.getElem?_eq_some_iff.mp h
  have eB : B = B.take i ++ r :: B.drop (i + 1) := by rw [← e1]; simp
  have hpre : ∀ u ∈ L.map (·.2) ++ (B.take i).flatMap fun r => [r.l, r.h], ¬ isOpen u = false := fun u hu => by
    rcases List.mem_append.mp hu with hu | hu
    · obtain ⟨q, hq, rfl⟩ := List.mem_map.mp hu
      simp [hL q hq]
    · obtain ⟨q, hq, hu⟩ := List.mem_flatMap.mp hu
      obtain ⟨a, b⟩ := ho q hq
      simp at hu
      rcases hu with rfl | rfl
      · rw [a]; simp
      · rw [b]; simp
  refine ⟨fun hb => ⟨_, r.h :: (B.drop (i + 1)).flatMap fun r => [r.l, r.h], ?_, hpre, hb⟩, fun ha hb => ⟨(L.map (·.2) ++ (B.take i).flatMap fun r => [r.l, r.h]) ++ [r.l], (B.drop (i + 1)).flatMap fun r => [r.l, r.h], ?_, fun u hu => ?_, hb⟩⟩
  · unfold numsOf
    conv => lhs; rw [eB]
    simp
  · unfold numsOf
    conv => lhs; rw [eB]
    simp
  · rcases List.mem_append.mp hu with hu | hu
    · exact hpre u hu
    · rw [List.mem_singleton.mp hu]; simp [ha]
theorem nums_all {L : List (Str × V)} {B : List BR} (hL : ∀ q ∈ L, isOpen q.2 = true) (hB : ∀ q ∈ B, isOpen q.l = true ∧ isOpen q.h = true) : ∀ v ∈ numsOf L B, isOpen v = true := fun v hv => by
  rcases List.mem_append.mp hv with hu | hu
  · obtain ⟨q, hq, rfl⟩ := List.mem_map.mp hu
    exact hL q hq
  · obtain ⟨q, hq, hu⟩ := List.mem_flatMap.mp hu
    obtain ⟨a, b⟩ := hB q hq
    simp at hu
    rcases hu with rfl | rfl
    · exact a
    · exact b
theorem first_at {B : List BR} {p : BR → Prop} {i : Nat} {r : BR} (h : B[i]? = some r) (ho : ∀ q ∈ B.take i, ¬ p q) (hb : p r) : First p B r := by
  obtain ⟨hl, e1⟩ := List.getElem?_eq_some_iff.mp h
  exact ⟨B.take i, B.drop (i + 1), by rw [← e1]; simp, ho, hb⟩
theorem take_all {α : Type} {L : List α} {p : α → Prop} {i : Nat} {r : α} (h : L[i]? = some r) (ho : ∀ q ∈ L.take i, p q) (hr : p r) : ∀ q ∈ L.take (i + 1), p q := fun q hq => by
  rw [take_succ h] at hq
  rcases List.mem_append.mp hq with hq | hq
  · exact ho q hq
  · rw [List.mem_singleton.mp hq]; exact hr
theorem ok_check_row_numbers {k : Nat} {f : Addr} {fd : FuncData} (F : Fun K "check_row_numbers" "check_row_numbers" scheck_row_numbers f fd) (T : Blt mg) (Hcheck_open_number : HasX P w K mg base "check_open_number" k ["value"] (spCheckO CE)) (Hcheck_low_high : HasX P w K mg base "check_low_high" k ["low", "high"] (spLowHigh CB)) : FnOk P w K mg base (L2.CX P w) (k + 1) f fd ["lamps", "bonds"] (spRowNums K CE CB) := by
  refine F.okX sccheck_row_numbers (fun vs H Q E h => ?_) (fun cdv A outer s H vs Q E hr h => ?_)
  · obtain ⟨U, lv, bv, dl, db, L, B, rfl, _⟩ := h; rfl
  · obtain ⟨U0, lv, bv, dl, db, L, B, rfl, hl, hb, rl, rb, lB, h1, h2, h3⟩ := h
    refine ⟨_, (pss_cons (ps_for (passes_of rfl) rfl (pi_seq (pv 0)) (pg_seqU (K := K) rfl rfl (pgs_cons (pg_name (i := 2) sccheck_row_numbers.nd rfl (.inl rfl)) (pgs_cons (pg_name (i := 3) sccheck_row_numbers.nd rfl (.inl rfl)) pgs_nil))) (pss_one (ps_expr (pe_callX Hcheck_open_number hr (by rfl) (takes_of rfl rfl rfl rfl) (pa_cons (pv 3) pa_nil)))))
 (pss_cons (ps_setLc (i := 4) (own := [("_", 2), ("low", 5), ("high", 6)]) (g := (gSeq K 5 (gCons (gName 2) (gCons (gName 2) (gCons (gName 2) (gCons (gName 5) (gCons (gName 6) gNil))))))) (by rfl) sccheck_row_numbers.nd rfl rfl (sw_true rfl rfl rfl (by decide +kernel)) (pi_seq (pv 1)) (blkOk_by (own := [("_", 2), ("low", 5), ("high", 6)]) (N := ["lamps", "bonds", "_", "ceiling", "spans", "low", "high"]) (sc := defScope scheck_row_numbers) (by decide +kernel)) (fun _ _ _ _ _ => (pg_seqU (K := K) rfl rfl (pgs_cons (pg_name (i := 2) sccheck_row_numbers.nd rfl (.inl rfl)) (pgs_cons (pg_name (i := 2) sccheck_row_numbers.nd rfl (.inl rfl)) (pgs_cons (pg_name (i := 2) sccheck_row_numbers.nd rfl (.inl rfl)) (pgs_cons (pg_name (i := 5) sccheck_row_numbers.nd rfl (.inl rfl)) (pgs_cons (pg_name (i := 6) sccheck_row_numbers.nd rfl (.inl rfl)) pgs_nil))))))) (fun _ _ _ _ _ => pts_nil) (fun _ _ _ _ _ => (pe_tup (pa_cons (pv 5) (pa_cons (pv 6) pa_nil)))))
 (pss_cons (ps_for (passes_of rfl) rfl (pi_seq (pv 4)) (pg_seqU (K := K) rfl rfl (pgs_cons (pg_name (i := 5) sccheck_row_numbers.nd rfl (.inl rfl)) (pgs_cons (pg_name (i := 6) sccheck_row_numbers.nd rfl (.inl rfl)) pgs_nil))) (pss_cons (ps_expr (pe_callX Hcheck_open_number hr (by rfl) (takes_of rfl rfl rfl rfl) (pa_cons (pv 5) pa_nil)))
 (pss_one (ps_expr (pe_callX Hcheck_open_number hr (by rfl) (takes_of rfl rfl rfl rfl) (pa_cons (pv 6) pa_nil))))))
 (pss_one (ps_for (passes_of rfl) rfl (pi_seq (pv 4)) (pg_seqU (K := K) rfl rfl (pgs_cons (pg_name (i := 5) sccheck_row_numbers.nd rfl (.inl rfl)) (pgs_cons (pg_name (i := 6) sccheck_row_numbers.nd rfl (.inl rfl)) pgs_nil))) (pss_one (ps_expr (pe_callX Hcheck_low_high hr (by rfl) (takes_of rfl rfl rfl rfl) (pa_cons (pv 5) (pa_cons (pv 6) pa_nil)))))))))), ?_⟩
    walk_at "rdF"
    refine for_seqR (U := fun _ => True) hl.any rl.sq (fun i σ H' => ∃ y2 y3, σ = [some lv, some bv, y2, y3, none, none, none] ∧ Same H H' ∧ ∀ r ∈ L.take i, isOpen r.2 = true) ⟨_, _, rfl, Same.refl _, by simp⟩ (fun i σ H' h => ?_) ?_ ?_
    · obtain ⟨_, _, _, s, _⟩ := h; exact .same s
    · rintro i x e σ H' he hx ⟨y2, y3, rfl, sm, ho⟩
      obtain ⟨r, hr', lr, _⟩ := rl.row he
      refine rd_gSeq hx lr.1 (by rw [lr.2.1]; rfl) fun xs rx => ?_
      rw [lr.2.1] at rx
      obtain ⟨u, v, rfl, ru, rv⟩ := rep2 rx
      cases ru.strI
      cases rv.scI lr.2.2.2
      walk_at "rdF"
      refine ⟨_, rfl, lr.2.2.2, fun ok => ?_, fun bad => ?_⟩
      · walk_at "rdF"
        exact ⟨_, _, rfl, sm, take_all hr' ho ok⟩
      · exact ErrF.same (fs := [("number", r.2)]) (h2 _ (nums_first hr' ho bad)) sm
    · rintro σ H1 ⟨y2, y3, rfl, s1, hL⟩
      rw [rl.len, List.take_length] at hL
      walk_at "rdF"
      refine lc_seq (U := fun _ => True) (fun ds => ds.map spanOf) (fun _ => True) (hb.any.same s1) rb.sq (fun _ _ => trivial) rfl (fun _ _ => trivial) ?_ ?_
      · rintro D i x e H' uD nD he hx hI
        obtain ⟨r, hr', br, _⟩ := rb.row he
        refine rd_gSeq hx br.1 (by rw [br.2.1]; rfl) fun xs rx => ?_
        rw [br.2.1] at rx
        obtain ⟨a1, a2, a3, a4, a5, rfl, r1, r2, r3, r4, r5⟩ := rep5 rx
        cases r4.scI br.2.2.2.1
        cases r5.scI br.2.2.2.2
        walk_at "rdF"
        refine ⟨rfl, ?_⟩
        walk_at "rdF"
        refine ⟨sz (by simp), fun p np => ?_⟩
        refine hI.put (e := spanD r) (.new np) trivial nD (fun _ => trivial) (.tup ⟨trivial, hI.ne np⟩ upd_same (.cons (.sc br.2.2.2.1) (.cons (.sc br.2.2.2.2) .nil))) ?_ ?_
        · rw [List.length_map, List.length_take, rb.len]; omega
        · rw [take_succ he, List.map_append]
          show _ = _ ++ [spanD r]
          unfold spanD
          show _ ++ [spanOf e] = _
          unfold spanOf
          rw [br.2.1]; rfl
      · rintro sp acc H2 e2 _ _ hsp hacc _
        have s2 := s1.trans e2.toSame
        have rsp : Rep (fun _ => True) H2 (.ref sp) (.list ((kids db).map spanOf)) := .lst trivial hsp (hacc.less fun _ _ => trivial)
        have row : ∀ (i : Nat) (e : PyData), (kids (.list ((kids db).map spanOf)))[i]? = some e → ∃ r, B[i]? = some r ∧ e = spanD r ∧ Sc r.l ∧ Sc r.h := fun i e he => by
          have he : ((kids db).map spanOf)[i]? = some e := he
          rw [List.getElem?_map] at he
          cases q : (kids db)[i]? with
          | none => rw [q] at he; cases he
          | some e0 =>
            rw [q] at he
            obtain ⟨r, hr', br, _⟩ := rb.row q
            have e1 : spanOf e0 = e := Option.some.inj he
            refine ⟨r, hr', ?_, br.2.2.2.1, br.2.2.2.2⟩
            rw [← e1]; unfold spanOf spanD; rw [br.2.1]; rfl
        have lsp : (kids (.list ((kids db).map spanOf))).length = B.length := by show ((kids db).map spanOf).length = _; rw [List.length_map, rb.len]
        walk_at "rdF"
        refine for_seqR (U := fun _ => True) (.inl rsp) rfl (fun i σ H' => ∃ y2 y3 y5 y6, σ = [some lv, some bv, y2, y3, some (.ref sp), y5, y6] ∧ Same H2 H' ∧ ∀ r ∈ B.take i, isOpen r.l = true ∧ isOpen r.h = true) ⟨_, _, _, _, rfl, Same.refl _, by simp⟩ (fun i σ H' h => ?_) ?_ ?_
        · obtain ⟨_, _, _, _, _, s, _⟩ := h; exact .same s
        · rintro i x e σ H' he hx ⟨y2, y3, y5, y6, rfl, sm, ho⟩
          obtain ⟨r, hr', rfl, sl, sh⟩ := row i e he
          obtain ⟨f1, f2⟩ := nums_first2 hr' hL ho
          refine rd_gSeq hx rfl rfl fun xs rx => ?_
          obtain ⟨u, v, rfl, ru, rv⟩ := rep2 rx
          cases ru.scI sl
          cases rv.scI sh
          walk_at "rdF"
          refine ⟨_, rfl, sl, fun ok => ?_, fun bad => ErrF.same (fs := [("number", r.l)]) (h2 _ (f1 bad)) (s2.trans sm)⟩
          walk_at "rdF"
          refine ⟨_, rfl, sh, fun ok2 => ?_, fun bad => ErrF.same (fs := [("number", r.h)]) (h2 _ (f2 ok bad)) (s2.trans sm)⟩
          walk_at "rdF"
          exact ⟨_, _, _, _, rfl, sm, take_all hr' ho ⟨ok, ok2⟩⟩
        · rintro σ H3 ⟨y2, y3, y5, y6, rfl, s3, hB⟩
          rw [lsp, List.take_length] at hB
          walk_at "rdF"
          refine for_seqR (U := fun _ => True) (.inl (rsp.same s3)) rfl (fun i σ H' => ∃ y2 y3 y5 y6, σ = [some lv, some bv, y2, y3, some (.ref sp), y5, y6] ∧ Same H3 H' ∧ ∀ r ∈ B.take i, ¬ crossed r.l r.h = true) ⟨_, _, _, _, rfl, Same.refl _, by simp⟩ (fun i σ H' h => ?_) ?_ ?_
          · obtain ⟨_, _, _, _, _, s, _⟩ := h; exact .same s
          · rintro i x e σ H' he hx ⟨y2, y3, y5, y6, rfl, sm, ho⟩
            obtain ⟨r, hr', rfl, sl, sh⟩ := row i e he
            obtain ⟨ol, oh⟩ := hB r (List.mem_of_getElem? hr')
            refine rd_gSeq hx rfl rfl fun xs rx => ?_
            obtain ⟨u, v, rfl, ru, rv⟩ := rep2 rx
            cases ru.scI sl
            cases rv.scI sh
            walk_at "rdF"
            refine ⟨_, _, rfl, isOpen_NI ol, isOpen_NI oh, fun ok => ?_, fun bad => ErrF.same (fs := [("high", r.h), ("low", r.l)]) (h3 r (nums_all hL hB) (first_at hr' ho bad)) ((s2.trans s3).trans sm)⟩
            walk_at "rdF"
            exact ⟨_, _, _, _, rfl, sm, take_all hr' ho (by simp [ok])⟩
          · rintro σ H4 ⟨y2, y3, y5, y6, rfl, s4, hC⟩
            rw [lsp, List.take_length] at hC
            walk_at "rdF"
            exact h1 (nums_all hL hB) (fun r hr => by simpa using hC r hr) H4 ((s2.trans s3).trans s4)
end
abbrev scheck_row_ends : Stmt := topS 38
theorem sccheck_row_ends : FnScope ["lamp_names", "bonds", "bond", "first", "second", "_", "end"] ["lamp_names", "bonds"] (defScope scheck_row_ends) := ⟨rfl, rfl, rfl, by decide +kernel, rfl, by decide +kernel, by decide +kernel⟩
abbrev scheck_rows : Stmt := topS 36
theorem sccheck_rows : FnScope ["lamps", "bonds", "lamp_names", "bond_names", "name", "row"] ["lamps", "bonds"] (defScope scheck_rows) := ⟨rfl, rfl, rfl, by decide +kernel, rfl, by decide +kernel, by decide +kernel⟩
abbrev skept_bond_row : Stmt := topS 39
theorem sckept_bond_row : FnScope ["row", "name", "first", "second", "low", "high"] ["row"] (defScope skept_bond_row) := ⟨rfl, rfl, rfl, by decide +kernel, rfl, by decide +kernel, by decide +kernel⟩
section
variable {P : Program} {w : World} {K : PySem.W.Frag} {mg : Str → Option Value} {base : Heap} {C CE CB CD CU CS CN CR : Addr}
def spRowEnds (K : PySem.W.Frag) (CS CU : Addr) : Sp := fun vs H Q E => ∃ (U : Addr → Prop) (np : Addr) (bv : V) (db : PyData) (N : List Str) (B : List BR), vs = [.ref np, bv] ∧ H np = some (.lst (N.map V.str)) ∧ RepQ K U H bv db ∧ RowsD BondRow db B ∧
  ((∀ r ∈ B, r.x ≠ r.y) → (∀ z ∈ endsOf B, z ∈ N) → ∀ H', Same H H' → Q .non H') ∧ (∀ r, First (fun r : BR => r.x = r.y) B r → ErrF E CS H [("bond", .str r.n)]) ∧ (∀ z, (∀ r ∈ B, r.x ≠ r.y) → First (fun z => z ∉ N) (endsOf B) z → ErrF E CU H [("name", .str z)])
theorem ends_first {B : List BR} {N : List Str} {i : Nat} {r : BR} (h : B[i]? = some r) (ho : ∀ q ∈ B.take i, q.x ∈ N ∧ q.y ∈ N) :
    (r.x ∉ N → First (fun z => z ∉ N) (endsOf B) r.x) ∧ (r.x ∈ N → r.y ∉ N → First (fun z => z ∉ N) (endsOf B) r.y) := by
  obtain ⟨hl, e1⟩ := List.getElem?_eq_some_iff.mp h
  have eB : B = B.take i ++ r :: B.drop (i + 1) := by rw [← e1]; simp
  have hpre : ∀ u ∈ (B.take i).flatMap fun r => [r.x, r.y], ¬ u ∉ N := fun u hu => by
    obtain ⟨q, hq, hu⟩ := List.mem_flatMap.mp hu
    obtain ⟨a, b⟩ := ho q hq
    simp at hu
    rcases hu with rfl | rfl
    · exact fun c => c a
    · exact fun c => c b
  refine ⟨fun hb => ⟨_, r.y :: (B.drop (i + 1)).flatMap fun r => [r.x, r.y], ?_, hpre, hb⟩, fun ha hb => ⟨((B.take i).flatMap fun r => [r.x, r.y]) ++ [r.x], (B.drop (i + 1)).flatMap fun r => [r.x, r.y], ?_, fun u hu => ?_, hb⟩⟩
  · unfold endsOf
    conv => lhs; rw [eB]
    simp
  · unfold endsOf
    conv => lhs; rw [eB]
    simp
  · rcases List.mem_append.mp hu with hu | hu
    · exact hpre u hu
    · rw [List.mem_singleton.mp hu]; exact fun c => c ha
theorem ends_all {B : List BR} {N : List Str} (h : ∀ q ∈ B, q.x ∈ N ∧ q.y ∈ N) : ∀ z ∈ endsOf B, z ∈ N := fun z hz => by
  obtain ⟨q, hq, hu⟩ := List.mem_flatMap.mp hz
  simp at hu
  rcases hu with rfl | rfl
  · exact (h q hq).1
  · exact (h q hq).2
theorem decStr {a b : Str} : decide (V.str a = V.str b) = decide (a = b) := by simp
theorem ok_check_row_ends {k : Nat} {f : Addr} {fd : FuncData} (F : Fun K "check_row_ends" "check_row_ends" scheck_row_ends f fd) (T : Blt mg) (E_SelfBond : ErrC K mg "SelfBond" CS) (I_SelfBond : HasI P w K mg base CS 1 ["self", "bond"] (spInit1 K "bond")) (N1 : PySem.W.findIn K (.ref CS) "bond" = some none) (E_Unknown : ErrC K mg "Unknown" CU) (I_Unknown : HasI P w K mg base CU 1 ["self", "name"] (spInit1 K "name")) (N2 : PySem.W.findIn K (.ref CU) "name" = some none) (hk : 2 ≤ k) : FnOk P w K mg base (L2.CX P w) (k + 1) f fd ["lamp_names", "bonds"] (spRowEnds K CS CU) := by
  refine F.okX sccheck_row_ends (fun vs H Q E h => ?_) (fun cdv A outer s H vs Q E hr h => ?_)
  · obtain ⟨U, np, bv, db, N, B, rfl, _⟩ := h; rfl
  · obtain ⟨U0, np, bv, db, N, B, rfl, hN, hb, rb, h1, h2, h3⟩ := h
    refine ⟨_, (pss_cons (ps_for (passes_of rfl) rfl (pi_seq (pv 1)) (pg_seqU (K := K) rfl rfl (pgs_cons (pg_name (i := 2) sccheck_row_ends.nd rfl (.inl rfl)) (pgs_cons (pg_name (i := 3) sccheck_row_ends.nd rfl (.inl rfl)) (pgs_cons (pg_name (i := 4) sccheck_row_ends.nd rfl (.inl rfl)) (pgs_cons (pg_name (i := 5) sccheck_row_ends.nd rfl (.inl rfl)) (pgs_cons (pg_name (i := 5) sccheck_row_ends.nd rfl (.inl rfl)) pgs_nil)))))) (pss_one (ps_if (pt_cmpR op_eq (pv 3) (pv 4) (nomark _)) (pss_one (ps_raiseC rfl (takes_of rfl rfl rfl rfl) E_SelfBond I_SelfBond hr (by omega) (by rfl) (pa_cons (pv 2) pa_nil))) pss_nil)))
 (pss_one (ps_for (passes_of rfl) rfl (pi_seq (pv 1)) (pg_seqU (K := K) rfl rfl (pgs_cons (pg_name (i := 5) sccheck_row_ends.nd rfl (.inl rfl)) (pgs_cons (pg_name (i := 3) sccheck_row_ends.nd rfl (.inl rfl)) (pgs_cons (pg_name (i := 4) sccheck_row_ends.nd rfl (.inl rfl)) (pgs_cons (pg_name (i := 5) sccheck_row_ends.nd rfl (.inl rfl)) (pgs_cons (pg_name (i := 5) sccheck_row_ends.nd rfl (.inl rfl)) pgs_nil)))))) (pss_one (ps_for (passes_of rfl) rfl (pi_tup (pe_tup (pa_cons (pv 3) (pa_cons (pv 4) pa_nil)))) (pg_name (i := 6) sccheck_row_ends.nd rfl (.inl rfl)) (pss_one (ps_if (pt_cmpR (op_notin_seqR (K := K) rfl) (pv 6) (pv 0) (by rfl)) (pss_one (ps_raiseC rfl (takes_of rfl rfl rfl rfl) E_Unknown I_Unknown hr (by omega) (by rfl) (pa_cons (pv 6) pa_nil))) pss_nil))))))), ?_⟩
    walk_at "rdF"
    refine for_seqR (U := fun _ => True) hb.any rb.sq (fun i σ H' => ∃ y2 y3 y4 y5 y6, σ = [some (.ref np), some bv, y2, y3, y4, y5, y6] ∧ Same H H' ∧ ∀ r ∈ B.take i, ¬ r.x = r.y) ⟨_, _, _, _, _, rfl, Same.refl _, by simp⟩ (fun i σ H' h => ?_) ?_ ?_
    · obtain ⟨_, _, _, _, _, _, s, _⟩ := h; exact .same s
    · rintro i x e σ H' he hx ⟨y2, y3, y4, y5, y6, rfl, sm, ho⟩
      obtain ⟨r, hr', br, _⟩ := rb.row he
      refine rd_gSeq hx br.1 (by rw [br.2.1]; rfl) fun xs rx => ?_
      rw [br.2.1] at rx
      obtain ⟨a1, a2, a3, a4, a5, rfl, r1, r2, r3, r4, r5⟩ := rep5 rx
      cases r1.strI
      cases r2.strI
      cases r3.strI
      walk_at "rdF"
      rw [decStr]
      refine if_dec (fun hxy => ?_) (fun hxy => ?_)
      · walk_at "rdF"
        exact rd_mk1 E_SelfBond.ox N1 fun d H'' _ s' e' => h2 r (first_at hr' ho hxy) d H'' (sm.trans s') e'
      · walk_at "rdF"
        exact ⟨_, _, _, _, _, rfl, sm, take_all hr' ho hxy⟩
    · rintro σ H1 ⟨y2, y3, y4, y5, y6, rfl, s1, hS⟩
      rw [rb.len, List.take_length] at hS
      walk_at "rdF"
      refine for_seqR (U := fun _ => True) (hb.any.same s1) rb.sq (fun i σ H' => ∃ y2 y3 y4 y5 y6, σ = [some (.ref np), some bv, y2, y3, y4, y5, y6] ∧ Same H1 H' ∧ ∀ r ∈ B.take i, r.x ∈ N ∧ r.y ∈ N) ⟨_, _, _, _, _, rfl, Same.refl _, by simp⟩ (fun i σ H' h => ?_) ?_ ?_
      · obtain ⟨_, _, _, _, _, _, s, _⟩ := h; exact .same s
      · rintro i x e σ H' he hx ⟨y2, y3, y4, y5, y6, rfl, sm, ho⟩
        obtain ⟨r, hr', br, _⟩ := rb.row he
        obtain ⟨f1, f2⟩ := ends_first (N := N) hr' ho
        have sA := s1.trans sm
        refine rd_gSeq hx br.1 (by rw [br.2.1]; rfl) fun xs rx => ?_
        rw [br.2.1] at rx
        obtain ⟨a1, a2, a3, a4, a5, rfl, r1, r2, r3, r4, r5⟩ := rep5 rx
        cases r1.strI
        cases r2.strI
        cases r3.strI
        walk_at "rdF"
        refine ⟨sz (by simp), fun tp ntp => ?_⟩
        have st := same_new (o := .tup [.str r.x, .str r.y]) ntp
        refine ⟨tp, rfl, ⟨_, st_of upd_same⟩, L2.for_tup (xs := [.str r.x, .str r.y]) (fun j σ H'' => ∃ y2 y3 y4 y5 y6, σ = [some (.ref np), some bv, y2, y3, y4, y5, y6] ∧ Same (upd H' tp (.tup [.str r.x, .str r.y])) H'' ∧ (1 ≤ j → r.x ∈ N) ∧ (2 ≤ j → r.y ∈ N)) ⟨_, _, _, _, _, rfl, Same.refl _, by simp, by simp⟩ (fun j σ H'' _ h => ?_) ?_ ?_⟩
        · obtain ⟨_, _, _, _, _, _, s, _⟩ := h
          exact st_of (s _ _ upd_same)
        · rintro j v σ H'' hv ⟨y2, y3, y4, y5, y6, rfl, sm2, hx1, hx2⟩
          have sB := (sA.trans st).trans sm2
          have hN' := sB _ _ hN
          have hv' : ∃ z, v = .str z ∧ ((j = 0 ∧ z = r.x) ∨ (j = 1 ∧ z = r.y)) := by
            match j with
            | 0 => simp at hv; exact ⟨_, hv.symm, .inl ⟨rfl, rfl⟩⟩
            | 1 => simp at hv; exact ⟨_, hv.symm, .inr ⟨rfl, rfl⟩⟩
            | j + 2 => simp at hv
          obtain ⟨z, rfl, hz⟩ := hv'
          walk_at "rdF"
          refine ⟨np, _, rfl, .inl (sl_of hN'), rfl, flat_strs _, ?_⟩
          rw [inV_strs]
          refine ⟨_, rfl, ?_⟩
          refine if_ndec (fun hn => ?_) (fun hn => ?_)
          · walk_at "rdF"
            refine rd_mk1 E_Unknown.ox N2 fun d H3 _ s' e' => ?_
            refine h3 z hS ?_ d H3 (sB.trans s') e'
            rcases hz with ⟨rfl, rfl⟩ | ⟨rfl, rfl⟩
            · exact f1 hn
            · exact f2 (hx1 (by omega)) hn
          · walk_at "rdF"
            refine ⟨_, _, _, _, _, rfl, sm2, fun _ => ?_, fun _ => ?_⟩
            · rcases hz with ⟨rfl, rfl⟩ | ⟨rfl, rfl⟩
              · exact hn
              · exact hx1 (by omega)
            · rcases hz with ⟨rfl, rfl⟩ | ⟨rfl, rfl⟩
              · omega
              · exact hn
        · rintro σ H'' ⟨y2, y3, y4, y5, y6, rfl, sm2, hx1, hx2⟩
          exact ⟨_, _, _, _, _, rfl, (sm.trans st).trans sm2, take_all hr' ho ⟨hx1 (by simp), hx2 (by simp)⟩⟩
      · rintro σ H2 ⟨y2, y3, y4, y5, y6, rfl, s2, hE⟩
        rw [rb.len, List.take_length] at hE
        walk_at "rdF"
        exact h1 hS (ends_all hE) H2 (s1.trans s2)
structure Right1 (L : List (Str × V)) (B : List BR) : Prop where
  nm : ∀ z ∈ lampNs L ++ bondNs B, isNm z = true
structure Right2 (L : List (Str × V)) (B : List BR) : Prop extends Right1 L B where
  num : ∀ v ∈ numsOf L B, isOpen v = true
structure Right3 (L : List (Str × V)) (B : List BR) : Prop extends Right2 L B where
  sp : ∀ r ∈ B, crossed r.l r.h = false
structure Right4 (L : List (Str × V)) (B : List BR) : Prop extends Right3 L B where
  dl : (lampNs L).Nodup
structure Right5 (L : List (Str × V)) (B : List BR) : Prop extends Right4 L B where
  db : (bondNs B).Nodup
structure Right6 (L : List (Str × V)) (B : List BR) : Prop extends Right5 L B where
  sf : ∀ r ∈ B, r.x ≠ r.y
structure Right7 (L : List (Str × V)) (B : List BR) : Prop extends Right6 L B where
  unk : ∀ z ∈ endsOf B, z ∈ lampNs L
structure Right8 (L : List (Str × V)) (B : List BR) : Prop extends Right7 L B where
  l1 : 1 ≤ L.length
  l10 : L.length ≤ 10
structure Right (L : List (Str × V)) (B : List BR) : Prop extends Right8 L B where
  l16 : B.length ≤ 16
inductive Wrong (L : List (Str × V)) (B : List BR) : PErr → Prop where
  | name {z : Str} : First (fun z => isNm z = false) (lampNs L ++ bondNs B) z → Wrong L B (.name z)
  | num {v : V} : Right1 L B → First (fun v => isOpen v = false) (numsOf L B) v → Wrong L B (.num v)
  | span {r : BR} : Right2 L B → First (fun r : BR => crossed r.l r.h = true) B r → Wrong L B (.span r.l r.h)
  | dblL {z : Str} : Right3 L B → firstDup [] (lampNs L) = some z → Wrong L B (.dbl z)
  | dblB {z : Str} : Right4 L B → firstDup [] (bondNs B) = some z → Wrong L B (.dbl z)
  | self {r : BR} : Right5 L B → First (fun r : BR => r.x = r.y) B r → Wrong L B (.self r.n)
  | unk {z : Str} : Right6 L B → First (fun z => z ∉ lampNs L) (endsOf B) z → Wrong L B (.unk z)
  | lamps : Right7 L B → ¬ ((1 : Int) ≤ L.length ∧ (L.length : Int) ≤ 10) → Wrong L B (.range L.length 1 10)
  | bonds : Right8 L B → ¬ ((0 : Int) ≤ B.length ∧ (B.length : Int) ≤ 16) → Wrong L B (.range B.length 0 16)
def spCheckRows (K : PySem.W.Frag) (c : ECs) : Sp := fun vs H Q E => ∃ (U : Addr → Prop) (lv bv : V) (dl db : PyData) (L : List (Str × V)) (B : List BR), vs = [lv, bv] ∧ RepQ K U H lv dl ∧ RepQ K U H bv db ∧ RowsD LampRow dl L ∧ RowsD BondRow db B ∧ L.length ≤ 1000 ∧ B.length ≤ 1000 ∧
  (Right L B → ∀ H', Same H H' → Q .non H') ∧ (∀ e, Wrong L B e → Raises c E H e)
theorem heads_l {dl : PyData} {L : List (Str × V)} (h : RowsD LampRow dl L) : (kids dl).map (fun e => (kids e).getD 0 .none) = (lampNs L).map PyData.str := by
  apply List.ext_getElem?
  intro i
  rw [List.getElem?_map, List.getElem?_map, List.getElem?_map]
  cases q : (kids dl)[i]? with
  | none =>
    have hl := List.getElem?_eq_none_iff.mp q
    rw [List.getElem?_eq_none (by rw [← h.len]; exact hl)]; rfl
  | some e =>
    obtain ⟨r, h1, h2, _⟩ := h.row q
    rw [h1]
    show some ((kids e).getD 0 .none) = _
    rw [h2.2.1]; rfl
theorem heads_b {db : PyData} {B : List BR} (h : RowsD BondRow db B) : (kids db).map (fun e => (kids e).getD 0 .none) = (bondNs B).map PyData.str := by
  apply List.ext_getElem?
  intro i
  rw [List.getElem?_map, List.getElem?_map, List.getElem?_map]
  cases q : (kids db)[i]? with
  | none =>
    have hl := List.getElem?_eq_none_iff.mp q
    rw [List.getElem?_eq_none (by rw [← h.len]; exact hl)]; rfl
  | some e =>
    obtain ⟨r, h1, h2, _⟩ := h.row q
    rw [h1]
    show some ((kids e).getD 0 .none) = _
    rw [h2.2.1]; rfl
theorem name_len {dl : PyData} {L : List (Str × V)} (h : RowsD LampRow dl L) : ∀ z ∈ lampNs L, z.length ≤ 1000 := fun z hz => by
  obtain ⟨r, hr, rfl⟩ := List.mem_map.mp hz
  obtain ⟨i, hi, e⟩ := List.mem_iff_getElem.mp hr
  have hk : i < (kids dl).length := by rw [h.len]; exact hi
  obtain ⟨r', h1, h2, _⟩ := h.row (List.getElem?_eq_getElem hk)
  rw [List.getElem?_eq_getElem hi] at h1
  have : L[i] = r' := Option.some.inj h1
  rw [← e, this]; exact h2.2.2.1
theorem name_lenB {db : PyData} {B : List BR} (h : RowsD BondRow db B) : ∀ z ∈ bondNs B, z.length ≤ 1000 := fun z hz => by
  obtain ⟨r, hr, rfl⟩ := List.mem_map.mp hz
  obtain ⟨i, hi, e⟩ := List.mem_iff_getElem.mp hr
  have hk : i < (kids db).length := by rw [h.len]; exact hi
  obtain ⟨r', h1, h2, _⟩ := h.row (List.getElem?_eq_getElem hk)
  rw [List.getElem?_eq_getElem hi] at h1
  have : B[i] = r' := Option.some.inj h1
  rw [← e, this]; exact h2.2.2.1
theorem first_list {α : Type} {L : List α} {p : α → Prop} {i : Nat} {r : α} (h : L[i]? = some r) (ho : ∀ q ∈ L.take i, ¬ p q) (hb : p r) : First p L r := by
  obtain ⟨hl, e1⟩ := List.getElem?_eq_some_iff.mp h
  exact ⟨L.take i, L.drop (i + 1), by rw [← e1]; simp, ho, hb⟩
theorem ok_check_rows {k : Nat} {f : Addr} {fd : FuncData} {c : ECs} (F : Fun K "check_rows" "check_rows" scheck_rows f fd) (T : Blt mg) (Hcheck_name : HasX P w K mg base "check_name" k ["text"] (spCheckName c.nm)) (Hcheck_row_numbers : HasX P w K mg base "check_row_numbers" k ["lamps", "bonds"] (spRowNums K c.num c.sp)) (Hcheck_unlike : HasX P w K mg base "check_unlike" k ["items"] (spCheckUnlike c.dbl))
    (Hcheck_row_ends : HasX P w K mg base "check_row_ends" k ["lamp_names", "bonds"] (spRowEnds K c.self c.unk)) (Hcheck_between : HasX P w K mg base "check_between" k ["number", "low", "high"] (spBetween c.rng)) : FnOk P w K mg base (L2.CX P w) (k + 1) f fd ["lamps", "bonds"] (spCheckRows K c) := by
  refine F.okX sccheck_rows (fun vs H Q E h => ?_) (fun cdv A outer s H vs Q E hr h => ?_)
  · obtain ⟨U, lv, bv, dl, db, L, B, rfl, _⟩ := h; rfl
  · obtain ⟨U0, lv, bv, dl, db, L, B, rfl, hl, hb, rl, rb, lL, lB, h1, h2⟩ := h
    refine ⟨_, (pss_cons (ps_setLc (i := 2) (own := [("row", 5)]) (g := (gName 5)) (by rfl) sccheck_rows.nd rfl rfl (sw_true rfl rfl rfl (by decide +kernel)) (pi_seq (pv 0)) (blkOk_by (own := [("row", 5)]) (N := ["lamps", "bonds", "lamp_names", "bond_names", "name", "row"]) (sc := defScope scheck_rows) (by decide +kernel)) (fun _ _ _ _ _ => (pg_name (i := 5) sccheck_rows.nd rfl (.inl rfl))) (fun _ _ _ _ _ => pts_nil) (fun _ _ _ _ _ => (pe_ix (ix_seqR (K := K) rfl) (pv 5) pe_int (fun _ _ => rfl))))
 (pss_cons (ps_setLc (i := 3) (own := [("row", 5)]) (g := (gName 5)) (by rfl) sccheck_rows.nd rfl rfl (sw_true rfl rfl rfl (by decide +kernel)) (pi_seq (pv 1)) (blkOk_by (own := [("row", 5)]) (N := ["lamps", "bonds", "lamp_names", "bond_names", "name", "row"]) (sc := defScope scheck_rows) (by decide +kernel)) (fun _ _ _ _ _ => (pg_name (i := 5) sccheck_rows.nd rfl (.inl rfl))) (fun _ _ _ _ _ => pts_nil) (fun _ _ _ _ _ => (pe_ix (ix_seqR (K := K) rfl) (pv 5) pe_int (fun _ _ => rfl))))
 (pss_cons (ps_for (passes_of rfl) rfl (pi_seq (pe_op op_cat (pv 2) (pv 3))) (pg_name (i := 4) sccheck_rows.nd rfl (.inl rfl)) (pss_one (ps_expr (pe_callX Hcheck_name hr (by rfl) (takes_of rfl rfl rfl rfl) (pa_cons (pv 4) pa_nil)))))
 (pss_cons (ps_expr (pe_callX Hcheck_row_numbers hr (by rfl) (takes_of rfl rfl rfl rfl) (pa_cons (pv 0) (pa_cons (pv 1) pa_nil))))
 (pss_cons (ps_expr (pe_callX Hcheck_unlike hr (by rfl) (takes_of rfl rfl rfl rfl) (pa_cons (pv 2) pa_nil)))
 (pss_cons (ps_expr (pe_callX Hcheck_unlike hr (by rfl) (takes_of rfl rfl rfl rfl) (pa_cons (pv 3) pa_nil)))
 (pss_cons (ps_expr (pe_callX Hcheck_row_ends hr (by rfl) (takes_of rfl rfl rfl rfl) (pa_cons (pv 2) (pa_cons (pv 1) pa_nil))))
 (pss_cons (ps_expr (pe_callX Hcheck_between hr (by rfl) (takes_of rfl rfl rfl rfl) (pa_cons (pe_callB call_len_seq (by rfl) T.len (by decide +kernel) (pa_cons (pv 0) pa_nil)) (pa_cons pe_int (pa_cons (pe_globI rfl T.g_MOST_LAMPS) pa_nil)))))
 (pss_one (ps_expr (pe_callX Hcheck_between hr (by rfl) (takes_of rfl rfl rfl rfl) (pa_cons (pe_callB call_len_seq (by rfl) T.len (by decide +kernel) (pa_cons (pv 1) pa_nil)) (pa_cons pe_int (pa_cons (pe_globI rfl T.g_MOST_BONDS) pa_nil)))))))))))))), ?_⟩
    walk_at "rdF"
    refine lc_seq (U := fun _ => True) (fun ds => ds.map fun e => (kids e).getD 0 .none) (fun _ => True) hl.any rl.sq (fun _ _ => trivial) rfl (fun _ _ => trivial) ?_ ?_
    · rintro D i x e H' uD nD he hx hI
      obtain ⟨r, hr', br, _⟩ := rl.row he
      refine ⟨rfl, ?_⟩
      walk_at "rdF"
      refine rep_ix hx br.1 (by decide) (by rw [br.2.1]; rfl) fun u hu => ?_
      refine hI.put .refl trivial nD (fun _ => trivial) hu ?_ ?_
      · rw [List.length_map, List.length_take, rl.len]; omega
      · rw [take_succ he, List.map_append]
        show _ ++ [(kids e).getD 0 .none] = _
        rw [br.2.1]; rfl
    · rintro np acc H1 e1 _ _ hnp hacc _
      rw [heads_l rl] at hacc
      obtain rfl := hacc.strsI
      have s1 := e1.toSame
      walk_at "rdF"
      refine lc_seq (U := fun _ => True) (fun ds => ds.map fun e => (kids e).getD 0 .none) (fun _ => True) (hb.any.same s1) rb.sq (fun _ _ => trivial) rfl (fun _ _ => trivial) ?_ ?_
      · rintro D i x e H' uD nD he hx hI
        obtain ⟨r, hr', br, _⟩ := rb.row he
        refine ⟨rfl, ?_⟩
        walk_at "rdF"
        refine rep_ix hx br.1 (by decide) (by rw [br.2.1]; rfl) fun u hu => ?_
        refine hI.put .refl trivial nD (fun _ => trivial) hu ?_ ?_
        · rw [List.length_map, List.length_take, rb.len]; omega
        · rw [take_succ he, List.map_append]
          show _ ++ [(kids e).getD 0 .none] = _
          rw [br.2.1]; rfl
      · rintro mp acc H2 e2 _ _ hmp hacc _
        rw [heads_b rb] at hacc
        obtain rfl := hacc.strsI
        have s2 := e2.toSame
        have s12 := s1.trans s2
        walk_at "rdF"
        refine ⟨np, mp, _, _, rfl, rfl, s2 _ _ hnp, hmp, sz (by simp; omega), fun cp ncp => ?_⟩
        have s3 := same_new (o := .lst ((lampNs L).map V.str ++ (bondNs B).map V.str)) ncp
        have sA := s12.trans s3
        have hcp : (upd H2 cp (.lst ((lampNs L).map V.str ++ (bondNs B).map V.str))) cp = some (.lst ((lampNs L ++ bondNs B).map V.str)) := by rw [upd_same, List.map_append]
        have rcp : Rep (fun _ => True) (upd H2 cp (.lst ((lampNs L).map V.str ++ (bondNs B).map V.str))) (.ref cp) (.list ((lampNs L ++ bondNs B).map PyData.str)) := .lst trivial hcp .strs
        generalize upd H2 cp (.lst ((lampNs L).map V.str ++ (bondNs B).map V.str)) = H3 at *
        refine for_seqR (U := fun _ => True) (.inl rcp) rfl (fun i σ H' => ∃ y4 y5, σ = [some lv, some bv, some (.ref np), some (.ref mp), y4, y5] ∧ Same H3 H' ∧ ∀ z ∈ (lampNs L ++ bondNs B).take i, ¬ isNm z = false) ⟨_, _, rfl, Same.refl _, by simp⟩ (fun i σ H' h => ?_) ?_ ?_
        · obtain ⟨_, _, _, s, _⟩ := h; exact .same s
        · rintro i x e σ H' he hx ⟨y4, y5, rfl, sm, ho⟩
          have he : ((lampNs L ++ bondNs B).map PyData.str)[i]? = some e := he
          rw [List.getElem?_map] at he
          cases q : (lampNs L ++ bondNs B)[i]? with
          | none => rw [q] at he; cases he
          | some z =>
            rw [q] at he
            cases he
            cases hx.strI
            have hz : z.length ≤ 1000 := by
              rcases List.mem_append.mp (List.mem_of_getElem? q) with h | h
              · exact name_len rl z h
              · exact name_lenB rb z h
            walk_at "rdF"
            refine ⟨z, rfl, hz, fun ok H'' s'' => ?_, fun bad => ErrF.same (fs := [("name", .str z)]) (h2 _ (.name (first_list q ho bad))) (sA.trans sm)⟩
            walk_at "rdF"
            exact ⟨_, _, rfl, sm.trans s'', take_all q ho (by simp [ok])⟩
        · rintro σ H4 ⟨y4, y5, rfl, s4, hN⟩
          have hN : ∀ z ∈ lampNs L ++ bondNs B, isNm z = true := by
            have e : (kids (.list ((lampNs L ++ bondNs B).map PyData.str))).length = (lampNs L ++ bondNs B).length := by show (List.map _ _).length = _; rw [List.length_map]
            rw [e, List.take_length] at hN
            exact fun z hz => by simpa using hN z hz
          have R1 : Right1 L B := ⟨hN⟩
          have sB := sA.trans s4
          walk_at "rdF"
          refine ⟨U0, lv, bv, dl, db, L, B, rfl, hl.same sB, hb.same sB, rl, rb, lB, fun g1 g2 H5 s5 => ?_, fun v hv => ErrF.same (fs := [("number", v)]) (h2 _ (.num R1 hv)) sB, fun r g1 hr => ErrF.same (fs := [("high", r.h), ("low", r.l)]) (h2 _ (.span ⟨R1, g1⟩ hr)) sB⟩
          have R3 : Right3 L B := ⟨⟨R1, g1⟩, g2⟩
          have sC := sB.trans s5
          have hnp5 := (((s2.trans s3).trans s4).trans s5) _ _ hnp
          have hmp5 := ((s3.trans s4).trans s5) _ _ hmp
          walk_at "rdF"
          refine ⟨np, lampNs L, rfl, .inl hnp5, by rw [List.length_map]; omega, fun g3 H6 s6 => ?_, fun z hz => ErrF.same (fs := [("name", .str z)]) (h2 _ (.dblL R3 hz)) sC⟩
          have R4 : Right4 L B := ⟨R3, dup_none'.mp g3⟩
          have sD := sC.trans s6
          walk_at "rdF"
          refine ⟨mp, bondNs B, rfl, .inl (s6 _ _ hmp5), by rw [List.length_map]; omega, fun g4 H7 s7 => ?_, fun z hz => ErrF.same (fs := [("name", .str z)]) (h2 _ (.dblB R4 hz)) sD⟩
          have R5 : Right5 L B := ⟨R4, dup_none'.mp g4⟩
          have sE := sD.trans s7
          walk_at "rdF"
          refine ⟨U0, np, bv, db, lampNs L, B, rfl, (s6.trans s7) _ _ hnp5, hb.same sE, rb, fun g5 g6 H8 s8 => ?_, fun r hr => ErrF.same (fs := [("bond", .str r.n)]) (h2 _ (.self R5 hr)) sE, fun z g5 hz => ErrF.same (fs := [("name", .str z)]) (h2 _ (.unk ⟨R5, g5⟩ hz)) sE⟩
          have R7 : Right7 L B := ⟨⟨R5, g5⟩, g6⟩
          have sF := sE.trans s8
          walk_at "rdF"
          refine repq_len (hl.same sF) rl.sq fun xs rx => ?_
          rw [rx.len, rl.len]
          refine ⟨_, 1, 10, rfl, fun g7 g8 => ?_, fun bad => ErrF.same (fs := [("high", .int 10), ("low", .int 1), ("number", .int L.length)]) (h2 _ (.lamps R7 bad)) sF⟩
          have R8 : Right8 L B := ⟨R7, by omega, by omega⟩
          walk_at "rdF"
          refine repq_len (hb.same sF) rb.sq fun xs rx => ?_
          rw [rx.len, rb.len]
          refine ⟨_, 0, 16, rfl, fun g9 g10 => ?_, fun bad => ErrF.same (fs := [("high", .int 16), ("low", .int 0), ("number", .int B.length)]) (h2 _ (.bonds R8 bad)) sF⟩
          walk_at "rdF"
          exact h1 ⟨R8, by omega⟩ H8 sF
def keptBR (r : BR) : BR := ⟨r.n, minS r.x r.y, maxS r.x r.y, r.l, r.h⟩
def BR.row (r : BR) : List V := [.str r.n, .str r.x, .str r.y, r.l, r.h]
def BR.d (r : BR) : PyData := .tuple [.str r.n, .str r.x, .str r.y, vD r.l, vD r.h]
def spKept : Sp := fun vs H Q _ => ∃ (U : Addr → Prop) (v : V) (d : PyData) (r : BR), vs = [v] ∧ Rep U H v d ∧ BondRow d r ∧ ∀ p H', Same H H' → H p = none → H' p = some (.tup (keptBR r).row) → Q (.ref p) H'
theorem ok_kept_bond_row {k : Nat} {f : Addr} {fd : FuncData} (F : Fun K "kept_bond_row" "kept_bond_row" skept_bond_row f fd) (T : Blt mg) : FnOk P w K mg base CX0 (k + 1) f fd ["row"] spKept := by
  refine F.ok sckept_bond_row (fun vs H Q E h => ?_) (fun cdv A outer s H vs Q E hr h => ?_)
  · obtain ⟨U, v, d, r, rfl, _⟩ := h; rfl
  · obtain ⟨U, v, d, r, rfl, hv, br, h⟩ := h
    refine ⟨_, (pss_cons (ps_asg (pv 0) (pg_seqU (K := K) rfl rfl (pgs_cons (pg_name (i := 1) sckept_bond_row.nd rfl (.inl rfl)) (pgs_cons (pg_name (i := 2) sckept_bond_row.nd rfl (.inl rfl)) (pgs_cons (pg_name (i := 3) sckept_bond_row.nd rfl (.inl rfl)) (pgs_cons (pg_name (i := 4) sckept_bond_row.nd rfl (.inl rfl)) (pgs_cons (pg_name (i := 5) sckept_bond_row.nd rfl (.inl rfl)) pgs_nil)))))))
 (pss_one (ps_ret (pe_tup (pa_cons (pv 1) (pa_cons (pe_callB (call_minS rfl) (by rfl) T.min (by decide +kernel) (pa_cons (pv 2) (pa_cons (pv 3) pa_nil))) (pa_cons (pe_callB (call_maxS rfl) (by rfl) T.max (by decide +kernel) (pa_cons (pv 2) (pa_cons (pv 3) pa_nil))) (pa_cons (pv 4) (pa_cons (pv 5) pa_nil))))))))), ?_⟩
    walk_at "rdF"
    refine rd_gSeq hv br.1 (by rw [br.2.1]; rfl) fun xs rx => ?_
    rw [br.2.1] at rx
    obtain ⟨a1, a2, a3, a4, a5, rfl, r1, r2, r3, r4, r5⟩ := rep5 rx
    cases r1.strI
    cases r2.strI
    cases r3.strI
    cases r4.scI br.2.2.2.1
    cases r5.scI br.2.2.2.2
    walk_at "rdF"
    refine ⟨_, _, rfl, ?_⟩
    walk_at "rdF"
    refine ⟨_, _, rfl, ?_⟩
    walk_at "rdF"
    refine ⟨sz (by simp), fun p np => ?_⟩
    exact h p _ (same_new np) np upd_same
end
set_option maxHeartbeats 4000000
abbrev sWeb___init__ : Stmt := inClass (topS 40) 0
theorem scWeb___init__ : FnScope ["self", "lamps", "bonds", "lamp_rows", "bond_rows", "name", "first", "second", "_", "low", "high", "ceiling", "row"] ["self", "lamps", "bonds"] (defScope sWeb___init__) := ⟨rfl, rfl, rfl, by decide +kernel, rfl, by decide +kernel, by decide +kernel⟩
section
variable {P : Program} {w : World} {K : PySem.W.Frag} {mg : Str → Option Value} {base : Heap} {C CS CE CB : Addr}
def lampD (r : Str × V) : PyData := .tuple [.str r.1, vD r.2]
def SpanAt (U : Addr → Prop) (CS : Addr) (H : Hp) (v l h : V) : Prop := ∃ p dp, v = .ref p ∧ U p ∧ H p = some (.ins CS dp (spn l h))
abbrev webF (c b e s : Addr) : List (Str × V) := [("_ceilings", .ref c), ("_bond_rows", .ref b), ("_ends", .ref e), ("_spans", .ref s)]
structure WebAt (U : Addr → Prop) (C CS : Addr) (H : Hp) (a : Addr) (L : List (Str × V)) (B : List BR) : Prop where
  ex : ∃ (dx c b e s : Addr) (oc oe os : Obj) (g q : Str → V), U a ∧ H a = some (.ins C dx (webF c b e s)) ∧ U c ∧ H c = some (.frz oc (.dK (L.map fun r => (.inr r.1, r.2)))) ∧ Rep U H (.ref b) (.tuple (B.map BR.d)) ∧
    U e ∧ H e = some (.frz oe (.dK (B.map fun r => (.inr r.n, g r.n)))) ∧ (∀ r ∈ B, Rep U H (g r.n) (.tuple [.str r.x, .str r.y])) ∧
    U s ∧ H s = some (.frz os (.dK (B.map fun r => (.inr r.n, q r.n)))) ∧ (∀ r ∈ B, SpanAt U CS H (q r.n) r.l r.h)
structure SpW (K : PySem.W.Frag) (C : Addr) : Prop where
  cl : Cls K C
  n1 : NoAttr K C "_ceilings"
  n2 : NoAttr K C "_bond_rows"
  n3 : NoAttr K C "_ends"
  n4 : NoAttr K C "_spans"
abbrev sortL (L : List (Str × V)) : List (Str × V) := srtBy (fun r => r.1) L
abbrev sortB (B : List BR) : List BR := srtBy BR.n (B.map keptBR)
def spWebI (K : PySem.W.Frag) (C CS : Addr) (c : ECs) : Sp := fun vs H Q E => ∃ (U : Addr → Prop) (a dx : Addr) (lv bv : V) (dl db : PyData) (L : List (Str × V)) (B : List BR), vs = [.ref a, lv, bv] ∧ H a = some (.ins C dx []) ∧ RepQ K U H lv dl ∧ RepQ K U H bv db ∧ RowsD LampRow dl L ∧ RowsD BondRow db B ∧ L.length ≤ 1000 ∧ B.length ≤ 1000 ∧
  (Right L B → ∀ H', Ex (fun p => p ≠ a) H H' → WebAt (fun p => p = a ∨ H p = none) C CS H' a (sortL L) (sortB B) → Q .non H') ∧ (∀ e, Wrong L B e → Raises c E H e)
def lampOf (e : PyData) : PyData := .tuple [(kids e).getD 0 .none, (kids e).getD 1 .none]
theorem lamps_l {dl : PyData} {L : List (Str × V)} (h : RowsD LampRow dl L) : (kids dl).map lampOf = L.map lampD := by
  apply List.ext_getElem?
  intro i
  rw [List.getElem?_map, List.getElem?_map]
  cases q : (kids dl)[i]? with
  | none =>
    have hl := List.getElem?_eq_none_iff.mp q
    rw [List.getElem?_eq_none (by rw [← h.len]; exact hl)]; rfl
  | some e =>
    obtain ⟨r, h1, h2, _⟩ := h.row q
    rw [h1]
    show some (lampOf e) = _
    unfold lampOf
    rw [h2.2.1]; rfl
theorem lamp_sc {dl : PyData} {L : List (Str × V)} (h : RowsD LampRow dl L) : ∀ r ∈ L, Sc r.2 := fun r hr => by
  obtain ⟨i, hi, e⟩ := List.mem_iff_getElem.mp hr
  have hk : i < (kids dl).length := by rw [h.len]; exact hi
  obtain ⟨r', h1, h2, _⟩ := h.row (List.getElem?_eq_getElem hk)
  rw [List.getElem?_eq_getElem hi] at h1
  have : L[i] = r' := Option.some.inj h1
  rw [← e, this]; exact h2.2.2.2
theorem bond_sc {db : PyData} {B : List BR} (h : RowsD BondRow db B) : ∀ r ∈ B, Sc r.l ∧ Sc r.h := fun r hr => by
  obtain ⟨i, hi, e⟩ := List.mem_iff_getElem.mp hr
  have hk : i < (kids db).length := by rw [h.len]; exact hi
  obtain ⟨r', h1, h2, _⟩ := h.row (List.getElem?_eq_getElem hk)
  rw [List.getElem?_eq_getElem hi] at h1
  have : B[i] = r' := Option.some.inj h1
  rw [← e, this]; exact ⟨h2.2.2.2.1, h2.2.2.2.2⟩
theorem keptOf_b {db : PyData} {B : List BR} (h : RowsD BondRow db B) : ∃ f : PyData → PyData, (kids db).map f = (B.map keptBR).map BR.d ∧ ∀ (i : Nat) (e : PyData) (r : BR), (kids db)[i]? = some e → B[i]? = some r → f e = (keptBR r).d := by
  refine ⟨fun e => match kids e with
    | [.str n, .str x, .str y, l, h] => .tuple [.str n, .str (minS x y), .str (maxS x y), l, h]
    | _ => .none, ?_, fun i e r he hr => ?_⟩
  · apply List.ext_getElem?
    intro i
    rw [List.getElem?_map, List.getElem?_map, List.getElem?_map]
    cases q : (kids db)[i]? with
    | none =>
      have hl := List.getElem?_eq_none_iff.mp q
      rw [List.getElem?_eq_none (by rw [← h.len]; exact hl)]; rfl
    | some e =>
      obtain ⟨r, h1, h2, _⟩ := h.row q
      rw [h1]
      simp only [Option.map_some, h2.2.1]; rfl
  · obtain ⟨r', h1, h2, _⟩ := h.row he
    rw [hr] at h1
    cases h1
    simp only [h2.2.1]; rfl
theorem pairs_l {U : Addr → Prop} {H : Hp} : ∀ {ys : List V} {M : List (Str × V)}, RepL U H ys (M.map lampD) → (∀ r ∈ M, Sc r.2) → ∃ ps : List Addr, ys = ps.map V.ref ∧ Paired (fun p (kv : Key × V) => SqT K H p [kV kv.1, kv.2]) ps (M.map fun r => ((.inr r.1 : Key), r.2))
  | _, [], .nil, _ => ⟨[], rfl, .nil⟩
  | _, r :: M, .cons a rr, hs => by
    obtain ⟨ps, e, pr⟩ := pairs_l rr fun q hq => hs q (List.mem_cons_of_mem _ hq)
    obtain ⟨p, xs, rfl, _, hp, hx⟩ := Rep.tupI a
    obtain ⟨u, v, rfl, ru, rv⟩ := rep2 hx
    cases ru.strI
    cases rv.scI (hs r List.mem_cons_self)
    exact ⟨p :: ps, by rw [e]; rfl, .cons (st_of hp) pr⟩
theorem nd_inr {l : List Str} (h : l.Nodup) : (l.map (Sum.inr : Str → Key)).Nodup := by
  rw [List.nodup_iff_pairwise_ne] at *
  exact List.pairwise_map.mpr (h.imp fun hab e => hab (Sum.inr.inj e))
abbrev wf1 (c : V) : List (Str × V) := [("_ceilings", c)]
abbrev wf2 (c b : V) : List (Str × V) := [("_ceilings", c), ("_bond_rows", b)]
abbrev wf3 (c b e : V) : List (Str × V) := [("_ceilings", c), ("_bond_rows", b), ("_ends", e)]
abbrev wf4 (c b e s : V) : List (Str × V) := [("_ceilings", c), ("_bond_rows", b), ("_ends", e), ("_spans", s)]
theorem putF1 {v : V} : putF "_ceilings" v [] = wf1 v := rfl
theorem putF2 {u v : V} : putF "_bond_rows" v (wf1 u) = wf2 u v := by
  have e0 : ¬ (("_ceilings" : Str) = ("_bond_rows" : Str)) := by decide
  simp [putF, e0]
theorem putF3 {u v x : V} : putF "_ends" x (wf2 u v) = wf3 u v x := by
  have e0 : ¬ (("_ceilings" : Str) = ("_ends" : Str)) := by decide
  have e1 : ¬ (("_bond_rows" : Str) = ("_ends" : Str)) := by decide
  simp [putF, e0, e1]
theorem putF4 {u v x y : V} : putF "_spans" y (wf3 u v x) = wf4 u v x y := by
  have e0 : ¬ (("_ceilings" : Str) = ("_spans" : Str)) := by decide
  have e1 : ¬ (("_bond_rows" : Str) = ("_spans" : Str)) := by decide
  have e2 : ¬ (("_ends" : Str) = ("_spans" : Str)) := by decide
  simp [putF, e0, e1, e2]
/-- a dict's next key -/
theorem not_before {α : Type} {n : α → Str} {l : List α} {i : Nat} {r : α} (nd : (l.map n).Nodup) (hr : l[i]? = some r) : ∀ z ∈ l.take i, n z ≠ n r := fun z hz e => by
  obtain ⟨hl, e1⟩ := List.getElem?_eq_some_iff.mp hr
  have el : l = l.take i ++ r :: l.drop (i + 1) := by rw [← e1]; simp
  rw [el, List.map_append, List.nodup_append] at nd
  exact nd.2.2 (n z) (List.mem_map_of_mem hz) (n r) (by simp) e
theorem dict_next {α : Type} {n : α → Str} {l : List α} {i : Nat} {r : α} {g : Str → V} {v : V} (nd : (l.map n).Nodup) (hr : l[i]? = some r) :
    putK ((l.take i).map fun r => ((.inr (n r) : Key), g (n r))) (.inr (n r)) v = ((l.take (i + 1)).map fun z => ((.inr (n z) : Key), (fun m => if m = n r then v else g m) (n z))) := by
  have nb := not_before nd hr
  rw [putK_new, take_succ hr, List.map_append]
  · congr 1
    · refine List.map_congr_left fun z hz => ?_
      show _ = ((.inr (n z) : Key), if n z = n r then v else g (n z))
      rw [if_neg (nb z hz)]
    · show _ = [((.inr (n r) : Key), if n r = n r then v else g (n r))]
      rw [if_pos rfl]
  · refine valV_fresh fun c => ?_
    rw [List.map_map] at c
    obtain ⟨z, hz, e⟩ := List.mem_map.mp c
    exact nb z hz (Sum.inr.inj e)
theorem NI.sc {v : V} (h : NI v) : Sc v := by rcases h with rfl | ⟨i, rfl⟩ <;> trivial
theorem keptOpen {B : List BR} {L : List (Str × V)} (h : Right L B) : ∀ r ∈ sortB B, isOpen r.l = true ∧ isOpen r.h = true ∧ crossed r.l r.h = false := fun r hr => by
  obtain ⟨q, hq, rfl⟩ := List.mem_map.mp (srt_mem.mp hr)
  have hn : q.l ∈ numsOf L B ∧ q.h ∈ numsOf L B := by
    unfold numsOf
    exact ⟨List.mem_append.mpr (.inr (List.mem_flatMap.mpr ⟨q, hq, by simp⟩)), List.mem_append.mpr (.inr (List.mem_flatMap.mpr ⟨q, hq, by simp⟩))⟩
  exact ⟨h.num _ hn.1, h.num _ hn.2, h.sp q hq⟩
theorem ok_web_init {k j : Nat} {f t0 : Addr} {fd : FuncData} {c : ECs} (F : FunD K "__init__" "Web.__init__" (defArgs sWeb___init__) (defBody sWeb___init__) (defScope sWeb___init__) [.ref t0] [] f fd) (T : Blt mg) (S : SpW K C)
    (Hcheck_rows : HasX P w K mg base "check_rows" k ["lamps", "bonds"] (spCheckRows K c)) (Hkept_bond_row : Has P w K mg base "kept_bond_row" k ["row"] spKept) (HM_Span_2 : HasMk P w K mg base (L2.CX P w) CS "Span" j ["self", "low", "high"] [] (spSpanI CS CE CB)) (hk : j + 1 ≤ k) : FnOk P w K mg base (L2.CX P w) (k + 1) f fd ["self", "lamps", "bonds"] (spWebI K C CS c) := by
  refine F.ok scWeb___init__ (fun vs H Q E h => ?_) (fun cdv A outer s H vs Q E hr h => ?_)
  · obtain ⟨U, a, dx, lv, bv, dl, db, L, B, rfl, _⟩ := h; rfl
  · obtain ⟨U0, a, dx, lv, bv, dl, db, L, B, rfl, ha, hl, hb, rl, rb, lL, lB, h1, h2⟩ := h
    refine ⟨_, (pss_cons (ps_expr (pe_callX Hcheck_rows hr (by rfl) (takes_of rfl rfl rfl rfl) (pa_cons (pv 1) (pa_cons (pv 2) pa_nil))))
 (pss_cons (ps_set (i := 3) scWeb___init__.nd rfl (.inl rfl) (pe_callB (cr_sortedR (K := K) rfl) (by rfl) T.sorted (by decide +kernel) (pa_cons (pe_lc (own := [("name", 5), ("ceiling", 11)]) (g := (gSeq K 2 (gCons (gName 5) (gCons (gName 11) gNil)))) (by rfl) scWeb___init__.nd (pi_seq (pv 1)) (blkOk_by (own := [("name", 5), ("ceiling", 11)]) (N := ["self", "lamps", "bonds", "lamp_rows", "bond_rows", "name", "first", "second", "_", "low", "high", "ceiling", "row"]) (sc := defScope sWeb___init__) (by decide +kernel)) (fun _ _ _ _ _ => (pg_seqU (K := K) rfl rfl (pgs_cons (pg_name (i := 5) scWeb___init__.nd rfl (.inl rfl)) (pgs_cons (pg_name (i := 11) scWeb___init__.nd rfl (.inl rfl)) pgs_nil)))) (fun _ _ _ _ _ => pts_nil) (fun _ _ _ _ _ => (pe_tup (pa_cons (pv 5) (pa_cons (pv 11) pa_nil))))) pa_nil)))
 (pss_cons (ps_set (i := 4) scWeb___init__.nd rfl (.inl rfl) (pe_callB (cr_sortedR (K := K) rfl) (by rfl) T.sorted (by decide +kernel) (pa_cons (pe_lc (own := [("row", 12)]) (g := (gName 12)) (by rfl) scWeb___init__.nd (pi_seq (pv 2)) (blkOk_by (own := [("row", 12)]) (N := ["self", "lamps", "bonds", "lamp_rows", "bond_rows", "name", "first", "second", "_", "low", "high", "ceiling", "row"]) (sc := defScope sWeb___init__) (by decide +kernel)) (fun _ _ _ _ _ => (pg_name (i := 12) scWeb___init__.nd rfl (.inl rfl))) (fun _ _ _ _ _ => pts_nil) (fun _ _ _ _ _ => (pe_callH Hkept_bond_row hr (by rfl) (pa_cons (pv 12) pa_nil)))) pa_nil)))
 (pss_cons (ps_frz (ps_fld (pv 0) (pe_callTy (call_dictP rfl) (by rfl) T.dict (by decide +kernel) (pa_cons (pv 3) pa_nil)) rfl))
 (pss_cons (ps_fld (pv 0) (pe_callTy call_tuple_of (by rfl) T.tuple (by decide +kernel) (pa_cons (pv 4) pa_nil)) rfl)
 (pss_cons (ps_frz (ps_fld (pv 0) (pe_dc (own := [("name", 5), ("first", 6), ("second", 7), ("_", 8)]) (g := (gSeq K 5 (gCons (gName 5) (gCons (gName 6) (gCons (gName 7) (gCons (gName 8) (gCons (gName 8) gNil))))))) rfl scWeb___init__.nd (pi_list (pv 4)) (blkOk_by (own := [("name", 5), ("first", 6), ("second", 7), ("_", 8)]) (N := ["self", "lamps", "bonds", "lamp_rows", "bond_rows", "name", "first", "second", "_", "low", "high", "ceiling", "row"]) (sc := defScope sWeb___init__) (by decide +kernel)) (fun _ _ _ _ _ => (pg_seqU (K := K) rfl rfl (pgs_cons (pg_name (i := 5) scWeb___init__.nd rfl (.inl rfl)) (pgs_cons (pg_name (i := 6) scWeb___init__.nd rfl (.inl rfl)) (pgs_cons (pg_name (i := 7) scWeb___init__.nd rfl (.inl rfl)) (pgs_cons (pg_name (i := 8) scWeb___init__.nd rfl (.inl rfl)) (pgs_cons (pg_name (i := 8) scWeb___init__.nd rfl (.inl rfl)) pgs_nil))))))) (fun _ _ _ _ _ => pts_nil) (fun _ _ _ _ _ => (pv 5)) (fun _ _ _ _ _ => (pe_tup (pa_cons (pv 6) (pa_cons (pv 7) pa_nil))))) rfl))
 (pss_one (ps_frz (ps_fld (pv 0) (pe_dc (own := [("name", 5), ("_", 8), ("low", 9), ("high", 10)]) (g := (gSeq K 5 (gCons (gName 5) (gCons (gName 8) (gCons (gName 8) (gCons (gName 9) (gCons (gName 10) gNil))))))) rfl scWeb___init__.nd (pi_list (pv 4)) (blkOk_by (own := [("name", 5), ("_", 8), ("low", 9), ("high", 10)]) (N := ["self", "lamps", "bonds", "lamp_rows", "bond_rows", "name", "first", "second", "_", "low", "high", "ceiling", "row"]) (sc := defScope sWeb___init__) (by decide +kernel)) (fun _ _ _ _ _ => (pg_seqU (K := K) rfl rfl (pgs_cons (pg_name (i := 5) scWeb___init__.nd rfl (.inl rfl)) (pgs_cons (pg_name (i := 8) scWeb___init__.nd rfl (.inl rfl)) (pgs_cons (pg_name (i := 8) scWeb___init__.nd rfl (.inl rfl)) (pgs_cons (pg_name (i := 9) scWeb___init__.nd rfl (.inl rfl)) (pgs_cons (pg_name (i := 10) scWeb___init__.nd rfl (.inl rfl)) pgs_nil))))))) (fun _ _ _ _ _ => pts_nil) (fun _ _ _ _ _ => (pv 5)) (fun _ _ _ _ _ => (pe_makeHS HM_Span_2 (hr.mono (by omega)) (by rfl) (fun σ => passAt takes0 σ) (pa_cons (pv 9) (pa_cons (pv 10) pa_nil))))) rfl))))))))), ?_⟩
    walk_at "rdF"
    refine ⟨U0, lv, bv, dl, db, L, B, rfl, hl, hb, rl, rb, lL, lB, fun R H1 s1 => ?_, h2⟩
    have hl1 := (hl.same s1).any
    have hb1 := (hb.same s1).any
    have scL := lamp_sc rl
    have scB := bond_sc rb
    have ndL : (L.map fun r => r.1).Nodup := R.dl
    have ndB : ((B.map keptBR).map BR.n).Nodup := by rw [List.map_map]; exact R.db
    walk_at "rdF"
    refine lc_seq (U := fun _ => True) (fun ds => ds.map lampOf) (fun _ => True) hl1 rl.sq (fun _ _ => trivial) rfl (fun _ _ => trivial) ?_ ?_
    · rintro D i x e H' uD nD he hx hI
      obtain ⟨r, hr', br, _⟩ := rl.row he
      refine rd_gSeq hx br.1 (by rw [br.2.1]; rfl) fun xs rx => ?_
      rw [br.2.1] at rx
      obtain ⟨u, v, rfl, ru, rv⟩ := rep2 rx
      cases ru.strI
      cases rv.scI br.2.2.2
      walk_at "rdF"
      refine ⟨rfl, ?_⟩
      walk_at "rdF"
      refine ⟨sz (by simp), fun p np => ?_⟩
      refine hI.put (e := lampD r) (.new np) trivial nD (fun _ => trivial) (.tup ⟨trivial, hI.ne np⟩ upd_same (.cons (.str _) (.cons (.sc br.2.2.2) .nil))) ?_ ?_
      · rw [List.length_map, List.length_take, rl.len]; omega
      · rw [take_succ he, List.map_append]
        show _ ++ [lampOf e] = _
        unfold lampOf
        rw [br.2.1]; rfl
    · rintro p0 acc H2 e2 _ np0 hp0 hacc _
      rw [lamps_l rl] at hacc
      have s2 := s1.trans e2.toSame
      walk_at "rdF"
      refine sorted_rows (l := L) (n := fun r => r.1) (r := fun r => [vD r.2]) (.inl hp0) (hacc.less fun _ _ => trivial) ndL fun lp ys hperm hys nlp => ?_
      have s3 := s2.trans (same_new (o := .lst ys) nlp)
      have hlp := @upd_same H2 lp (.lst ys)
      have hys3 := hys.same (same_new (o := .lst ys) nlp)
      generalize upd H2 lp (.lst ys) = H3 at *
      walk_at "rdF"
      obtain ⟨kf, kf1, kf2⟩ := keptOf_b rb
      refine lc_seqG (W := fun _ => True) (U := fun q => H q = none) (fun _ h => h) (fun ds => ds.map kf) (fun _ => True) (hb.same s3).any rb.sq (fun _ _ => trivial) rfl (fun _ _ => trivial) ?_ ?_
      · rintro D i x e H' uD nD he hx hI
        obtain ⟨r, hr', br, _⟩ := rb.row he
        refine ⟨rfl, ?_⟩
        walk_at "rdF"
        refine ⟨_, x, e, r, rfl, hx, br, fun p H'' s'' np'' hp'' => ?_⟩
        refine hI.put (e := (keptBR r).d) (.same s'') trivial nD (fun _ => trivial) (.tup ⟨none_back s3 (hI.ex.dom _ np''), hI.ne np''⟩ hp'' (.cons (.str _) (.cons (.str _) (.cons (.str _) (.cons (.sc br.2.2.2.1) (.cons (.sc br.2.2.2.2) .nil)))))) ?_ ?_ (fun _ _ => trivial)
        · rw [List.length_map, List.length_take, rb.len]; omega
        · rw [take_succ he, List.map_append]
          show _ ++ [kf e] = _
          rw [kf2 i e r he hr']
      · rintro p1 acc1 H4 e4 _ np1 hp1 hacc1 _
        rw [kf1] at hacc1
        have s4 := s3.trans e4.toSame
        walk_at "rdF"
        refine sorted_rows (U := fun q => H q = none) (l := B.map keptBR) (n := BR.n) (r := fun r => [.str r.x, .str r.y, vD r.l, vD r.h]) (.inl hp1) (hacc1.less fun _ h => h.1) ndB fun bp zs hperm1 hzs nbp => ?_
        have st5 := same_new (o := .lst zs) nbp
        have s5 := s4.trans st5
        have hbp := @upd_same H4 bp (.lst zs)
        have hzs := hzs.same st5
        have hlp := st5 _ _ (e4.toSame _ _ hlp)
        have hys := (hys3.same e4.toSame).same st5
        generalize upd H4 bp (.lst zs) = H5 at *
        have hzs : RepL (fun q => H q = none) H5 zs ((sortB B).map BR.d) := hzs
        have ha5 := s5 _ _ ha
        obtain ⟨ps, ep, pr⟩ := pairs_l (M := sortL L) (H := H5) hys fun r hr => scL r (srt_mem.mp hr)
        subst ep
        walk_at "rdF"
        refine ⟨lp, ps, _, rfl, sl_of hlp, pr, fun cp ncp => ?_⟩
        rw [merge_new _ _ (by rw [List.nil_append, List.map_map]; have := nd_inr (srt_nd ndL); rw [List.map_map] at this; exact this), List.nil_append]
        have ne_a : ∀ {q : Addr} {H' : Hp} {fs : List (Str × V)}, H' a = some (.ins C dx fs) → H' q = none → q ≠ a := fun h1 h2 e => by rw [e, h1] at h2; cases h2
        have ca := ne_a ha5 ncp
        walk_at "rdF"
        refine ⟨a, C, dx, _, rfl, by rw [upd_ne ca.symm]; exact ha5, S.cl, S.n1, by simp, ?_⟩
        rw [putF1]
        refine ⟨cp, .dK ((sortL L).map fun r => ((.inr r.1 : Key), r.2)), by rw [upd_ne ca]; exact upd_same, trivial, fun oc => ?_⟩
        have e6 : Ex (fun p => p ≠ a) H5 (upd (upd (upd H5 cp (.dK ((sortL L).map fun r => ((.inr r.1 : Key), r.2)))) a (.ins C dx (wf1 (.ref cp)))) cp (.frz oc (.dK ((sortL L).map fun r => ((.inr r.1 : Key), r.2))))) :=
          ((Ex.new ncp).mutU (by simp) (by rw [upd_ne ca.symm, ha5]; simp)).mut ncp
        have ha6 : (upd (upd (upd H5 cp (.dK ((sortL L).map fun r => ((.inr r.1 : Key), r.2)))) a (.ins C dx (wf1 (.ref cp)))) cp (.frz oc (.dK ((sortL L).map fun r => ((.inr r.1 : Key), r.2))))) a = some (.ins C dx (wf1 (.ref cp))) := by rw [upd_ne ca.symm]; exact upd_same
        have hc6 : (upd (upd (upd H5 cp (.dK ((sortL L).map fun r => ((.inr r.1 : Key), r.2)))) a (.ins C dx (wf1 (.ref cp)))) cp (.frz oc (.dK ((sortL L).map fun r => ((.inr r.1 : Key), r.2))))) cp = some (.frz oc (.dK ((sortL L).map fun r => ((.inr r.1 : Key), r.2)))) := upd_same
        generalize (upd (upd (upd H5 cp (.dK ((sortL L).map fun r => ((.inr r.1 : Key), r.2)))) a (.ins C dx (wf1 (.ref cp)))) cp (.frz oc (.dK ((sortL L).map fun r => ((.inr r.1 : Key), r.2))))) = H6 at *
        have fc : H cp = none := none_back s5 ncp
        have fa : ∀ q, H q = none → q ≠ a := fun q h => ne_a ha h
        have hbp6 := e6.keep _ _ (fa bp (none_back s4 nbp)) hbp
        have hzs6 := hzs.ex (e6.less fa)
        have e06 : Ex (fun p => p ≠ a) H H6 := (Ex.same s5).trans e6
        walk_at "rdF"
        refine ⟨bp, zs, rfl, .inl ⟨sl_of hbp6, fun tp ntp => ?_⟩⟩
        have ta := ne_a ha6 ntp
        walk_at "rdF"
        refine ⟨a, C, dx, _, rfl, by rw [upd_ne ta.symm]; exact ha6, S.cl, S.n2, by simp, ?_⟩
        rw [putF2]
        have e7 : Ex (fun p => p ≠ a) H6 (upd (upd H6 tp (.tup zs)) a (.ins C dx (wf2 (.ref cp) (.ref tp)))) := (Ex.new ntp).mutU (by simp) (by rw [upd_ne ta.symm, ha6]; simp)
        have ha7 : (upd (upd H6 tp (.tup zs)) a (.ins C dx (wf2 (.ref cp) (.ref tp)))) a = some (.ins C dx (wf2 (.ref cp) (.ref tp))) := upd_same
        have ht7 : (upd (upd H6 tp (.tup zs)) a (.ins C dx (wf2 (.ref cp) (.ref tp)))) tp = some (.tup zs) := by rw [upd_ne ta]; exact upd_same
        generalize (upd (upd H6 tp (.tup zs)) a (.ins C dx (wf2 (.ref cp) (.ref tp)))) = H7 at *
        have hbp7 := e7.keep _ _ (fa bp (none_back s4 nbp)) hbp6
        have hzs7 := hzs6.ex (e7.less fa)
        have hc7 := e7.keep _ _ ca hc6
        have e07 := e06.trans e7
        have ft : H tp = none := e06.dom _ ntp
        have ndS : ((sortB B).map BR.n).Nodup := srt_nd ndB
        have lS : (sortB B).length ≤ 1000 := by rw [srt_len, List.length_map]; exact lB
        have hO := keptOpen R
        replace h1 := h1 R
        generalize sortB B = SB at *
        walk_at "rdF"
        refine ⟨bp, rfl, ⟨_, sl_of hbp7⟩, fun D nD => dc_list (xs := zs) (fun i H' => ∃ g : Str → V, H' D = some (.dK ((SB.take i).map fun r => ((.inr r.n : Key), g r.n))) ∧ (∀ r ∈ SB.take i, Rep (fun q => H q = none) H' (g r.n) (.tuple [.str r.x, .str r.y])) ∧ Same H7 H') ⟨fun _ => .non, by rw [List.take_zero]; exact upd_same, by simp, same_new nD⟩ (fun i H' _ hp => ?_) ?_ ?_⟩
        · obtain ⟨_, _, _, sm⟩ := hp
          exact sl_of (sm _ _ hbp7)
        · rintro i x H' hx ⟨g, hD, hg, sm⟩
          obtain ⟨e, he, re⟩ := hzs7.get hx
          rw [List.getElem?_map] at he
          cases q : SB[i]? with
          | none => rw [q] at he; cases he
          | some r =>
            rw [q] at he
            cases he
            refine rd_gSeq (re.same sm) rfl rfl fun xs rx => ?_
            obtain ⟨a1, a2, a3, a4, a5, rfl, r1, r2, r3, r4, r5⟩ := rep5 rx
            cases r1.strI
            cases r2.strI
            cases r3.strI
            walk_at "rdF"
            refine ⟨by walk_at "wiped", ?_⟩
            walk_at "rdF"
            refine ⟨sz (by simp), fun up nup => ?_⟩
            have nuD : up ≠ D := fun c => by rw [c, hD] at nup; cases nup
            have fu : H up = none := e07.dom _ (none_back sm nup)
            refine ⟨_, .inr r.n, rfl, same_new nup _ _ hD, by rw [List.length_map, List.length_take]; exact Nat.lt_of_le_of_lt (Nat.le_trans (Nat.min_le_right _ _) lS) (by decide), (fun m => if m = r.n then .ref up else g m), by rw [upd_same, dict_next ndS q], fun z hz => ?_, same_mut (sm.trans (same_new nup)) nD⟩
            have keepD : ∀ {v : V} {d : PyData}, Rep (fun q => H q = none) H' v d → Rep (fun q => H q = none) (upd (upd H' up (.tup [.str r.x, .str r.y])) D (.dK (putK ((SB.take i).map fun r => ((.inr r.n : Key), g r.n)) (.inr r.n) (.ref up)))) v d := fun hv => hv.to' fun p xs u => ⟨fun e => ⟨u, by
              have n1 : p ≠ D := fun c => by rw [c, hD] at e; cases e
              rw [upd_ne n1]; exact same_new nup _ _ e⟩, fun e => ⟨u, by
              have n1 : p ≠ D := fun c => by rw [c, hD] at e; cases e
              rw [upd_ne n1]; exact same_new nup _ _ e⟩⟩
            by_cases c : z.n = r.n
            · have ez : z = r := by
                rw [take_succ q] at hz
                rcases List.mem_append.mp hz with hz | hz
                · exact absurd c (not_before ndS q z hz)
                · exact List.mem_singleton.mp hz
              rw [ez]
              show Rep _ _ (if r.n = r.n then V.ref up else g r.n) _
              rw [if_pos rfl]
              exact .tup fu (by rw [upd_ne nuD]; exact upd_same) (.cons (.str _) (.cons (.str _) .nil))
            · show Rep _ _ (if z.n = r.n then V.ref up else g z.n) _
              rw [if_neg c]
              refine keepD (hg z ?_)
              rw [take_succ q] at hz
              rcases List.mem_append.mp hz with hz | hz
              · exact hz
              · rw [List.mem_singleton.mp hz] at c; exact absurd rfl c
        · rintro H8 ⟨g, hD, hg, s8⟩
          have lz : zs.length = SB.length := by rw [hzs.len, List.length_map]
          rw [lz, List.take_length] at hD hg
          have Da := ne_a ha7 nD
          have ha8 := s8 _ _ ha7
          have fD : H D = none := e07.dom _ nD
          walk_at "rdF"
          refine ⟨a, C, dx, _, rfl, ha8, S.cl, S.n3, by simp, ?_⟩
          rw [putF3]
          refine ⟨D, .dK (SB.map fun r => ((.inr r.n : Key), g r.n)), by rw [upd_ne Da]; exact hD, trivial, fun oe => ?_⟩
          have e9 : Ex (fun p => p ≠ a) H7 (upd (upd H8 a (.ins C dx (wf3 (.ref cp) (.ref tp) (.ref D)))) D (.frz oe (.dK (SB.map fun r => ((.inr r.n : Key), g r.n))))) := ((Ex.same s8).mutU (by simp) (by rw [ha8]; simp)).mut nD
          have ha9 : (upd (upd H8 a (.ins C dx (wf3 (.ref cp) (.ref tp) (.ref D)))) D (.frz oe (.dK (SB.map fun r => ((.inr r.n : Key), g r.n))))) a = some (.ins C dx (wf3 (.ref cp) (.ref tp) (.ref D))) := by rw [upd_ne Da.symm]; exact upd_same
          have hD9 : (upd (upd H8 a (.ins C dx (wf3 (.ref cp) (.ref tp) (.ref D)))) D (.frz oe (.dK (SB.map fun r => ((.inr r.n : Key), g r.n))))) D = some (.frz oe (.dK (SB.map fun r => ((.inr r.n : Key), g r.n)))) := upd_same
          have hg9 : ∀ r ∈ SB, Rep (fun q => H q = none) (upd (upd H8 a (.ins C dx (wf3 (.ref cp) (.ref tp) (.ref D)))) D (.frz oe (.dK (SB.map fun r => ((.inr r.n : Key), g r.n))))) (g r.n) (.tuple [.str r.x, .str r.y]) := fun r hr => (hg r hr).to' fun p xs u => ⟨fun e => ⟨u, by
            rw [upd_ne (fun c => by rw [c, hD] at e; cases e), upd_ne (fa p u)]; exact e⟩, fun e => ⟨u, by
            rw [upd_ne (fun c => by rw [c, hD] at e; cases e), upd_ne (fa p u)]; exact e⟩⟩
          generalize (upd (upd H8 a (.ins C dx (wf3 (.ref cp) (.ref tp) (.ref D)))) D (.frz oe (.dK (SB.map fun r => ((.inr r.n : Key), g r.n))))) = H9 at *
          have hbp9 := e9.keep _ _ (fa bp (none_back s4 nbp)) hbp7
          have hzs9 := hzs7.ex (e9.less fa)
          have hc9 := e9.keep _ _ ca hc7
          have ht9 := e9.keep _ _ ta ht7
          have e09 := e07.trans e9
          walk_at "rdF"
          refine ⟨bp, rfl, ⟨_, sl_of hbp9⟩, fun D2 nD2 => dc_list (xs := zs) (fun i H' => ∃ q : Str → V, H' D2 = some (.dK ((SB.take i).map fun r => ((.inr r.n : Key), q r.n))) ∧ (∀ r ∈ SB.take i, SpanAt (fun q => H q = none) CS H' (q r.n) r.l r.h) ∧ Same H9 H') ⟨fun _ => .non, by rw [List.take_zero]; exact upd_same, by simp, same_new nD2⟩ (fun i H' _ hp => ?_) ?_ ?_⟩
          · obtain ⟨_, _, _, sm⟩ := hp
            exact sl_of (sm _ _ hbp9)
          · rintro i x H' hx ⟨q0, hD2, hq0, sm⟩
            obtain ⟨e, he, re⟩ := hzs9.get hx
            rw [List.getElem?_map] at he
            cases q : SB[i]? with
            | none => rw [q] at he; cases he
            | some r =>
              rw [q] at he
              cases he
              obtain ⟨o1, o2, o3⟩ := hO r (List.mem_of_getElem? q)
              refine rd_gSeq (re.same sm) rfl rfl fun xs rx => ?_
              obtain ⟨a1, a2, a3, a4, a5, rfl, r1, r2, r3, r4, r5⟩ := rep5 rx
              cases r1.strI
              cases r4.scI (open_NI o1).sc
              cases r5.scI (open_NI o2).sc
              walk_at "rdF"
              refine ⟨by walk_at "wiped", ?_⟩
              walk_at "rdF"
              intro up dp nup ndp ndu
              refine ⟨up, dp, _, _, rfl, upd_same, (open_NI o1).sc, (open_NI o2).sc, fun _ _ _ => ⟨rfl, ?_⟩, fun o => ?_, fun _ o => ?_, fun _ _ cr => ?_⟩
              · rw [upd_upd]
                have nuD : up ≠ D2 := fun c => by rw [c, hD2] at nup; cases nup
                have ndD : dp ≠ D2 := fun c => by rw [c, hD2] at ndp; cases ndp
                have fu : H up = none := e09.dom _ (none_back sm nup)
                have sN : Same H' (upd (upd H' dp (.own up)) up (.ins CS dp (spn r.l r.h))) := same_mut (same_new ndp) nup
                have hUp : (upd (upd H' dp (.own up)) up (.ins CS dp (spn r.l r.h))) up = some (.ins CS dp (spn r.l r.h)) := upd_same
                generalize (upd (upd H' dp (.own up)) up (.ins CS dp (spn r.l r.h))) = H'' at *
                refine ⟨_, .inr r.n, rfl, sN _ _ hD2, by rw [List.length_map, List.length_take]; exact Nat.lt_of_le_of_lt (Nat.le_trans (Nat.min_le_right _ _) lS) (by decide), (fun m => if m = r.n then .ref up else q0 m), by rw [upd_same, dict_next ndS q], fun z hz => ?_, same_mut (sm.trans sN) nD2⟩
                by_cases c : z.n = r.n
                · have ez : z = r := by
                    rw [take_succ q] at hz
                    rcases List.mem_append.mp hz with hz | hz
                    · exact absurd c (not_before ndS q z hz)
                    · exact List.mem_singleton.mp hz
                  rw [ez]
                  show SpanAt _ _ _ (if r.n = r.n then V.ref up else q0 r.n) _ _
                  rw [if_pos rfl]
                  exact ⟨up, dp, rfl, fu, by rw [upd_ne nuD]; exact hUp⟩
                · show SpanAt _ _ _ (if z.n = r.n then V.ref up else q0 z.n) _ _
                  rw [if_neg c]
                  have hz' : z ∈ SB.take i := by
                    rw [take_succ q] at hz
                    rcases List.mem_append.mp hz with hz | hz
                    · exact hz
                    · rw [List.mem_singleton.mp hz] at c; exact absurd rfl c
                  obtain ⟨p, dp', e1, e2, e3⟩ := hq0 z hz'
                  exact ⟨p, dp', e1, e2, by rw [upd_ne (fun c => by rw [c, hD2] at e3; cases e3)]; exact sN _ _ e3⟩
              · rw [o1] at o; cases o
              · rw [o2] at o; cases o
              · rw [o3] at cr; cases cr
          · rintro H10 ⟨q0, hD2, hq0, s10⟩
            rw [lz, List.take_length] at hD2 hq0
            have Da2 := ne_a ha9 nD2
            have ha10 := s10 _ _ ha9
            have fD2 : H D2 = none := e09.dom _ nD2
            walk_at "rdF"
            refine ⟨a, C, dx, _, rfl, ha10, S.cl, S.n4, by simp, ?_⟩
            rw [putF4]
            refine ⟨D2, .dK (SB.map fun r => ((.inr r.n : Key), q0 r.n)), by rw [upd_ne Da2]; exact hD2, trivial, fun os => ?_⟩
            have e11 : Ex (fun p => p ≠ a) H9 (upd (upd H10 a (.ins C dx (wf4 (.ref cp) (.ref tp) (.ref D) (.ref D2)))) D2 (.frz os (.dK (SB.map fun r => ((.inr r.n : Key), q0 r.n))))) := ((Ex.same s10).mutU (by simp) (by rw [ha10]; simp)).mut nD2
            have ha11 : (upd (upd H10 a (.ins C dx (wf4 (.ref cp) (.ref tp) (.ref D) (.ref D2)))) D2 (.frz os (.dK (SB.map fun r => ((.inr r.n : Key), q0 r.n))))) a = some (.ins C dx (wf4 (.ref cp) (.ref tp) (.ref D) (.ref D2))) := by rw [upd_ne Da2.symm]; exact upd_same
            have hD11 : (upd (upd H10 a (.ins C dx (wf4 (.ref cp) (.ref tp) (.ref D) (.ref D2)))) D2 (.frz os (.dK (SB.map fun r => ((.inr r.n : Key), q0 r.n))))) D2 = some (.frz os (.dK (SB.map fun r => ((.inr r.n : Key), q0 r.n)))) := upd_same
            have hq11 : ∀ r ∈ SB, SpanAt (fun q => H q = none) CS (upd (upd H10 a (.ins C dx (wf4 (.ref cp) (.ref tp) (.ref D) (.ref D2)))) D2 (.frz os (.dK (SB.map fun r => ((.inr r.n : Key), q0 r.n))))) (q0 r.n) r.l r.h := fun r hr => by
              obtain ⟨p, dp', e1, e2, e3⟩ := hq0 r hr
              exact ⟨p, dp', e1, e2, by rw [upd_ne (fun c => by rw [c, hD2] at e3; cases e3), upd_ne (fa p e2)]; exact e3⟩
            generalize (upd (upd H10 a (.ins C dx (wf4 (.ref cp) (.ref tp) (.ref D) (.ref D2)))) D2 (.frz os (.dK (SB.map fun r => ((.inr r.n : Key), q0 r.n))))) = H11 at *
            have fr : ∀ p, H p = none → (p = a ∨ H p = none) := fun p h => .inr h
            refine h1 H11 (e09.trans e11) ⟨dx, cp, tp, D, D2, oc, oe, os, g, q0, .inl rfl, ha11, .inr fc, e11.keep _ _ ca hc9, ?_, .inr fD, e11.keep _ _ Da hD9, fun r hr => ((hg9 r hr).ex (e11.less fa)).less fr, .inr fD2, hD11, fun r hr => ?_⟩
            · exact .tup (.inr ft) (e11.keep _ _ ta ht9) ((hzs9.ex (e11.less fa)).less fr)
            · obtain ⟨p, dp', e1, e2, e3⟩ := hq11 r hr
              exact ⟨p, dp', e1, .inr e2, e3⟩
end
set_option maxHeartbeats 1000000
abbrev sWeb_lamp_rows : Stmt := inClass (topS 40) 3
theorem scWeb_lamp_rows : FnScope ["self"] ["self"] (defScope sWeb_lamp_rows) := ⟨rfl, rfl, rfl, by decide +kernel, rfl, by decide +kernel, by decide +kernel⟩
abbrev sWeb_bond_rows : Stmt := inClass (topS 40) 4
theorem scWeb_bond_rows : FnScope ["self"] ["self"] (defScope sWeb_bond_rows) := ⟨rfl, rfl, rfl, by decide +kernel, rfl, by decide +kernel, by decide +kernel⟩
abbrev sWeb_ends : Stmt := inClass (topS 40) 6
theorem scWeb_ends : FnScope ["self", "bond"] ["self", "bond"] (defScope sWeb_ends) := ⟨rfl, rfl, rfl, by decide +kernel, rfl, by decide +kernel, by decide +kernel⟩
section
variable {P : Program} {w : World} {K : PySem.W.Frag} {mg : Str → Option Value} {base : Heap} {C CS CE CB CU : Addr}
structure WebOk (L : List (Str × V)) (B : List BR) : Prop where
  rt : Right L B
  al : Asc (fun r : Str × V => r.1) L
  ab : Asc BR.n B
  kp : ∀ r ∈ B, keptBR r = r
structure WebV (U : Addr → Prop) (C CS : Addr) (H : Hp) (a : Addr) (L : List (Str × V)) (B : List BR) : Prop where
  at_ : WebAt U C CS H a L B
  ok : WebOk L B
theorem Right.perm {L L' : List (Str × V)} {B B' : List BR} (h : Right L B) (hl : L'.Perm L) (hb : B'.Perm B) : Right L' B' := by
  have ml : ∀ {z}, z ∈ lampNs L' → z ∈ lampNs L := fun {z} h => (hl.map _).mem_iff.mp h
  have mb : ∀ {z}, z ∈ bondNs B' → z ∈ bondNs B := fun {z} h => (hb.map _).mem_iff.mp h
  refine ⟨⟨⟨⟨⟨⟨⟨⟨⟨fun z hz => h.nm z ?_⟩, fun v hv => h.num v ?_⟩, fun r hr => h.sp r (hb.mem_iff.mp hr)⟩, (hl.map _).nodup_iff.mpr h.dl⟩, (hb.map _).nodup_iff.mpr h.db⟩, fun r hr => h.sf r (hb.mem_iff.mp hr)⟩, fun z hz => (hl.map _).mem_iff.mpr (h.unk z ?_)⟩, by rw [hl.length_eq]; exact h.l1, by rw [hl.length_eq]; exact h.l10⟩, by rw [hb.length_eq]; exact h.l16⟩
  · rcases List.mem_append.mp hz with q | q
    · exact List.mem_append.mpr (.inl (ml q))
    · exact List.mem_append.mpr (.inr (mb q))
  · unfold numsOf at *
    rcases List.mem_append.mp hv with q | q
    · exact List.mem_append.mpr (.inl ((hl.map _).mem_iff.mp q))
    · obtain ⟨r, hr, q⟩ := List.mem_flatMap.mp q
      exact List.mem_append.mpr (.inr (List.mem_flatMap.mpr ⟨r, hb.mem_iff.mp hr, q⟩))
  · obtain ⟨r, hr, q⟩ := List.mem_flatMap.mp hz
    exact List.mem_flatMap.mpr ⟨r, hb.mem_iff.mp hr, q⟩
theorem minmax (x y : Str) : (minS x y = x ∧ maxS x y = y) ∨ (minS x y = y ∧ maxS x y = x) := by
  unfold minS maxS
  by_cases h : ltS y x
  · simp [h, ltS_asymm h]
  · by_cases g : ltS x y
    · simp [h, g]
    · have e : x = y := ltS_tri g h
      subst e; simp [h]
theorem kept_kept (r : BR) : keptBR (keptBR r) = keptBR r := by
  unfold keptBR minS maxS
  by_cases h : ltS r.y r.x
  · simp [h, ltS_asymm h]
  · by_cases g : ltS r.x r.y
    · simp [h, g]
    · simp [h, g]
theorem Right.kept {L : List (Str × V)} {B : List BR} (h : Right L B) : Right L (B.map keptBR) := by
  have mb : bondNs (B.map keptBR) = bondNs B := by unfold bondNs; rw [List.map_map]; rfl
  have mn : numsOf L (B.map keptBR) = numsOf L B := by unfold numsOf; rw [List.flatMap_map]; rfl
  have me : ∀ z, z ∈ endsOf (B.map keptBR) → z ∈ endsOf B := fun z hz => by
    obtain ⟨q, hq, hz⟩ := List.mem_flatMap.mp hz
    obtain ⟨r, hr, rfl⟩ := List.mem_map.mp hq
    refine List.mem_flatMap.mpr ⟨r, hr, ?_⟩
    rcases minmax r.x r.y with ⟨e1, e2⟩ | ⟨e1, e2⟩ <;> simp [keptBR, e1, e2] at hz ⊢
    · exact hz
    · exact hz.symm
  refine ⟨⟨⟨⟨⟨⟨⟨⟨⟨fun z hz => h.nm z (by rw [mb] at hz; exact hz)⟩, fun v hv => h.num v (by rw [mn] at hv; exact hv)⟩, fun q hq => ?_⟩, h.dl⟩, by rw [mb]; exact h.db⟩, fun q hq => ?_⟩, fun z hz => h.unk z (me z hz)⟩, h.l1, h.l10⟩, by rw [List.length_map]; exact h.l16⟩
  · obtain ⟨r, hr, rfl⟩ := List.mem_map.mp hq
    exact h.sp r hr
  · obtain ⟨r, hr, rfl⟩ := List.mem_map.mp hq
    have := h.sf r hr
    rcases minmax r.x r.y with ⟨e1, e2⟩ | ⟨e1, e2⟩ <;> simp [keptBR, e1, e2]
    · exact this
    · exact fun e => this e.symm
theorem Right.webOk {L : List (Str × V)} {B : List BR} (h : Right L B) : WebOk (sortL L) (sortB B) :=
  ⟨h.kept.perm (srt_perm L) (srt_perm _), srt_asc L, srt_asc _, fun r hr => by
    obtain ⟨q, _, rfl⟩ := List.mem_map.mp (srt_mem.mp hr)
    exact kept_kept q⟩
theorem WebOk.sortL {L : List (Str × V)} {B : List BR} (h : WebOk L B) : sortL L = L := srt_id h.al h.rt.dl
theorem WebOk.sortB {L : List (Str × V)} {B : List BR} (h : WebOk L B) : sortB B = B := by
  have e : B.map keptBR = B := by
    conv => rhs; rw [← List.map_id B]
    exact List.map_congr_left h.kp
  show srtBy BR.n (B.map keptBR) = B
  rw [e]; exact srt_id h.ab h.rt.db
theorem WebAt.to {U U' : Addr → Prop} {H H' : Hp} {a : Addr} {L : List (Str × V)} {B : List BR} (h : WebAt U C CS H a L B) (hh : ∀ p o, U p → H p = some o → U' p ∧ H' p = some o) : WebAt U' C CS H' a L B := by
  obtain ⟨dx, c, b, e, s, oc, oe, os, g, q, ua, ha, uc, hc, hb, ue, he, hg, us, hs, hq⟩ := h.ex
  refine ⟨dx, c, b, e, s, oc, oe, os, g, q, (hh _ _ ua ha).1, (hh _ _ ua ha).2, (hh _ _ uc hc).1, (hh _ _ uc hc).2, hb.to hh, (hh _ _ ue he).1, (hh _ _ ue he).2, fun r hr => (hg r hr).to hh, (hh _ _ us hs).1, (hh _ _ us hs).2, fun r hr => ?_⟩
  obtain ⟨p, dp, e1, e2, e3⟩ := hq r hr
  exact ⟨p, dp, e1, (hh _ _ e2 e3).1, (hh _ _ e2 e3).2⟩
theorem WebV.to {U U' : Addr → Prop} {H H' : Hp} {a : Addr} {L : List (Str × V)} {B : List BR} (h : WebV U C CS H a L B) (hh : ∀ p o, U p → H p = some o → U' p ∧ H' p = some o) : WebV U' C CS H' a L B := ⟨h.at_.to hh, h.ok⟩
theorem WebV.same {U : Addr → Prop} {H H' : Hp} {a : Addr} {L : List (Str × V)} {B : List BR} (h : WebV U C CS H a L B) (s : Same H H') : WebV U C CS H' a L B := h.to fun p o u e => ⟨u, s p o e⟩
theorem WebV.ex {U : Addr → Prop} {H H' : Hp} {a : Addr} {L : List (Str × V)} {B : List BR} (h : WebV U C CS H a L B) (s : Ex U H H') : WebV U C CS H' a L B := h.to fun p o u e => ⟨u, s.keep p o u e⟩
theorem WebV.less {U U' : Addr → Prop} {H : Hp} {a : Addr} {L : List (Str × V)} {B : List BR} (h : WebV U C CS H a L B) (hU : ∀ p, U p → U' p) : WebV U' C CS H a L B := h.to fun p o u e => ⟨hU p u, e⟩
theorem WebOk.scL {L : List (Str × V)} {B : List BR} (h : WebOk L B) : ∀ r ∈ L, Sc r.2 := fun r hr => (isOpen_NI (h.rt.num _ (List.mem_append.mpr (.inl (List.mem_map_of_mem hr))))).sc
theorem WebOk.niB {L : List (Str × V)} {B : List BR} (h : WebOk L B) : ∀ r ∈ B, NI r.l ∧ NI r.h := fun r hr =>
  ⟨isOpen_NI (h.rt.num _ (List.mem_append.mpr (.inr (List.mem_flatMap.mpr ⟨r, hr, by simp⟩)))), isOpen_NI (h.rt.num _ (List.mem_append.mpr (.inr (List.mem_flatMap.mpr ⟨r, hr, by simp⟩))))⟩
theorem wf_c {c b e s : V} : (wf4 c b e s).lookup ("_ceilings" : Str) = some c := by simp [wf4, List.lookup]
theorem wf_b {c b e s : V} : (wf4 c b e s).lookup ("_bond_rows" : Str) = some b := by
  have e1 : (("_bond_rows" : Str) == ("_ceilings" : Str)) = false := by decide
  simp [wf4, List.lookup, e1]
theorem wf_e {c b e s : V} : (wf4 c b e s).lookup ("_ends" : Str) = some e := by
  have e1 : (("_ends" : Str) == ("_ceilings" : Str)) = false := by decide
  have e2 : (("_ends" : Str) == ("_bond_rows" : Str)) = false := by decide
  simp [wf4, List.lookup, e1, e2]
def spWLampRows (C CS : Addr) : Sp := fun vs H Q _ => ∃ (U : Addr → Prop) (a : Addr) (L : List (Str × V)) (B : List BR), vs = [.ref a] ∧ WebV U C CS H a L B ∧ ∀ p xs H', Same H H' → H p = none → H' p = some (.lst xs) → RepL (fun q => H q = none ∧ q ≠ p) H' xs (L.map lampD) → Q (.ref p) H'
theorem rows_rep {H H' : Hp} {p : Addr} : ∀ {ts : List Addr} {L : List (Str × V)}, Paired (fun (t : Addr) (q : Key × V) => H' t = some (.tup [kV q.1, q.2])) ts (L.map fun r => ((.inr r.1 : Key), r.2)) → (∀ t ∈ ts, H t = none) → p ∉ ts → (∀ r ∈ L, Sc r.2) → RepL (fun q => H q = none ∧ q ≠ p) H' (ts.map V.ref) (L.map lampD)
  | [], [], .nil, _, _, _ => .nil
  | t :: ts, r :: L, .cons a rr, h1, h2, h3 => .cons (.tup ⟨h1 t List.mem_cons_self, fun e => h2 (by rw [← e]; exact List.mem_cons_self)⟩ a (.cons (.str _) (.cons (.sc (h3 r List.mem_cons_self)) .nil))) (rows_rep rr (fun t ht => h1 t (List.mem_cons_of_mem _ ht)) (fun m => h2 (List.mem_cons_of_mem _ m)) fun r hr => h3 r (List.mem_cons_of_mem _ hr))
theorem ok_web_lamp_rows {k : Nat} {f : Addr} {fd : FuncData} (F : Fun K "lamp_rows" "Web.lamp_rows" sWeb_lamp_rows f fd) (T : Blt mg) (S : SpW K C) : FnOk P w K mg base CX0 (k + 1) f fd ["self"] (spWLampRows C CS) := by
  refine F.ok scWeb_lamp_rows (fun vs H Q E h => ?_) (fun cdv A outer s H vs Q E hr h => ?_)
  · obtain ⟨U, a, L, B, rfl, _⟩ := h; rfl
  · obtain ⟨U, a, L, B, rfl, hw, h⟩ := h
    obtain ⟨dx, c, b, e, s, oc, oe, os, g, q, ua, ha, uc, hc, hb, ue, he, hg, us, hs, hq⟩ := hw.at_.ex
    refine ⟨_, (pss_one (ps_ret (pe_listItemsR (by rfl) (pe_fld (pv 0) rfl) (by rfl) T.list' (by decide +kernel)))), ?_⟩
    walk_at "rdF"
    refine ⟨a, C, dx, _, _, rfl, ha, S.cl, S.n1, wf_c, ?_⟩
    exact ⟨c, _, rfl, .inr ⟨_, hc⟩, fun H' p ts k1 k2 k3 k4 k5 k6 => h p _ H' k1 k2 k5 (rows_rep k6 k3 k4 hw.ok.scL)⟩
def spWBondRows (C CS : Addr) : Sp := fun vs H Q _ => ∃ (U : Addr → Prop) (a : Addr) (L : List (Str × V)) (B : List BR), vs = [.ref a] ∧ WebV U C CS H a L B ∧ ∀ p xs, H p = none → RepL U H xs (B.map BR.d) → Q (.ref p) (upd H p (.lst xs))
theorem ok_web_bond_rows {k : Nat} {f : Addr} {fd : FuncData} (F : Fun K "bond_rows" "Web.bond_rows" sWeb_bond_rows f fd) (T : Blt mg) (S : SpW K C) : FnOk P w K mg base CX0 (k + 1) f fd ["self"] (spWBondRows C CS) := by
  refine F.ok scWeb_bond_rows (fun vs H Q E h => ?_) (fun cdv A outer s H vs Q E hr h => ?_)
  · obtain ⟨U, a, L, B, rfl, _⟩ := h; rfl
  · obtain ⟨U, a, L, B, rfl, hw, h⟩ := h
    obtain ⟨dx, c, b, e, s, oc, oe, os, g, q, ua, ha, uc, hc, hb, ue, he, hg, us, hs, hq⟩ := hw.at_.ex
    obtain ⟨bp, xs, eb, _, hbp, hx⟩ := hb.tupI
    cases eb
    refine ⟨_, (pss_one (ps_ret (pe_callTy call_list_of (by rfl) T.list' (by decide +kernel) (pa_cons (pe_fld (pv 0) rfl) pa_nil)))), ?_⟩
    walk_at "rdF"
    refine ⟨a, C, dx, _, _, rfl, ha, S.cl, S.n2, wf_b, ?_⟩
    walk_at "rdF"
    exact ⟨b, xs, rfl, .inr (st_of hbp), fun p np => h p xs np hx⟩
theorem bondV {L : List (Str × V)} {B : List BR} (ok : WebOk L B) {g : Str → V} {z : Str} {v : V} (h : valV (B.map fun r => ((.inr r.n : Key), g r.n)) (.inr z) = some v) : ∃ r ∈ B, r.n = z ∧ g r.n = v := by
  by_cases c : z ∈ B.map BR.n
  · obtain ⟨r, hr, rfl⟩ := List.mem_map.mp c
    have := valV_at (n := BR.n) (g := fun r => g r.n) ok.rt.db r hr
    rw [this] at h
    exact ⟨r, hr, rfl, Option.some.inj h⟩
  · rw [valV_none (n := BR.n) (g := fun r => g r.n) c] at h; cases h
theorem bondN {L : List (Str × V)} {B : List BR} (ok : WebOk L B) {g : Str → V} {z : Str} (h : valV (B.map fun r => ((.inr r.n : Key), g r.n)) (.inr z) = none) : z ∉ bondNs B := fun c => by
  obtain ⟨r, hr, rfl⟩ := List.mem_map.mp c
  have := valV_at (n := BR.n) (g := fun r => g r.n) ok.rt.db r hr
  rw [this] at h; cases h
def spWEnds (C CS CU : Addr) : Sp := fun vs H Q E => ∃ (U : Addr → Prop) (a : Addr) (L : List (Str × V)) (B : List BR) (z : Str), vs = [.ref a, .str z] ∧ WebV U C CS H a L B ∧ (∀ r ∈ B, r.n = z → ∀ v, Rep U H v (.tuple [.str r.x, .str r.y]) → Q v H) ∧ (z ∉ bondNs B → ErrF E CU H [("name", .str z)])
theorem ok_web_ends {k : Nat} {f : Addr} {fd : FuncData} (F : Fun K "ends" "Web.ends" sWeb_ends f fd) (T : Blt mg) (S : SpW K C) (Hlook_up : HasX P w K mg base "look_up" k ["table", "name"] (spLookUp CU)) : FnOk P w K mg base (L2.CX P w) (k + 1) f fd ["self", "bond"] (spWEnds C CS CU) := by
  refine F.okX scWeb_ends (fun vs H Q E h => ?_) (fun cdv A outer s H vs Q E hr h => ?_)
  · obtain ⟨U, a, L, B, z, rfl, _⟩ := h; rfl
  · obtain ⟨U, a, L, B, z, rfl, hw, h1, h2⟩ := h
    obtain ⟨dx, c, b, e, s, oc, oe, os, g, q, ua, ha, uc, hc, hb, ue, he, hg, us, hs, hq⟩ := hw.at_.ex
    refine ⟨_, (pss_one (ps_ret (pe_callX Hlook_up hr (by rfl) (takes_of rfl rfl rfl rfl) (pa_cons (pe_fld (pv 0) rfl) (pa_cons (pv 1) pa_nil))))), ?_⟩
    walk_at "rdF"
    refine ⟨a, C, dx, _, _, rfl, ha, S.cl, S.n3, wf_e, ?_⟩
    walk_at "rdF"
    refine ⟨e, z, _, rfl, .inr ⟨_, he⟩, fun v hv => ?_, fun hn => h2 (bondN hw.ok hn)⟩
    obtain ⟨r, hr, e1, e2⟩ := bondV hw.ok hv
    walk_at "rdF"
    rw [← e2]; exact h1 r hr e1 _ (hg r hr)
end
set_option maxHeartbeats 1000000
abbrev sWeb_other_bond_rows : Stmt := inClass (topS 40) 15
theorem scWeb_other_bond_rows : FnScope ["self", "bond", "row"] ["self", "bond"] (defScope sWeb_other_bond_rows) := ⟨rfl, rfl, rfl, by decide +kernel, rfl, by decide +kernel, by decide +kernel⟩
section
variable {P : Program} {w : World} {K : PySem.W.Frag} {mg : Str → Option Value} {base : Heap} {C CS CE CB CU : Addr}
def notNamed (z : Str) (e : PyData) : Bool := match kids e with
  | .str n :: _ => decide (n ≠ z)
  | _ => true
def othersD (B : List BR) (z : Str) : List BR := B.filter fun r => decide (r.n ≠ z)
def spWOther (C CS : Addr) : Sp := fun vs H Q _ => ∃ (U : Addr → Prop) (a : Addr) (L : List (Str × V)) (B : List BR) (z : Str), vs = [.ref a, .str z] ∧ WebV U C CS H a L B ∧ ∀ p H' xs, Same H H' → H p = none → H' p = some (.lst xs) → RepL (fun _ => True) H' xs ((othersD B z).map BR.d) → Q (.ref p) H'
theorem ok_web_other {k j : Nat} {f : Addr} {fd : FuncData} (F : Fun K "other_bond_rows" "Web.other_bond_rows" sWeb_other_bond_rows f fd) (T : Blt mg) (cl_Web : Cls K C) (HP_Web_bond_rows : HasPr P w K mg base CX0 C "bond_rows" j ["self"] (spWBondRows C CS)) (hk : j + 1 ≤ k) : FnOk P w K mg base CX0 (k + 1) f fd ["self", "bond"] (spWOther C CS) := by
  refine F.ok scWeb_other_bond_rows (fun vs H Q E h => ?_) (fun cdv A outer s H vs Q E hr h => ?_)
  · obtain ⟨U, a, L, B, z, rfl, _⟩ := h; rfl
  · obtain ⟨U, a, L, B, z, rfl, hw, h1⟩ := h
    obtain ⟨dx, c, b, e, s, oc, oe, os, g, q, ua, ha, uc, hc, hb, ue, he, hg, us, hs, hq⟩ := hw.at_.ex
    refine ⟨_, (pss_one (ps_ret (pe_lc (own := [("row", 2)]) (g := (gName 2)) (by rfl) scWeb_other_bond_rows.nd (pi_seq (pe_propH HP_Web_bond_rows cl_Web (pv 0) (hr.mono (by omega)) pass0)) (blkOk_by (own := [("row", 2)]) (N := ["self", "bond", "row"]) (sc := defScope sWeb_other_bond_rows) (by decide +kernel)) (fun _ _ _ _ _ => (pg_name (i := 2) scWeb_other_bond_rows.nd rfl (.inl rfl))) (fun _ _ _ _ _ => (pts_one (pt_cmpR op_ne (pe_ix (ix_seqR (K := K) rfl) (pv 2) pe_int (fun _ _ => rfl)) (pv 1) (nomark _)))) (fun _ _ _ _ _ => (pv 2))))), ?_⟩
    walk_at "rdF"
    refine ⟨a, dx, _, rfl, ha, U, a, L, B, rfl, hw, fun p0 xs n0 hx => ?_⟩
    have s0 := same_new (o := .lst xs) n0
    have hv : Rep (fun _ => True) (upd H p0 (.lst xs)) (.ref p0) (.list (B.map BR.d)) := .lst trivial upd_same ((hx.same s0).less fun _ _ => trivial)
    generalize upd H p0 (.lst xs) = H1 at *
    walk_at "rdF"
    refine lc_seq (U := fun _ => True) (fun ds => ds.filter (notNamed z)) (fun _ => True) (.inl hv) rfl (fun _ _ => trivial) rfl (fun _ _ => trivial) ?_ ?_
    · rintro D i x e H' uD nD he hx hI
      have he' : (B.map BR.d)[i]? = some e := he
      rw [List.getElem?_map] at he'
      cases qi : B[i]? with
      | none => rw [qi] at he'; cases he'
      | some r =>
        rw [qi] at he'
        cases he'
        refine ⟨rfl, ?_⟩
        walk_at "rdF"
        refine rep_ix hx rfl (by decide) rfl fun u hu => ?_
        cases hu.strI
        walk_at "rdF"
        refine if_ndec (fun hn => ?_) (fun hn => ?_)
        · walk_at "rdF"
          refine hI.put (e := r.d) .refl trivial nD (fun _ => trivial) hx ?_ ?_
          · refine Nat.lt_of_le_of_lt (List.length_filter_le _ _) ?_
            rw [List.length_take]
            show min i (B.map BR.d).length < _
            rw [List.length_map]
            have := hw.ok.rt.l16
            omega
          · rw [take_succ he, List.filter_append, List.filter_cons_of_pos (by simpa [notNamed, BR.d, kids] using hn)]; rfl
        · rw [take_succ he, List.filter_append, List.filter_cons_of_neg (by simpa [notNamed, BR.d, kids] using hn)]
          simpa using hI
    · rintro p acc H2 e2 _ np hp hacc _
      have eo : (kids (.list (B.map BR.d))).filter (notNamed z) = (othersD B z).map BR.d := by
        show (B.map BR.d).filter _ = _
        rw [List.filter_map]; rfl
      rw [eo] at hacc
      walk_at "rdF"
      exact h1 p H2 acc (s0.trans e2.toSame) (none_back s0 np) hp (hacc.less fun _ _ => trivial)
end
set_option maxHeartbeats 2000000
abbrev sWeb_with_span : Stmt := inClass (topS 40) 12
theorem scWeb_with_span : FnScope ["self", "bond", "low", "high", "span", "first", "second", "bond_rows"] ["self", "bond", "low", "high"] (defScope sWeb_with_span) := ⟨rfl, rfl, rfl, by decide +kernel, rfl, by decide +kernel, by decide +kernel⟩
abbrev sWeb_with_bond : Stmt := inClass (topS 40) 13
theorem scWeb_with_bond : FnScope ["self", "name", "first", "second", "low", "high"] ["self", "name", "first", "second", "low", "high"] (defScope sWeb_with_bond) := ⟨rfl, rfl, rfl, by decide +kernel, rfl, by decide +kernel, by decide +kernel⟩
section
variable {P : Program} {w : World} {K : PySem.W.Frag} {mg : Str → Option Value} {base : Heap} {C CS CE CB CU : Addr}
theorem Right.notWrong {L : List (Str × V)} {B : List BR} (h : Right L B) {e : PErr} (w : Wrong L B e) : False := by
  cases w with
  | name f => obtain ⟨l1, l2, e, _, p⟩ := f; rw [h.nm _ (by rw [e]; simp)] at p; cases p
  | num _ f => obtain ⟨l1, l2, e, _, p⟩ := f; rw [h.num _ (by rw [e]; simp)] at p; cases p
  | span _ f => obtain ⟨l1, l2, e, _, p⟩ := f; rw [h.sp _ (by rw [e]; simp)] at p; cases p
  | dblL _ f => rw [dup_none'.mpr h.dl] at f; cases f
  | dblB _ f => rw [dup_none'.mpr h.db] at f; cases f
  | self _ f => obtain ⟨l1, l2, e, _, p⟩ := f; exact h.sf _ (by rw [e]; simp) p
  | unk _ f => obtain ⟨l1, l2, e, _, p⟩ := f; exact p (h.unk _ (by rw [e]; simp))
  | lamps _ f => exact f ⟨by have := h.l1; omega, by have := h.l10; omega⟩
  | bonds _ f => exact f ⟨by omega, by have := h.l16; omega⟩
theorem rowsL {L : List (Str × V)} (h : ∀ r ∈ L, r.1.length ≤ 1000 ∧ Sc r.2) : RowsD LampRow (.list (L.map lampD)) L := by
  refine ⟨rfl, by show (L.map lampD).length = _; rw [List.length_map], fun i e he => ?_⟩
  have he : (L.map lampD)[i]? = some e := he
  rw [List.getElem?_map] at he
  cases q : L[i]? with
  | none => rw [q] at he; cases he
  | some r =>
    rw [q] at he
    cases he
    obtain ⟨h1, h2⟩ := h r (List.mem_of_getElem? q)
    exact ⟨r, rfl, rfl, rfl, h1, h2⟩
theorem rowsB {B : List BR} (h : ∀ r ∈ B, r.n.length ≤ 1000 ∧ Sc r.l ∧ Sc r.h) : RowsD BondRow (.list (B.map BR.d)) B := by
  refine ⟨rfl, by show (B.map BR.d).length = _; rw [List.length_map], fun i e he => ?_⟩
  have he : (B.map BR.d)[i]? = some e := he
  rw [List.getElem?_map] at he
  cases q : B[i]? with
  | none => rw [q] at he; cases he
  | some r =>
    rw [q] at he
    cases he
    obtain ⟨h1, h2, h3⟩ := h r (List.mem_of_getElem? q)
    exact ⟨r, rfl, rfl, rfl, h1, h2, h3⟩
theorem Right.okL {L : List (Str × V)} {B : List BR} (h : Right L B) : ∀ r ∈ L, r.1.length ≤ 1000 ∧ Sc r.2 := fun r hr =>
  ⟨by have := (isNm_len (h.nm r.1 (List.mem_append.mpr (.inl (List.mem_map_of_mem hr))))).2; omega, (isOpen_NI (h.num _ (List.mem_append.mpr (.inl (List.mem_map_of_mem hr))))).sc⟩
theorem Right.okB {L : List (Str × V)} {B : List BR} (h : Right L B) : ∀ r ∈ B, r.n.length ≤ 1000 ∧ Sc r.l ∧ Sc r.h := fun r hr =>
  ⟨by have := (isNm_len (h.nm r.n (List.mem_append.mpr (.inr (List.mem_map_of_mem hr))))).2; omega, (isOpen_NI (h.num _ (List.mem_append.mpr (.inr (List.mem_flatMap.mpr ⟨r, hr, by simp⟩))))).sc, (isOpen_NI (h.num _ (List.mem_append.mpr (.inr (List.mem_flatMap.mpr ⟨r, hr, by simp⟩))))).sc⟩
theorem rd_web {c : ECs} {U U' : Addr → Prop} {lv bv : V} {dl db : PyData} {L : List (Str × V)} {B : List BR} {H : Hp} {Q : VK} {E : XK} (hl : RepQ K U H lv dl) (hb : RepQ K U' H bv db) (rl : RowsD LampRow dl L) (rb : RowsD BondRow db B) (lL : L.length ≤ 1000) (lB : B.length ≤ 1000)
    (h1 : Right L B → ∀ p H', Same H H' → H p = none → WebV (fun q => H q = none) C CS H' p (sortL L) (sortB B) → Q (.ref p) H') (h2 : ∀ e, Wrong L B e → Raises c E H e) :
    ∀ x dx, H x = none → H dx = none → dx ≠ x → spWebI K C CS c (.ref x :: ([lv, bv] ++ [])) (upd (upd H dx (.own x)) x (.ins C dx [])) (fun v H2 => v = .non ∧ Q (.ref x) H2) E := by
  intro x dx nx nd ne
  have s : Same H (upd (upd H dx (.own x)) x (.ins C dx [])) := same_mut (same_new nd) nx
  refine ⟨fun _ => True, x, dx, lv, bv, dl, db, L, B, rfl, upd_same, hl.any.same s, hb.any.same s, rl, rb, lL, lB, fun R H' ex hw => ⟨rfl, h1 R x H' (fun p o e => ex.keep p o (ne_of_none e nx) (s p o e)) nx ⟨hw.to fun p o u e => ⟨?_, e⟩, R.webOk⟩⟩, fun e he => (h2 e he).same s⟩
  rcases u with rfl | u
  · exact nx
  · exact none_back s u
theorem Right.less {L : List (Str × V)} {B B' : List BR} (r : Right L B) (h : B'.Sublist B) : Right L B' := by
  have hm : ∀ q ∈ B', q ∈ B := fun q hq => h.subset hq
  refine ⟨⟨⟨⟨⟨⟨⟨⟨⟨fun y hy => r.nm y ?_⟩, fun u hu => r.num u ?_⟩, fun q hq => r.sp q (hm q hq)⟩, r.dl⟩, (h.map _).nodup r.db⟩, fun q hq => r.sf q (hm q hq)⟩, fun y hy => r.unk y ?_⟩, r.l1, r.l10⟩, Nat.le_trans h.length_le r.l16⟩
  · rcases List.mem_append.mp hy with q | q
    · exact List.mem_append.mpr (.inl q)
    · exact List.mem_append.mpr (.inr ((h.map _).subset q))
  · rcases List.mem_append.mp hu with q | q
    · exact List.mem_append.mpr (.inl q)
    · obtain ⟨p, hp, q⟩ := List.mem_flatMap.mp q
      exact List.mem_append.mpr (.inr (List.mem_flatMap.mpr ⟨p, hm p hp, q⟩))
  · obtain ⟨p, hp, q⟩ := List.mem_flatMap.mp hy
    exact List.mem_flatMap.mpr ⟨p, hm p hp, q⟩
def spWithBond (C CS : Addr) (c : ECs) : Sp := fun vs H Q E => ∃ (U : Addr → Prop) (a : Addr) (L : List (Str × V)) (B : List BR) (r : BR), vs = [.ref a, .str r.n, .str r.x, .str r.y, r.l, r.h] ∧ WebV U C CS H a L B ∧ r.n.length ≤ 1000 ∧ Sc r.l ∧ Sc r.h ∧ (∀ e, Wrong L (B ++ [r]) e → Raises c E H e) ∧
  (Right L (B ++ [r]) → ∀ p H', Same H H' → H p = none → WebV (fun q => H q = none) C CS H' p L (sortB (B ++ [r])) → Q (.ref p) H')
theorem rep_row {U : Addr → Prop} {H : Hp} {p : Addr} {r : BR} (u : U p) (h : H p = some (.tup r.row)) (sl : Sc r.l) (sh : Sc r.h) : Rep U H (.ref p) r.d := .tup u h (.cons (.str _) (.cons (.str _) (.cons (.str _) (.cons (.sc sl) (.cons (.sc sh) .nil)))))
theorem ok_web_with_bond {k j : Nat} {f : Addr} {fd : FuncData} {c : ECs} (F : FunD K "with_bond" "Web.with_bond" (defArgs sWeb_with_bond) (defBody sWeb_with_bond) (defScope sWeb_with_bond) [] [("low", .non), ("high", .non)] f fd) (T : Blt mg) (S : SpW K C) (cl_Web : Cls K C)
    (HP_Web_lamp_rows : HasPr P w K mg base CX0 C "lamp_rows" j ["self"] (spWLampRows C CS)) (HP_Web_bond_rows : HasPr P w K mg base CX0 C "bond_rows" j ["self"] (spWBondRows C CS)) (HM_Web_2 : HasMk P w K mg base (L2.CX P w) C "Web" j ["self", "lamps", "bonds"] [] (spWebI K C CS c)) (hk : j + 1 ≤ k) : FnOk P w K mg base (L2.CX P w) (k + 1) f fd ["self", "name", "first", "second", "low", "high"] (spWithBond C CS c) := by
  refine F.ok scWeb_with_bond (fun vs H Q E h => ?_) (fun cdv A outer s H vs Q E hr h => ?_)
  · obtain ⟨U, a, L, B, r, rfl, _⟩ := h; rfl
  · obtain ⟨U, a, L, B, r, rfl, hw, nr, sl, sh, h2, h3⟩ := h
    obtain ⟨dx, c0, b, e, s, oc, oe, os, g, q, ua, ha, uc, hc, hb, ue, he, hg, us, hs, hq⟩ := hw.at_.ex
    refine ⟨_, (pss_one (ps_ret (pe_makeHS HM_Web_2 (hr.mono (by omega)) (by rfl) (fun σ => passAt (takes_of rfl rfl rfl rfl) σ) (pa_cons (pe_propH HP_Web_lamp_rows cl_Web (pv 0) (hr.mono (by omega)) pass0) (pa_cons (pe_op op_cat (pe_propH HP_Web_bond_rows cl_Web (pv 0) (hr.mono (by omega)) pass0) (pe_lst (pa_cons (pe_tup (pa_cons (pv 1) (pa_cons (pv 2) (pa_cons (pv 3) (pa_cons (pv 4) (pa_cons (pv 5) pa_nil)))))) pa_nil))) pa_nil))))), ?_⟩
    walk_at "rdF"
    refine ⟨a, dx, _, rfl, ha, U, a, L, B, rfl, hw, fun p0 xs H1 s1 n0 hp hx => ?_⟩
    have hl : Rep (fun _ => True) H1 (.ref p0) (.list (L.map lampD)) := .lst trivial hp (hx.less fun _ _ => trivial)
    walk_at "rdF"
    refine ⟨a, dx, _, rfl, s1 _ _ ha, U, a, L, B, rfl, hw.same s1, fun p2 ys n2 hy => ?_⟩
    have s2 := same_new (o := .lst ys) n2
    have hp2 := @upd_same H1 p2 (.lst ys)
    have hy := (hy.same s2).less (U' := fun _ => True) fun _ _ => trivial
    generalize upd H1 p2 (.lst ys) = H2 at *
    walk_at "rdF"
    refine ⟨sz (by simp), fun p3 n3 => ?_⟩
    have s3 := same_new (o := .tup [V.str r.n, V.str r.x, V.str r.y, r.l, r.h]) n3
    have hr3 : Rep (fun _ => True) (upd H2 p3 (.tup [V.str r.n, V.str r.x, V.str r.y, r.l, r.h])) (.ref p3) r.d := rep_row trivial upd_same sl sh
    generalize upd H2 p3 (.tup [V.str r.n, V.str r.x, V.str r.y, r.l, r.h]) = H3 at *
    refine ⟨sz (by simp), fun p4 n4 => ?_⟩
    have s4 := same_new (o := .lst [V.ref p3]) n4
    have hp4 := @upd_same H3 p4 (.lst [V.ref p3])
    generalize upd H3 p4 (.lst [V.ref p3]) = H4 at *
    have s24 := s3.trans s4
    have lB := hw.ok.rt.l16
    refine ⟨p2, p4, ys, [.ref p3], rfl, rfl, s24 _ _ hp2, hp4, sz (by rw [hy.len, List.length_map]; simp; omega), fun p5 n5 => ?_⟩
    have s5 := same_new (o := .lst (ys ++ [V.ref p3])) n5
    have s25 := s24.trans s5
    have hb5 : Rep (fun _ => True) (upd H4 p5 (.lst (ys ++ [V.ref p3]))) (.ref p5) (.list ((B ++ [r]).map BR.d)) := .lst trivial upd_same (by rw [List.map_append]; exact (hy.same s25).snoc (hr3.same (s4.trans s5)))
    generalize upd H4 p5 (.lst (ys ++ [V.ref p3])) = H5 at *
    have s15 := s2.trans s25
    have s05 := s1.trans s15
    walk_at "rdF"
    refine rd_web (.inl (hl.same s15)) (.inl hb5) (rowsL hw.ok.rt.okL) (rowsB fun q hq => ?_) (by have := hw.ok.rt.l10; omega) (by rw [List.length_append]; simp; omega) (fun R p H6 s6 np hw' => ?_) fun e he => (h2 e he).same s05
    · rcases List.mem_append.mp hq with hq | hq
      · exact hw.ok.rt.okB q hq
      · rw [List.mem_singleton.mp hq]; exact ⟨nr, sl, sh⟩
    · rw [hw.ok.sortL] at hw'
      exact h3 R p H6 (s05.trans s6) (none_back s05 np) (hw'.less fun q hq => none_back s05 hq)
def setSpan (B : List BR) (z : Str) (l h : V) : List BR := B.map fun r => if r.n = z then ⟨r.n, r.x, r.y, l, h⟩ else r
theorem setSpan_perm {l h : V} : ∀ {B : List BR}, (bondNs B).Nodup → ∀ r ∈ B, (othersD B r.n ++ [(⟨r.n, r.x, r.y, l, h⟩ : BR)]).Perm (setSpan B r.n l h)
  | [], _, r, hr => by cases hr
  | b :: B, nd, r, hr => by
    obtain ⟨n1, n2⟩ := List.nodup_cons.mp (show (b.n :: bondNs B).Nodup from nd)
    by_cases c : b.n = r.n
    · have eb : b = r := by
        rcases List.mem_cons.mp hr with e | e
        · exact e.symm
        · exact absurd (by rw [c]; exact List.mem_map_of_mem e) n1
      subst eb
      have e1 : othersD (b :: B) b.n = B := by
        unfold othersD
        rw [List.filter_cons_of_neg (by simp)]
        exact List.filter_eq_self.mpr fun q hq => by
          simp only [decide_eq_true_eq]
          exact fun e => n1 (by rw [← e]; exact List.mem_map_of_mem hq)
      have e2 : setSpan (b :: B) b.n l h = ⟨b.n, b.x, b.y, l, h⟩ :: B := by
        unfold setSpan
        rw [List.map_cons, if_pos rfl]
        congr 1
        conv => rhs; rw [← List.map_id B]
        exact List.map_congr_left fun q hq => by
          rw [if_neg fun e => n1 (by rw [← e]; exact List.mem_map_of_mem hq)]; rfl
      rw [e1, e2]
      exact List.perm_append_singleton _ _
    · have hr' : r ∈ B := by
        rcases List.mem_cons.mp hr with e | e
        · exact absurd (by rw [e]) c
        · exact e
      have ih := setSpan_perm (l := l) (h := h) n2 r hr'
      have e1 : othersD (b :: B) r.n = b :: othersD B r.n := by
        unfold othersD
        rw [List.filter_cons_of_pos (by simpa using c)]
      have e2 : setSpan (b :: B) r.n l h = b :: setSpan B r.n l h := by
        unfold setSpan
        rw [List.map_cons, if_neg c]
      rw [e1, e2]
      exact ih.cons b
theorem setSpan_ok {L : List (Str × V)} {B : List BR} {z : Str} {l h : V} (ok : WebOk L B) (ol : isOpen l = true) (oh : isOpen h = true) (cr : crossed l h = false) : WebOk L (setSpan B z l h) := by
  have r := ok.rt
  have nm : (fun r : BR => (if r.n = z then (⟨r.n, r.x, r.y, l, h⟩ : BR) else r).n) = BR.n := by
    funext r
    by_cases c : r.n = z <;> simp [c]
  have ns : bondNs (setSpan B z l h) = bondNs B := by
    unfold setSpan bondNs
    rw [List.map_map]
    exact congrArg (fun f => B.map f) nm
  have mem : ∀ q ∈ setSpan B z l h, ∃ r ∈ B, q = r ∨ q = ⟨r.n, r.x, r.y, l, h⟩ := fun q hq => by
    obtain ⟨r, hr, rfl⟩ := List.mem_map.mp hq
    by_cases c : r.n = z
    · exact ⟨r, hr, .inr (by rw [if_pos c])⟩
    · exact ⟨r, hr, .inl (by rw [if_neg c])⟩
  refine ⟨⟨⟨⟨⟨⟨⟨⟨⟨⟨by rw [ns]; exact r.nm⟩, fun u hu => ?_⟩, fun q hq => ?_⟩, r.dl⟩, by rw [ns]; exact r.db⟩, fun q hq => ?_⟩, fun y hy => ?_⟩, r.l1, r.l10⟩, by unfold setSpan; rw [List.length_map]; exact r.l16⟩, ok.al, ?_, fun q hq => ?_⟩
  · rcases List.mem_append.mp hu with q | q
    · exact r.num _ (List.mem_append.mpr (.inl q))
    · obtain ⟨q, hq, hu⟩ := List.mem_flatMap.mp q
      obtain ⟨p, hp, rfl | rfl⟩ := mem q hq
      · exact r.num _ (List.mem_append.mpr (.inr (List.mem_flatMap.mpr ⟨q, hp, hu⟩)))
      · simp at hu
        rcases hu with rfl | rfl
        · exact ol
        · exact oh
  · obtain ⟨p, hp, rfl | rfl⟩ := mem q hq
    · exact r.sp _ hp
    · exact cr
  · obtain ⟨p, hp, rfl | rfl⟩ := mem q hq
    · exact r.sf _ hp
    · exact r.sf p hp
  · obtain ⟨q, hq, hy⟩ := List.mem_flatMap.mp hy
    obtain ⟨p, hp, rfl | rfl⟩ := mem q hq
    · exact r.unk y (List.mem_flatMap.mpr ⟨q, hp, hy⟩)
    · exact r.unk y (List.mem_flatMap.mpr ⟨p, hp, hy⟩)
  · refine List.pairwise_map.mpr (ok.ab.imp fun {x y} q => ?_)
    have ex : (if x.n = z then (⟨x.n, x.x, x.y, l, h⟩ : BR) else x).n = x.n := congrFun nm x
    have ey : (if y.n = z then (⟨y.n, y.x, y.y, l, h⟩ : BR) else y).n = y.n := congrFun nm y
    rw [ex, ey]; exact q
  · obtain ⟨p, hp, rfl | rfl⟩ := mem q hq
    · exact ok.kp _ hp
    · have := ok.kp p hp
      unfold keptBR at this ⊢
      have e1 := congrArg BR.x this
      have e2 := congrArg BR.y this
      simp only at e1 e2 ⊢
      rw [e1, e2]
theorem sort_setSpan {L : List (Str × V)} {B : List BR} {l h : V} (ok : WebOk L B) (ol : isOpen l = true) (oh : isOpen h = true) (cr : crossed l h = false) {r : BR} (hr : r ∈ B) : sortB (othersD B r.n ++ [(⟨r.n, r.x, r.y, l, h⟩ : BR)]) = setSpan B r.n l h ∧ Right L (othersD B r.n ++ [(⟨r.n, r.x, r.y, l, h⟩ : BR)]) := by
  have ok' := setSpan_ok (z := r.n) ok ol oh cr
  have pm := setSpan_perm (l := l) (h := h) ok.rt.db r hr
  refine ⟨?_, ok'.rt.perm (List.Perm.refl _) pm⟩
  rw [← ok'.sortB]
  refine srt_of_perm (pm.map _) ?_
  rw [List.map_map]; exact ok'.rt.db
def spWithSpan (C CS CE CB CU : Addr) : Sp := fun vs H Q E => ∃ (U : Addr → Prop) (a : Addr) (L : List (Str × V)) (B : List BR) (z : Str) (l h : V), vs = [.ref a, .str z, l, h] ∧ WebV U C CS H a L B ∧ Sc l ∧ Sc h ∧ (isOpen l = false → Err E CE H l) ∧ (isOpen l = true → isOpen h = false → Err E CE H h) ∧ (isOpen l = true → isOpen h = true → crossed l h = true → ErrB E CB H l h) ∧
  (isOpen l = true → isOpen h = true → crossed l h = false → z ∉ bondNs B → ErrF E CU H [("name", .str z)]) ∧
  (isOpen l = true → isOpen h = true → crossed l h = false → z ∈ bondNs B → ∀ p H', Same H H' → H p = none → WebV (fun q => H q = none) C CS H' p L (setSpan B z l h) → Q (.ref p) H')
theorem ok_web_with_span {k j : Nat} {f : Addr} {fd : FuncData} {c : ECs} (F : Fun K "with_span" "Web.with_span" sWeb_with_span f fd) (T : Blt mg) (S : SpW K C) (SS : SpC K CS) (cl_Web : Cls K C) (HM_Span_2 : HasMk P w K mg base (L2.CX P w) CS "Span" j ["self", "low", "high"] [] (spSpanI CS CE CB)) (HT_Web_ends : HasMt P w K mg base (L2.CX P w) C "ends" k ["self", "bond"] (spWEnds C CS CU)) (HT_Web_other_bond_rows : HasMt P w K mg base CX0 C "other_bond_rows" k ["self", "bond"] (spWOther C CS))
    (HP_Web_lamp_rows : HasPr P w K mg base CX0 C "lamp_rows" j ["self"] (spWLampRows C CS)) (HM_Web_2 : HasMk P w K mg base (L2.CX P w) C "Web" j ["self", "lamps", "bonds"] [] (spWebI K C CS c)) (hk : j + 1 ≤ k) : FnOk P w K mg base (L2.CX P w) (k + 1) f fd ["self", "bond", "low", "high"] (spWithSpan C CS CE CB CU) := by
  refine F.okX scWeb_with_span (fun vs H Q E h => ?_) (fun cdv A outer s H vs Q E hr h => ?_)
  · obtain ⟨U, a, L, B, z, l, h, rfl, _⟩ := h; rfl
  · obtain ⟨U, a, L, B, z, l, hh, rfl, hw, sl, sh, h1, h2, h3, h4, h5⟩ := h
    obtain ⟨dx, c0, b, e, s, oc, oe, os, g, q, ua, ha, uc, hc, hb, ue, he, hg, us, hs, hq⟩ := hw.at_.ex
    refine ⟨_, (pss_cons (ps_set (i := 4) scWeb_with_span.nd rfl (.inl rfl) (pe_makeHS HM_Span_2 (hr.mono (by omega)) (by rfl) (fun σ => passAt (takes_of rfl rfl rfl rfl) σ) (pa_cons (pv 2) (pa_cons (pv 3) pa_nil))))
 (pss_cons (ps_asg (pe_mt HT_Web_ends cl_Web (pv 0) hr (fun σ => passAt (takes_of rfl rfl rfl rfl) σ) (pa_cons (pv 1) pa_nil)) (pg_seqU (K := K) rfl rfl (pgs_cons (pg_name (i := 5) scWeb_with_span.nd rfl (.inl rfl)) (pgs_cons (pg_name (i := 6) scWeb_with_span.nd rfl (.inl rfl)) pgs_nil))))
 (pss_cons (ps_set (i := 7) scWeb_with_span.nd rfl (.inl rfl) (pe_op op_cat (pe_mt HT_Web_other_bond_rows cl_Web (pv 0) hr pass0S (pa_cons (pv 1) pa_nil)) (pe_lst (pa_cons (pe_tup (pa_cons (pv 1) (pa_cons (pv 5) (pa_cons (pv 6) (pa_cons (pe_fld (pv 4) rfl) (pa_cons (pe_fld (pv 4) rfl) pa_nil)))))) pa_nil))))
 (pss_one (ps_ret (pe_makeHS HM_Web_2 (hr.mono (by omega)) (by rfl) (fun σ => passAt (takes_of rfl rfl rfl rfl) σ) (pa_cons (pe_propH HP_Web_lamp_rows cl_Web (pv 0) (hr.mono (by omega)) pass0) (pa_cons (pv 7) pa_nil)))))))), ?_⟩
    walk_at "rdF"
    intro up dp nup ndp ndu
    have sN : Same H (upd (upd H dp (.own up)) up (.ins CS dp [])) := same_mut (same_new ndp) nup
    refine ⟨up, dp, _, _, rfl, upd_same, sl, sh, fun ol oh cr => ⟨rfl, ?_⟩, fun o => ?_, fun o o' => ?_, fun o o' o2 => ?_⟩
    · rw [upd_upd]
      have s1 : Same H (upd (upd H dp (.own up)) up (.ins CS dp (spn l hh))) := same_mut (same_new ndp) nup
      have hUp : (upd (upd H dp (.own up)) up (.ins CS dp (spn l hh))) up = some (.ins CS dp (spn l hh)) := upd_same
      generalize (upd (upd H dp (.own up)) up (.ins CS dp (spn l hh))) = H1 at *
      walk_at "rdF"
      refine ⟨a, dx, _, rfl, s1 _ _ ha, by rfl, ?_⟩
      walk_at "rdF"
      refine ⟨U, a, L, B, z, rfl, hw.same s1, fun r hr e1 v hv => ?_, fun hn => ErrF.same (fs := [("name", .str z)]) (h4 ol oh cr hn) s1⟩
      refine rd_gSeq hv rfl rfl fun xs rx => ?_
      obtain ⟨u, v, rfl, ru, rv⟩ := rep2 rx
      cases ru.strI
      cases rv.strI
      walk_at "rdF"
      refine ⟨a, dx, _, rfl, s1 _ _ ha, by rfl, ?_⟩
      walk_at "rdF"
      refine ⟨U, a, L, B, z, rfl, hw.same s1, fun p2 H2 ys s2 n2 hp2 hy => ?_⟩
      have hz : z ∈ bondNs B := by rw [← e1]; exact List.mem_map_of_mem hr
      have s02 := s1.trans s2
      obtain ⟨es, R'⟩ := sort_setSpan hw.ok ol oh cr hr
      rw [e1] at es R'
      walk_at "rdF"
      refine ⟨up, CS, dp, _, _, rfl, s2 _ _ hUp, SS.cl, SS.nl, spn_low, ?_⟩
      walk_at "rdF"
      refine ⟨up, CS, dp, _, _, rfl, s2 _ _ hUp, SS.cl, SS.nh, spn_high, ?_⟩
      walk_at "rdF"
      refine ⟨sz (by simp), fun p3 n3 => ?_⟩
      have s3 := same_new (o := .tup [V.str z, V.str r.x, V.str r.y, l, hh]) n3
      have hr3 : Rep (fun _ => True) (upd H2 p3 (.tup [V.str z, V.str r.x, V.str r.y, l, hh])) (.ref p3) (BR.d ⟨z, r.x, r.y, l, hh⟩) := rep_row (r := ⟨z, r.x, r.y, l, hh⟩) trivial upd_same sl sh
      generalize upd H2 p3 (.tup [V.str z, V.str r.x, V.str r.y, l, hh]) = H3 at *
      refine ⟨sz (by simp), fun p4 n4 => ?_⟩
      have s4 := same_new (o := .lst [V.ref p3]) n4
      have hp4 := @upd_same H3 p4 (.lst [V.ref p3])
      generalize upd H3 p4 (.lst [V.ref p3]) = H4 at *
      have s24 := s3.trans s4
      have lB := hw.ok.rt.l16
      have lo : (othersD B z).length ≤ B.length := List.length_filter_le _ _
      refine ⟨p2, p4, ys, [.ref p3], rfl, rfl, s24 _ _ hp2, hp4, sz (by rw [hy.len, List.length_map]; simp; omega), fun p5 n5 => ?_⟩
      have s5 := same_new (o := .lst (ys ++ [V.ref p3])) n5
      have s25 := s24.trans s5
      have hb5 : Rep (fun _ => True) (upd H4 p5 (.lst (ys ++ [V.ref p3]))) (.ref p5) (.list ((othersD B z ++ [(⟨z, r.x, r.y, l, hh⟩ : BR)]).map BR.d)) := .lst trivial upd_same (by rw [List.map_append]; exact (hy.same s25).snoc (hr3.same (s4.trans s5)))
      generalize upd H4 p5 (.lst (ys ++ [V.ref p3])) = H5 at *
      have s05 := s02.trans s25
      walk_at "rdF"
      refine ⟨a, dx, _, rfl, s05 _ _ ha, U, a, L, B, rfl, hw.same s05, fun p0 xs H6 s6 n0 hp hx => ?_⟩
      have hl : Rep (fun _ => True) H6 (.ref p0) (.list (L.map lampD)) := .lst trivial hp (hx.less fun _ _ => trivial)
      have s06 := s05.trans s6
      walk_at "rdF"
      refine rd_web (.inl hl) (.inl (hb5.same s6)) (rowsL hw.ok.rt.okL) (rowsB R'.okB) (by have := hw.ok.rt.l10; omega) (by have := R'.l16; omega) (fun R p H7 s7 np hw' => ?_) fun e he => (R'.notWrong he).elim
      rw [hw.ok.sortL, es] at hw'
      exact h5 ol oh cr hz p H7 (s06.trans s7) (none_back s06 np) (hw'.less fun q hq => none_back s06 hq)
    · exact ErrF.same (fs := [("number", l)]) (h1 o) sN
    · exact ErrF.same (fs := [("number", hh)]) (h2 o o') sN
    · exact ErrF.same (fs := [("high", hh), ("low", l)]) (h3 o o' o2) sN
end
set_option maxHeartbeats 1000000
theorem pe_globC {X : Cx} {x : Str} {C : Addr} {pos : Pos} (hg : Gl X x) (hm : X.mg x = some (.ref C)) (hd : (x == ("__debug__" : Str)) = false := by decide) : PE X (.Name x pos) (tC (.ref C)) := pe_glob hg hm rfl hd
instance : DecidableEq BR := fun a b =>
  match a, b with
  | ⟨n, x, y, l, h⟩, ⟨n', x', y', l', h'⟩ =>
    if e : n = n' ∧ x = x' ∧ y = y' ∧ l = l' ∧ h = h' then isTrue (by obtain ⟨rfl, rfl, rfl, rfl, rfl⟩ := e; rfl)
    else isFalse fun c => e (by cases c; exact ⟨rfl, rfl, rfl, rfl, rfl⟩)
section
variable {P : Program} {w : World} {K : PySem.W.Frag} {mg : Str → Option Value} {base : Heap} {C CS CE CB CU : Addr}
structure SpI (K : PySem.W.Frag) (C : Addr) : Prop where
  cl : Cls K C
  ha : PySem.W.findIn K (.ref C) "__class__" = some (some (.builtin "object.__class__"))
  hn : PySem.W.specialIn K (.builtin "object.__class__") "__get__" = some (some (.builtin "getset_descriptor.__get__"))
  ht : PySem.W.takesIn K (.builtin "object.__class__") = some true
  hm : PySem.W.mroIn K C (.type "object") = some true
  self : PySem.W.kitOne K (.ref C) (.ref C) = some true
  int : PySem.W.kitOne K (.type "int") (.ref C) = some false
  str : PySem.W.kitOne K (.type "str") (.ref C) = some false
  tup : PySem.W.kitOne K (.type "tuple") (.ref C) = some false
  non : PySem.W.kitOne K (.type "NoneType") (.ref C) = some false
theorem WebOk.niL {L : List (Str × V)} {B : List BR} (h : WebOk L B) : ∀ r ∈ L, NI r.2 := fun r hr => isOpen_NI (h.rt.num _ (List.mem_append.mpr (.inl (List.mem_map_of_mem hr))))
end
set_option maxHeartbeats 1000000
abbrev s_law_alike : Stmt := topS 66
theorem sc_law_alike : FnScope ["left", "right", "k"] ["left", "right"] (defScope s_law_alike) := ⟨rfl, rfl, rfl, by decide +kernel, rfl, by decide +kernel, by decide +kernel⟩
abbrev R (H : Hp) (v : V) (d : PyData) : Prop := Rep (fun _ => True) H v d
abbrev RL (H : Hp) (vs : List V) (ds : List PyData) : Prop := RepL (fun _ => True) H vs ds
def Okd : Nat → PyData → Prop
  | _, .none => True
  | _, .bool _ => True
  | _, .int _ => True
  | _, .str _ => True
  | n + 1, .list xs => xs.length ≤ 100000 ∧ ∀ e ∈ xs, Okd n e
  | n + 1, .tuple xs => xs.length ≤ 100000 ∧ ∀ e ∈ xs, Okd n e
  | _, _ => False
section
variable {P : Program} {w : World} {K : PySem.W.Frag} {mg : Str → Option Value} {base : Heap} {C CS CE CB CU : Addr}
def spAlike (n : Nat) : Sp := fun vs H Q _ => ∃ (x y : V) (d : PyData), vs = [x, y] ∧ R H x d ∧ R H y d ∧ Okd n d ∧ ∀ H', Same H H' → Q (.bl true) H'
theorem ka_no {K : PySem.W.Frag} {a : String} (h1 : kitB a "list" = some false) (h2 : kitB a "tuple" = some false) : PySem.W.kitAny K (.type a) [.type "list", .type "tuple"] = some false :=
  kitAny_cons (kit_ty h1) (fun _ => kitAny_cons (kit_ty h2) (fun _ => rfl) (fun h => by cases h)) (fun h => by cases h)
theorem dec_refl {α : Type} {a : α} [d : Decidable (a = a)] : decide (a = a) = true := decide_eq_true rfl
theorem kb_non_list : kitB "NoneType" "list" = some false := by decide +kernel
theorem kb_non_tuple : kitB "NoneType" "tuple" = some false := by decide +kernel
theorem ka_intI {K : PySem.W.Frag} {a : String} (h1 : kitB a "int" = some true) : PySem.W.kitAny K (.type a) [.type "int", .type "str"] = some true := kitAny_cons (kit_ty h1) (fun h => by cases h) (fun _ => rfl)
theorem ka_strI {K : PySem.W.Frag} : PySem.W.kitAny K (.type "str") [.type "int", .type "str"] = some true := kitAny_cons (kit_ty kb_str_int) (fun _ => kitAny_cons (kit_ty kb_str_str) (fun h => by cases h) (fun _ => rfl)) (fun h => by cases h)
theorem atI_nat {xs : List V} {i : Nat} {u : V} (h : xs[i]? = some u) : atI xs (i : Int) = some u := by
  have hl := (List.getElem?_eq_some_iff.mp h).1
  obtain ⟨hb, e⟩ := atI_get (xs := xs) (i := (i : Int)) (by omega) (by omega)
  rw [e]
  rw [List.getElem?_eq_getElem hl] at h
  exact h
theorem rd_isiIS {H : Hp} {x : V} {Q : VK} {K : PySem.W.Frag} {tp : Addr} {b : Bool} {a : String} (h : H tp = some (.tup [.ty "int", .ty "str"])) (ty : TyOf K H x (.type a)) (k : PySem.W.kitAny K (.type a) [.type "int", .type "str"] = some b) (q : Q (.bl b) H) : rIsiT K [x, .ref tp] H Q :=
  ⟨x, tp, _, .type a, _, b, rfl, h, .cons (.ty _) (.cons (.ty _) .nil), .base ty, k, q⟩
theorem ok_alikeS {n k : Nat} {f : Addr} {fd : FuncData} (F : Fun K "_law_alike" "_law_alike" s_law_alike f fd) (T : Blt mg) (H_law_alike : Has P w K mg base "_law_alike" k ["left", "right"] (spAlike n)) : FnOk P w K mg base CX0 (k + 1) f fd ["left", "right"] (spAlike (n + 1)) := by
  refine F.ok sc_law_alike (fun vs H Q E h => ?_) (fun cdv A outer s H vs Q E hr h => ?_)
  · obtain ⟨x, y, d, rfl, _⟩ := h; rfl
  · obtain ⟨x, y, d, rfl, hx, hy, hd, h⟩ := h
    refine ⟨_, (pss_cons (ps_if (PW.pt (pw_and (pt_val (pe_callB (call_isiTR (K := K) rfl) (by rfl) T.isinstance (by decide +kernel) (pa_cons (pv 0) (pa_cons (pe_tup (pa_cons (pe_bltn (v := .ty "list") rfl T.list' (by decide +kernel) rfl) (pa_cons (pe_bltn (v := .ty "tuple") rfl T.tuple (by decide +kernel) rfl) pa_nil))) pa_nil)))) (pw_and1 (pt_val (pe_callB (call_isiTR (K := K) rfl) (by rfl) T.isinstance (by decide +kernel) (pa_cons (pv 1) (pa_cons (pe_tup (pa_cons (pe_bltn (v := .ty "list") rfl T.list' (by decide +kernel) rfl) (pa_cons (pe_bltn (v := .ty "tuple") rfl T.tuple (by decide +kernel) rfl) pa_nil))) pa_nil))))))) (pss_cons (ps_if (PW.pt (pw_or (pt_cmpR op_ne (pe_callB call_len_seq (by rfl) T.len (by decide +kernel) (pa_cons (pv 0) pa_nil)) (pe_callB call_len_seq (by rfl) T.len (by decide +kernel) (pa_cons (pv 1) pa_nil)) (nomark _)) (pw_or1 (pt_cmpR op_ne (pe_callB (call_isiR (K := K) rfl) (by rfl) T.isinstance (by decide +kernel) (pa_cons (pv 0) (pa_cons (pe_bltn (v := .ty "list") rfl T.list' (by decide +kernel) rfl) pa_nil))) (pe_callB (call_isiR (K := K) rfl) (by rfl) T.isinstance (by decide +kernel) (pa_cons (pv 1) (pa_cons (pe_bltn (v := .ty "list") rfl T.list' (by decide +kernel) rfl) pa_nil))) (nomark _))))) (pss_one (ps_ret pe_bl)) pss_nil)
 (pss_one (ps_ret (pe_cmpR op_eq (pe_callB call_len_seq (by rfl) T.len (by decide +kernel) (pa_cons (pe_lc (own := [("k", 2)]) (g := (gName 2)) (by rfl) sc_law_alike.nd (pi_range1 rfl T.range (pa_cons (pe_callB call_len_seq (by rfl) T.len (by decide +kernel) (pa_cons (pv 0) pa_nil)) pa_nil)) (blkOk_by (own := [("k", 2)]) (N := ["left", "right", "k"]) (sc := defScope s_law_alike) (by decide +kernel)) (fun _ _ _ _ _ => (pg_name (i := 2) sc_law_alike.nd rfl (.inl rfl))) (fun _ _ _ _ _ => (pts_one (pt_not (pt_val (pe_callH H_law_alike hr (by rfl) (pa_cons (pe_ix (ix_seqR (K := K) rfl) (pv 0) (pv 2) (fun _ _ => rfl)) (pa_cons (pe_ix (ix_seqR (K := K) rfl) (pv 1) (pv 2) (fun _ _ => rfl)) pa_nil))))))) (fun _ _ _ _ _ => (pv 2))) pa_nil)) pe_int (nomark _))))) pss_nil)
 (pss_cons (ps_if (PW.pt (pw_or (pt_cmpR op_isN (pv 0) pe_non (nomark _)) (pw_or1 (pt_cmpR op_isN (pv 1) pe_non (nomark _))))) (pss_one (ps_ret (pe_and (pe_cmpR op_isN (pv 0) pe_non (nomark _)) (pe_one (pe_cmpR op_isN (pv 1) pe_non (nomark _)))))) pss_nil)
 (pss_cons (ps_if (PW.pt (pw_or (pt_cmpR op_ne (pe_callB (call_isiR (K := K) rfl) (by rfl) T.isinstance (by decide +kernel) (pa_cons (pv 0) (pa_cons (pe_bltn (v := .ty "bool") rfl T.bool (by decide +kernel) rfl) pa_nil))) (pe_callB (call_isiR (K := K) rfl) (by rfl) T.isinstance (by decide +kernel) (pa_cons (pv 1) (pa_cons (pe_bltn (v := .ty "bool") rfl T.bool (by decide +kernel) rfl) pa_nil))) (nomark _)) (pw_or1 (pt_cmpR op_ne (pe_callB (call_isiR (K := K) rfl) (by rfl) T.isinstance (by decide +kernel) (pa_cons (pv 0) (pa_cons (pe_bltn (v := .ty "int") rfl T.int (by decide +kernel) rfl) pa_nil))) (pe_callB (call_isiR (K := K) rfl) (by rfl) T.isinstance (by decide +kernel) (pa_cons (pv 1) (pa_cons (pe_bltn (v := .ty "int") rfl T.int (by decide +kernel) rfl) pa_nil))) (nomark _))))) (pss_one (ps_ret pe_bl)) pss_nil)
 (pss_one (ps_ret (pe_and (pe_cmpR op_eq (pe_callB (call_isiR (K := K) rfl) (by rfl) T.isinstance (by decide +kernel) (pa_cons (pv 0) (pa_cons (pe_bltn (v := .ty "str") rfl T.str (by decide +kernel) rfl) pa_nil))) (pe_callB (call_isiR (K := K) rfl) (by rfl) T.isinstance (by decide +kernel) (pa_cons (pv 1) (pa_cons (pe_bltn (v := .ty "str") rfl T.str (by decide +kernel) rfl) pa_nil))) (nomark _)) (pe_and (pe_callB (call_isiTR (K := K) rfl) (by rfl) T.isinstance (by decide +kernel) (pa_cons (pv 0) (pa_cons (pe_tup (pa_cons (pe_bltn (v := .ty "int") rfl T.int (by decide +kernel) rfl) (pa_cons (pe_bltn (v := .ty "str") rfl T.str (by decide +kernel) rfl) pa_nil))) pa_nil))) (pe_one (pe_cmpR op_eq (pv 0) (pv 1) (nomark _)))))))))), ?_⟩
    have sT : ∀ {H1 : Hp} {p : Addr}, H1 p = none → Same H1 (upd H1 p (.tup [V.ty "list", V.ty "tuple"])) := fun n => same_new n
    have sI : ∀ {H1 : Hp} {p : Addr}, H1 p = none → Same H1 (upd H1 p (.tup [V.ty "int", V.ty "str"])) := fun n => same_new n
    cases d with
    | none =>
      cases hx
      cases hy
      walk_at "rdF"
      refine ⟨sz (by simp), fun p np => ?_⟩
      walk_at "rdF"
      refine rd_isiLT upd_same .non (ka_no kb_non_list kb_non_tuple) ?_
      walk_at "rdF"
      exact h _ (sT np)
    | bool b =>
      cases hx
      cases hy
      walk_at "rdF"
      refine ⟨sz (by simp), fun p np => ?_⟩
      walk_at "rdF"
      refine rd_isiLT upd_same (.bl _) (ka_no kb_bool_list kb_bool_tuple) ?_
      walk_at "rdF"
      repeat (walk_at "rdF"; rw [dec_refl])
      walk_at "rdF"
      refine ⟨sz (by simp), fun p2 np2 => ?_⟩
      walk_at "rdF"
      refine rd_isiIS upd_same (.bl _) (ka_intI kb_bool_int) ?_
      walk_at "rdF"
      rw [dec_refl]
      exact h _ ((sT np).trans (sI np2))
    | int i =>
      cases hx
      cases hy
      walk_at "rdF"
      refine ⟨sz (by simp), fun p np => ?_⟩
      walk_at "rdF"
      refine rd_isiLT upd_same (.int _) (ka_no kb_int_list kb_int_tuple) ?_
      repeat (walk_at "rdF"; rw [dec_refl])
      walk_at "rdF"
      refine ⟨sz (by simp), fun p2 np2 => ?_⟩
      walk_at "rdF"
      refine rd_isiIS upd_same (.int _) (ka_intI kb_int_int) ?_
      walk_at "rdF"
      rw [dec_refl]
      exact h _ ((sT np).trans (sI np2))
    | str z =>
      cases hx
      cases hy
      walk_at "rdF"
      refine ⟨sz (by simp), fun p np => ?_⟩
      walk_at "rdF"
      refine rd_isiLT upd_same (.str _) (ka_no kb_str_list kb_str_tuple) ?_
      repeat (walk_at "rdF"; rw [dec_refl])
      walk_at "rdF"
      refine ⟨sz (by simp), fun p2 np2 => ?_⟩
      walk_at "rdF"
      refine rd_isiIS upd_same (.str _) ka_strI ?_
      walk_at "rdF"
      rw [dec_refl]
      exact h _ ((sT np).trans (sI np2))
    | list ds =>
      obtain ⟨a, xs, rfl, _, ha, rx⟩ := hx.lstI
      obtain ⟨b, ys, rfl, _, hb, ry⟩ := hy.lstI
      obtain ⟨l5, hd⟩ := hd
      walk_at "rdF"
      refine ⟨sz (by simp), fun p np => ?_⟩
      walk_at "rdF"
      have s1 := sT np
      refine rd_isiLT upd_same (.lst (s1 _ _ ha)) ka_list ?_
      walk_at "rdF"
      refine ⟨sz (by simp), fun p2 np2 => ?_⟩
      walk_at "rdF"
      have s2 := s1.trans (sT np2)
      refine rd_isiLT upd_same (.lst (s2 _ _ hb)) ka_list ?_
      have ha2 := s2 _ _ ha
      have hb2 := s2 _ _ hb
      generalize upd (upd H p _) p2 _ = H2 at *
      walk_at "rdF"
      refine rd_seqL ha2 ?_
      walk_at "rdF"
      refine rd_seqL hb2 ?_
      rw [rx.len, ry.len]
      walk_at "rdF"
      rw [dec_refl]
      walk_at "rdF"
      rw [dec_refl]
      walk_at "rdF"
      refine rd_seqL ha2 ?_
      rw [rx.len]
      walk_at "rdF"
      refine ⟨by omega, by omega, fun D nD => lc_rng (fun i H' => Same H H' ∧ H' D = some (.lst [])) ⟨s2.trans (same_new nD), upd_same⟩ ?_ ?_⟩
      · rintro i H3 hi ⟨s3, hD⟩
        obtain ⟨u, hu, ru⟩ := rx.at (List.getElem?_eq_getElem hi)
        obtain ⟨v, hv, rv⟩ := ry.at (List.getElem?_eq_getElem hi)
        refine ⟨by walk_at "wiped", ?_⟩
        walk_at "rdF"
        refine rd_ixQL (s3 _ _ ha) (atI_nat hu) ?_
        walk_at "rdF"
        refine rd_ixQL (s3 _ _ hb) (atI_nat hv) ?_
        walk_at "rdF"
        refine ⟨u, v, _, rfl, ru.same s3, rv.same s3, hd _ (List.getElem_mem hi), fun H4 s4 => ?_⟩
        walk_at "rdF"
        exact ⟨s3.trans s4, s4 _ _ hD⟩
      · rintro H3 ⟨s3, hD⟩
        walk_at "rdF"
        refine rd_seqL hD ?_
        walk_at "rdF"
        exact h H3 s3
    | tuple ds =>
      obtain ⟨a, xs, rfl, _, ha, rx⟩ := hx.tupI
      obtain ⟨b, ys, rfl, _, hb, ry⟩ := hy.tupI
      obtain ⟨l5, hd⟩ := hd
      walk_at "rdF"
      refine ⟨sz (by simp), fun p np => ?_⟩
      walk_at "rdF"
      have s1 := sT np
      refine rd_isiLT upd_same (.tup (s1 _ _ ha)) ka_tuple ?_
      walk_at "rdF"
      refine ⟨sz (by simp), fun p2 np2 => ?_⟩
      walk_at "rdF"
      have s2 := s1.trans (sT np2)
      refine rd_isiLT upd_same (.tup (s2 _ _ hb)) ka_tuple ?_
      have ha2 := s2 _ _ ha
      have hb2 := s2 _ _ hb
      generalize upd (upd H p _) p2 _ = H2 at *
      walk_at "rdF"
      refine rd_seqT ha2 ?_
      walk_at "rdF"
      refine rd_seqT hb2 ?_
      rw [rx.len, ry.len]
      walk_at "rdF"
      rw [dec_refl]
      walk_at "rdF"
      rw [dec_refl]
      walk_at "rdF"
      refine rd_seqT ha2 ?_
      rw [rx.len]
      walk_at "rdF"
      refine ⟨by omega, by omega, fun D nD => lc_rng (fun i H' => Same H H' ∧ H' D = some (.lst [])) ⟨s2.trans (same_new nD), upd_same⟩ ?_ ?_⟩
      · rintro i H3 hi ⟨s3, hD⟩
        obtain ⟨u, hu, ru⟩ := rx.at (List.getElem?_eq_getElem hi)
        obtain ⟨v, hv, rv⟩ := ry.at (List.getElem?_eq_getElem hi)
        refine ⟨by walk_at "wiped", ?_⟩
        walk_at "rdF"
        refine rd_ixQT (s3 _ _ ha) (atI_nat hu) ?_
        walk_at "rdF"
        refine rd_ixQT (s3 _ _ hb) (atI_nat hv) ?_
        walk_at "rdF"
        refine ⟨u, v, _, rfl, ru.same s3, rv.same s3, hd _ (List.getElem_mem hi), fun H4 s4 => ?_⟩
        walk_at "rdF"
        exact ⟨s3.trans s4, s4 _ _ hD⟩
      · rintro H3 ⟨s3, hD⟩
        walk_at "rdF"
        refine rd_seqL hD ?_
        walk_at "rdF"
        exact h H3 s3
    | dict _ => cases hx
theorem ok_alike0 {k : Nat} {f : Addr} {fd : FuncData} (F : Fun K "_law_alike" "_law_alike" s_law_alike f fd) (T : Blt mg) : FnOk P w K mg base CX0 (k + 1) f fd ["left", "right"] (spAlike 0) := by
  refine F.ok sc_law_alike (fun vs H Q E h => ?_) (fun cdv A outer s H vs Q E hr h => ?_)
  · obtain ⟨x, y, d, rfl, _⟩ := h; rfl
  · obtain ⟨x, y, d, rfl, hx, hy, hd, h⟩ := h
    refine ⟨_, (pss_cons (ps_if (PW.pt (pw_and (pt_val (pe_callB (call_isiTR (K := K) rfl) (by rfl) T.isinstance (by decide +kernel) (pa_cons (pv 0) (pa_cons (pe_tup (pa_cons (pe_bltn (v := .ty "list") rfl T.list' (by decide +kernel) rfl) (pa_cons (pe_bltn (v := .ty "tuple") rfl T.tuple (by decide +kernel) rfl) pa_nil))) pa_nil)))) (pw_and1 (pt_val (pe_callB (call_isiTR (K := K) rfl) (by rfl) T.isinstance (by decide +kernel) (pa_cons (pv 1) (pa_cons (pe_tup (pa_cons (pe_bltn (v := .ty "list") rfl T.list' (by decide +kernel) rfl) (pa_cons (pe_bltn (v := .ty "tuple") rfl T.tuple (by decide +kernel) rfl) pa_nil))) pa_nil))))))) (pss_cons (ps_if (PW.pt (pw_or (pt_cmpR op_ne (pe_callB call_len_seq (by rfl) T.len (by decide +kernel) (pa_cons (pv 0) pa_nil)) (pe_callB call_len_seq (by rfl) T.len (by decide +kernel) (pa_cons (pv 1) pa_nil)) (nomark _)) (pw_or1 (pt_cmpR op_ne (pe_callB (call_isiR (K := K) rfl) (by rfl) T.isinstance (by decide +kernel) (pa_cons (pv 0) (pa_cons (pe_bltn (v := .ty "list") rfl T.list' (by decide +kernel) rfl) pa_nil))) (pe_callB (call_isiR (K := K) rfl) (by rfl) T.isinstance (by decide +kernel) (pa_cons (pv 1) (pa_cons (pe_bltn (v := .ty "list") rfl T.list' (by decide +kernel) rfl) pa_nil))) (nomark _))))) (pss_one (ps_ret pe_bl)) pss_nil)
 (pss_one ps_never)) pss_nil)
 (pss_cons (ps_if (PW.pt (pw_or (pt_cmpR op_isN (pv 0) pe_non (nomark _)) (pw_or1 (pt_cmpR op_isN (pv 1) pe_non (nomark _))))) (pss_one (ps_ret (pe_and (pe_cmpR op_isN (pv 0) pe_non (nomark _)) (pe_one (pe_cmpR op_isN (pv 1) pe_non (nomark _)))))) pss_nil)
 (pss_cons (ps_if (PW.pt (pw_or (pt_cmpR op_ne (pe_callB (call_isiR (K := K) rfl) (by rfl) T.isinstance (by decide +kernel) (pa_cons (pv 0) (pa_cons (pe_bltn (v := .ty "bool") rfl T.bool (by decide +kernel) rfl) pa_nil))) (pe_callB (call_isiR (K := K) rfl) (by rfl) T.isinstance (by decide +kernel) (pa_cons (pv 1) (pa_cons (pe_bltn (v := .ty "bool") rfl T.bool (by decide +kernel) rfl) pa_nil))) (nomark _)) (pw_or1 (pt_cmpR op_ne (pe_callB (call_isiR (K := K) rfl) (by rfl) T.isinstance (by decide +kernel) (pa_cons (pv 0) (pa_cons (pe_bltn (v := .ty "int") rfl T.int (by decide +kernel) rfl) pa_nil))) (pe_callB (call_isiR (K := K) rfl) (by rfl) T.isinstance (by decide +kernel) (pa_cons (pv 1) (pa_cons (pe_bltn (v := .ty "int") rfl T.int (by decide +kernel) rfl) pa_nil))) (nomark _))))) (pss_one (ps_ret pe_bl)) pss_nil)
 (pss_one (ps_ret (pe_and (pe_cmpR op_eq (pe_callB (call_isiR (K := K) rfl) (by rfl) T.isinstance (by decide +kernel) (pa_cons (pv 0) (pa_cons (pe_bltn (v := .ty "str") rfl T.str (by decide +kernel) rfl) pa_nil))) (pe_callB (call_isiR (K := K) rfl) (by rfl) T.isinstance (by decide +kernel) (pa_cons (pv 1) (pa_cons (pe_bltn (v := .ty "str") rfl T.str (by decide +kernel) rfl) pa_nil))) (nomark _)) (pe_and (pe_callB (call_isiTR (K := K) rfl) (by rfl) T.isinstance (by decide +kernel) (pa_cons (pv 0) (pa_cons (pe_tup (pa_cons (pe_bltn (v := .ty "int") rfl T.int (by decide +kernel) rfl) (pa_cons (pe_bltn (v := .ty "str") rfl T.str (by decide +kernel) rfl) pa_nil))) pa_nil))) (pe_one (pe_cmpR op_eq (pv 0) (pv 1) (nomark _)))))))))), ?_⟩
    have sT : ∀ {H1 : Hp} {p : Addr}, H1 p = none → Same H1 (upd H1 p (.tup [V.ty "list", V.ty "tuple"])) := fun n => same_new n
    have sI : ∀ {H1 : Hp} {p : Addr}, H1 p = none → Same H1 (upd H1 p (.tup [V.ty "int", V.ty "str"])) := fun n => same_new n
    cases d with
    | none =>
      cases hx
      cases hy
      walk_at "rdF"
      refine ⟨sz (by simp), fun p np => ?_⟩
      walk_at "rdF"
      refine rd_isiLT upd_same .non (ka_no kb_non_list kb_non_tuple) ?_
      walk_at "rdF"
      exact h _ (sT np)
    | bool b =>
      cases hx
      cases hy
      walk_at "rdF"
      refine ⟨sz (by simp), fun p np => ?_⟩
      walk_at "rdF"
      refine rd_isiLT upd_same (.bl _) (ka_no kb_bool_list kb_bool_tuple) ?_
      walk_at "rdF"
      repeat (walk_at "rdF"; rw [dec_refl])
      walk_at "rdF"
      refine ⟨sz (by simp), fun p2 np2 => ?_⟩
      walk_at "rdF"
      refine rd_isiIS upd_same (.bl _) (ka_intI kb_bool_int) ?_
      walk_at "rdF"
      rw [dec_refl]
      exact h _ ((sT np).trans (sI np2))
    | int i =>
      cases hx
      cases hy
      walk_at "rdF"
      refine ⟨sz (by simp), fun p np => ?_⟩
      walk_at "rdF"
      refine rd_isiLT upd_same (.int _) (ka_no kb_int_list kb_int_tuple) ?_
      repeat (walk_at "rdF"; rw [dec_refl])
      walk_at "rdF"
      refine ⟨sz (by simp), fun p2 np2 => ?_⟩
      walk_at "rdF"
      refine rd_isiIS upd_same (.int _) (ka_intI kb_int_int) ?_
      walk_at "rdF"
      rw [dec_refl]
      exact h _ ((sT np).trans (sI np2))
    | str z =>
      cases hx
      cases hy
      walk_at "rdF"
      refine ⟨sz (by simp), fun p np => ?_⟩
      walk_at "rdF"
      refine rd_isiLT upd_same (.str _) (ka_no kb_str_list kb_str_tuple) ?_
      repeat (walk_at "rdF"; rw [dec_refl])
      walk_at "rdF"
      refine ⟨sz (by simp), fun p2 np2 => ?_⟩
      walk_at "rdF"
      refine rd_isiIS upd_same (.str _) ka_strI ?_
      walk_at "rdF"
      rw [dec_refl]
      exact h _ ((sT np).trans (sI np2))
    | list ds => exact hd.elim
    | tuple ds => exact hd.elim
    | dict _ => cases hx
end
set_option maxHeartbeats 1000000
abbrev s_law_kept_rows : Stmt := topS 61
theorem sc_law_kept_rows : FnScope ["plan", "edges", "edge"] ["plan"] (defScope s_law_kept_rows) := ⟨rfl, rfl, rfl, by decide +kernel, rfl, by decide +kernel, by decide +kernel⟩
section
variable {P : Program} {w : World} {K : PySem.W.Frag} {mg : Str → Option Value} {base : Heap} {C CS CE CB CU : Addr}
def keptOf (e : PyData) : PyData := match kids e with
  | [.str n, .str x, .str y, l, h] => .tuple [.str n, .str (minS x y), .str (maxS x y), l, h]
  | _ => .none
def spKeptRows : Sp := fun vs H Q _ => ∃ (v : V) (L : List (Str × V)) (B : List BR) (rest : List PyData), vs = [v] ∧ R H v (.list (.list (L.map lampD) :: .list (B.map BR.d) :: rest)) ∧ (lampNs L).Nodup ∧ (bondNs B).Nodup ∧ B.length ≤ 1000 ∧ (∀ r ∈ B, Sc r.l ∧ Sc r.h) ∧
  ∀ p H', Same H H' → H p = none → R H' (.ref p) (.list [.list ((sortL L).map lampD), .list ((sortB B).map BR.d)]) → Q (.ref p) H'
theorem ok_kept_rows {k : Nat} {f : Addr} {fd : FuncData} (F : Fun K "_law_kept_rows" "_law_kept_rows" s_law_kept_rows f fd) (T : Blt mg) : FnOk P w K mg base CX0 (k + 1) f fd ["plan"] spKeptRows := by
  refine F.ok sc_law_kept_rows (fun vs H Q E h => ?_) (fun cdv A outer s H vs Q E hr h => ?_)
  · obtain ⟨v, L, B, rest, rfl, _⟩ := h; rfl
  · obtain ⟨v, L, B, rest, rfl, hv, ndL, ndB, lB, scB, h⟩ := h
    refine ⟨_, (pss_cons (ps_setLc (i := 1) (own := [("edge", 2)]) (g := (gName 2)) (by rfl) sc_law_kept_rows.nd rfl rfl (sw_true rfl rfl rfl (by decide +kernel)) (pi_seq (pe_ix (ix_seqR (K := K) rfl) (pv 0) pe_int (fun _ _ => rfl))) (blkOk_by (own := [("edge", 2)]) (N := ["plan", "edges", "edge"]) (sc := defScope s_law_kept_rows) (by decide +kernel)) (fun _ _ _ _ _ => (pg_name (i := 2) sc_law_kept_rows.nd rfl (.inl rfl))) (fun _ _ _ _ _ => pts_nil) (fun _ _ _ _ _ => (pe_tup (pa_cons (pe_ix (ix_seqR (K := K) rfl) (pv 2) pe_int (fun _ _ => rfl)) (pa_cons (pe_callB (call_minS rfl) (by rfl) T.min (by decide +kernel) (pa_cons (pe_ix (ix_seqR (K := K) rfl) (pv 2) pe_int (fun _ _ => rfl)) (pa_cons (pe_ix (ix_seqR (K := K) rfl) (pv 2) pe_int (fun _ _ => rfl)) pa_nil))) (pa_cons (pe_callB (call_maxS rfl) (by rfl) T.max (by decide +kernel) (pa_cons (pe_ix (ix_seqR (K := K) rfl) (pv 2) pe_int (fun _ _ => rfl)) (pa_cons (pe_ix (ix_seqR (K := K) rfl) (pv 2) pe_int (fun _ _ => rfl)) pa_nil))) (pa_cons (pe_ix (ix_seqR (K := K) rfl) (pv 2) pe_int (fun _ _ => rfl)) (pa_cons (pe_ix (ix_seqR (K := K) rfl) (pv 2) pe_int (fun _ _ => rfl)) pa_nil))))))))
 (pss_one (ps_ret (pe_lst (pa_cons (pe_callB (cr_sortedR (K := K) rfl) (by rfl) T.sorted (by decide +kernel) (pa_cons (pe_ix (ix_seqR (K := K) rfl) (pv 0) pe_int (fun _ _ => rfl)) pa_nil)) (pa_cons (pe_callB (cr_sortedR (K := K) rfl) (by rfl) T.sorted (by decide +kernel) (pa_cons (pv 1) pa_nil)) pa_nil)))))), ?_⟩
    walk_at "rdF"
    refine rep_ix hv rfl (by decide) rfl fun u hu => ?_
    refine lc_seq (U := fun _ => True) (fun ds => ds.map keptOf) (fun _ => True) (.inl hu) rfl (fun _ _ => trivial) rfl (fun _ _ => trivial) ?_ ?_
    · rintro D i x e H' uD nD he hx hI
      have he' : (B.map BR.d)[i]? = some e := he
      rw [List.getElem?_map] at he'
      cases qi : B[i]? with
      | none => rw [qi] at he'; cases he'
      | some r =>
        rw [qi] at he'
        cases he'
        obtain ⟨sl, sh⟩ := scB r (List.mem_of_getElem? qi)
        refine ⟨rfl, ?_⟩
        walk_at "rdF"
        refine rep_ix hx rfl (by decide) rfl fun u1 h1 => ?_
        cases h1.strI
        walk_at "rdF"
        refine rep_ix hx rfl (by decide) rfl fun u1 h1 => ?_
        cases h1.strI
        walk_at "rdF"
        refine rep_ix hx rfl (by decide) rfl fun u1 h1 => ?_
        cases h1.strI
        refine ⟨_, _, rfl, ?_⟩
        walk_at "rdF"
        refine rep_ix hx rfl (by decide) rfl fun u1 h1 => ?_
        cases h1.strI
        walk_at "rdF"
        refine rep_ix hx rfl (by decide) rfl fun u1 h1 => ?_
        cases h1.strI
        refine ⟨_, _, rfl, ?_⟩
        walk_at "rdF"
        refine rep_ix hx rfl (by decide) rfl fun u1 h1 => ?_
        cases h1.scI sl
        walk_at "rdF"
        refine rep_ix hx rfl (by decide) rfl fun u1 h1 => ?_
        cases h1.scI sh
        walk_at "rdF"
        refine ⟨sz (by simp), fun p np => ?_⟩
        refine hI.put (e := (keptBR r).d) (.new np) trivial nD (fun _ => trivial) (rep_row (r := keptBR r) ⟨trivial, hI.ne np⟩ upd_same sl sh) ?_ ?_
        · rw [List.length_map, List.length_take]
          show min i (B.map BR.d).length < _
          rw [List.length_map]; omega
        · rw [take_succ he, List.map_append]; rfl
    · rintro p acc H2 e2 _ np hp hacc _
      have ea : (kids (.list (B.map BR.d))).map keptOf = (B.map keptBR).map BR.d := by
        show (B.map BR.d).map _ = _
        rw [List.map_map, List.map_map]; rfl
      rw [ea] at hacc
      have s2 := e2.toSame
      have hacc2 : RL H2 acc ((B.map keptBR).map BR.d) := hacc.less fun _ _ => trivial
      walk_at "rdF"
      refine rep_ix (hv.same s2) rfl (by decide) rfl fun u1 h1 => ?_
      obtain ⟨lp, ls, rfl, _, hlp, hls⟩ := h1.lstI
      walk_at "rdF"
      refine sorted_rows (l := L) (n := fun r => r.1) (r := fun r => [vD r.2]) (.inl hlp) hls ndL fun p3 ys hperm hys n3 => ?_
      have s3 := same_new (o := .lst ys) n3
      have hp3 := @upd_same H2 p3 (.lst ys)
      have hys3 : RL _ ys ((sortL L).map lampD) := hys.same s3
      have hacc3 := hacc2.same s3
      have hpa := s3 _ _ hp
      generalize upd H2 p3 (.lst ys) = H3 at *
      walk_at "rdF"
      refine sorted_rows (l := B.map keptBR) (n := BR.n) (r := fun r => [.str r.x, .str r.y, vD r.l, vD r.h]) (.inl hpa) hacc3 (by rw [List.map_map]; exact ndB) fun p4 zs hperm4 hzs n4 => ?_
      have s4 := same_new (o := .lst zs) n4
      have hp4 := @upd_same H3 p4 (.lst zs)
      have hzs4 : RL _ zs ((sortB B).map BR.d) := hzs.same s4
      generalize upd H3 p4 (.lst zs) = H4 at *
      walk_at "rdF"
      refine ⟨sz (by simp), fun p5 n5 => ?_⟩
      have s5 := same_new (o := .lst [V.ref p3, V.ref p4]) n5
      have s24 := (s2.trans s3).trans s4
      refine h p5 _ (s24.trans s5) (none_back s24 n5) ?_
      exact .lst trivial upd_same (.cons (.lst trivial (s5 _ _ (s4 _ _ hp3)) (hys3.same (s4.trans s5))) (.cons (.lst trivial (s5 _ _ hp4) (hzs4.same s5)) .nil))
end
set_option maxHeartbeats 1000000
section
variable {P : Program} {w : World} {K : PySem.W.Frag} {mg : Str → Option Value} {base : Heap} {C CS CE CB CU : Addr}
theorem okd_lamp {r : Str × V} {n : Nat} : Okd (n + 1) (lampD r) := ⟨by simp [lampD], fun e he => by
  simp at he
  rcases he with rfl | rfl
  · cases n <;> trivial
  · cases r.2 <;> cases n <;> trivial⟩
theorem okd_bond {r : BR} {n : Nat} : Okd (n + 1) r.d := ⟨by simp, fun e he => by
  simp at he
  rcases he with rfl | rfl | rfl | rfl | rfl
  · cases n <;> trivial
  · cases n <;> trivial
  · cases n <;> trivial
  · cases r.l <;> cases n <;> trivial
  · cases r.h <;> cases n <;> trivial⟩
theorem okd_map {α : Type} {f : α → PyData} {l : List α} {n : Nat} (h : l.length ≤ 100000) (hf : ∀ x ∈ l, Okd n (f x)) : Okd (n + 1) (.list (l.map f)) := ⟨by rw [List.length_map]; exact h, fun e he => by
  obtain ⟨x, hx, rfl⟩ := List.mem_map.mp he
  exact hf x hx⟩
theorem okd_str {n : Nat} {z : Str} : Okd n (.str z) := by cases n <;> trivial
theorem okd_sc {n : Nat} {v : V} : Okd n (vD v) := by cases v <;> cases n <;> trivial
/-- a web that keeps these rows -/
structure Keeps (C CS : Addr) (H : Hp) (a : Addr) (L0 : List (Str × V)) (B0 : List BR) : Prop where
  ex : ∃ U, WebV U C CS H a (sortL L0) (sortB B0)
theorem Keeps.same {H H' : Hp} {a : Addr} {L0 : List (Str × V)} {B0 : List BR} (h : Keeps C CS H a L0 B0) (s : Same H H') : Keeps C CS H' a L0 B0 := by
  obtain ⟨U, h⟩ := h.ex
  exact ⟨U, h.same s⟩
def planD (L : List (Str × V)) (B : List BR) (rest : List PyData) : PyData := .list (.list (L.map lampD) :: .list (B.map BR.d) :: rest)
abbrev gApp : List V → List V → List V := fun vs zs => vs ++ zs
end
set_option maxHeartbeats 2000000
set_option maxHeartbeats 2000000
section
variable {P : Program} {w : World} {K : PySem.W.Frag} {mg : Str → Option Value} {base : Heap} {C CS CE CB CU : Addr}
abbrev RS (S : Sto) (H : Hp) (v : V) (d : PyData) : Prop := Rep (US S) H v d
end
set_option maxHeartbeats 1000000
theorem cut_from {xs : List V} {k : Nat} : cutV xs (some (k : Int)) none = xs.drop k := by
  unfold cutV
  rw [HT.sIx_none, HT.sIx_nat]
  by_cases h : k ≤ xs.length
  · rw [Nat.min_eq_left h, List.take_of_length_le (by rw [List.length_drop]; omega)]
  · rw [Nat.min_eq_right (by omega), List.drop_of_length_le (by omega), List.drop_of_length_le (by omega)]; simp
theorem Right.add {L : List (Str × V)} {B : List BR} {q : BR} (r : Right L B) (hn : isNm q.n = true) (hf : q.n ∉ bondNs B) (ol : isOpen q.l = true) (oh : isOpen q.h = true) (cr : crossed q.l q.h = false) (hx : q.x ∈ lampNs L) (hy : q.y ∈ lampNs L) (ne : q.x ≠ q.y) (hl : B.length < 16) : Right L (B ++ [q]) := by
  have eb : bondNs (B ++ [q]) = bondNs B ++ [q.n] := by unfold bondNs; rw [List.map_append]; rfl
  have en : endsOf (B ++ [q]) = endsOf B ++ [q.x, q.y] := by unfold endsOf; rw [List.flatMap_append]; simp
  have eN : numsOf L (B ++ [q]) = numsOf L B ++ [q.l, q.h] := by unfold numsOf; rw [List.flatMap_append, ← List.append_assoc]; simp
  refine ⟨⟨⟨⟨⟨⟨⟨⟨⟨fun z hz => ?_⟩, fun u hu => ?_⟩, fun p hp => ?_⟩, r.dl⟩, ?_⟩, fun p hp => ?_⟩, fun y hy' => ?_⟩, r.l1, r.l10⟩, by rw [List.length_append]; simp; omega⟩
  · rw [eb, ← List.append_assoc] at hz
    rcases List.mem_append.mp hz with h | h
    · exact r.nm z h
    · rw [List.mem_singleton.mp h]; exact hn
  · rw [eN] at hu
    rcases List.mem_append.mp hu with h | h
    · exact r.num u h
    · simp at h
      rcases h with rfl | rfl
      · exact ol
      · exact oh
  · rcases List.mem_append.mp hp with h | h
    · exact r.sp p h
    · rw [List.mem_singleton.mp h]; exact cr
  · rw [eb]
    exact List.nodup_append.mpr ⟨r.db, by simp, fun a ha b hb e => hf (by rw [← List.mem_singleton.mp hb, ← e]; exact ha)⟩
  · rcases List.mem_append.mp hp with h | h
    · exact r.sf p h
    · rw [List.mem_singleton.mp h]; exact ne
  · rw [en] at hy'
    rcases List.mem_append.mp hy' with h | h
    · exact r.unk y h
    · simp at h
      rcases h with rfl | rfl
      · exact hx
      · exact hy
theorem kept_set {z : Str} {l h : V} (r : BR) : keptBR (if r.n = z then ⟨r.n, r.x, r.y, l, h⟩ else r) = (if (keptBR r).n = z then ⟨(keptBR r).n, (keptBR r).x, (keptBR r).y, l, h⟩ else keptBR r) := by
  by_cases c : r.n = z <;> simp [keptBR, c]
theorem sortB_setSpan {B : List BR} {z : Str} {l h : V} (nd : (bondNs B).Nodup) : sortB (setSpan B z l h) = setSpan (sortB B) z l h := by
  have e : (setSpan B z l h).map keptBR = (B.map keptBR).map fun r => if r.n = z then ⟨r.n, r.x, r.y, l, h⟩ else r := by
    unfold setSpan
    rw [List.map_map, List.map_map]
    exact List.map_congr_left fun r _ => kept_set r
  have nm : (fun r : BR => (if r.n = z then (⟨r.n, r.x, r.y, l, h⟩ : BR) else r).n) = BR.n := by
    funext r
    by_cases c : r.n = z <;> simp [c]
  show srtBy BR.n ((setSpan B z l h).map keptBR) = _
  rw [e, srt_map (f := BR.n) (g := fun r : BR => if r.n = z then ⟨r.n, r.x, r.y, l, h⟩ else r) (by rw [nm, List.map_map]; exact nd), nm]; rfl
theorem sortB_new {B : List BR} {q q' : BR} (e : keptBR q = keptBR q') (nd : (bondNs (B ++ [q'])).Nodup) : sortB (sortB B ++ [q]) = sortB (B ++ [q']) := by
  have pm : ((sortB B ++ [q]).map keptBR).Perm ((B ++ [q']).map keptBR) := by
    rw [List.map_append, List.map_append]
    have e1 : (sortB B).map keptBR = sortB B := by
      conv => rhs; rw [← List.map_id (sortB B)]
      exact List.map_congr_left fun r hr => by
        obtain ⟨p, _, rfl⟩ := List.mem_map.mp (srt_mem.mp hr)
        exact kept_kept p
    rw [e1]
    refine (srt_perm _).append ?_
    show [keptBR q].Perm [keptBR q']
    rw [e]
  exact srt_of_perm pm (by rw [List.map_map]; exact nd)
section
variable {K : PySem.W.Frag} {U : Addr → Prop} {H : Hp} {u v : V} {ds es : List PyData} {Q : VK}
theorem new_lst {p : Addr} {vs : List V} (np : H p = none) (up : U p) (r : RepL U H vs ds) : Same H (upd H p (.lst vs)) ∧ Rep U (upd H p (.lst vs)) (.ref p) (.list ds) :=
  ⟨same_new np, .lst up upd_same (r.same (same_new np))⟩
theorem new_tup {p : Addr} {vs : List V} (np : H p = none) (up : U p) (r : RepL U H vs ds) : Same H (upd H p (.tup vs)) ∧ Rep U (upd H p (.tup vs)) (.ref p) (.tuple ds) :=
  ⟨same_new np, .tup up upd_same (r.same (same_new np))⟩
theorem Rep.ixL {i : Nat} {d : PyData} (h : Rep U H v (.list ds)) (e : ds[i]? = some d) (q : ∀ x, Rep U H x d → Q x H) : rIx K v (.int i) H Q :=
  rep_ix h rfl (Int.natCast_nonneg i) (by rw [Int.toNat_natCast]; exact e) q
theorem rd_take {k : Nat} (h : Rep U H v (.list ds)) (hU : ∀ p, H p = none → U p) (q : ∀ p H', Same H H' → H p = none → Rep U H' (.ref p) (.list (ds.take k)) → Q (.ref p) H') : rSlL K v none (some (k : Int)) H Q := by
  obtain ⟨a, xs, rfl, ua, ha, r⟩ := h.lstI
  refine ⟨a, xs, rfl, sl_of ha, fun p np => ?_⟩
  rw [cut_to]
  obtain ⟨s, k'⟩ := new_lst (U := U) np (hU p np) (r.take k)
  exact q p _ s np k'
theorem rd_dropL {k : Nat} (h : Rep U H v (.list ds)) (hU : ∀ p, H p = none → U p) (q : ∀ p H', Same H H' → H p = none → Rep U H' (.ref p) (.list (ds.drop k)) → Q (.ref p) H') : rSlL K v (some (k : Int)) none H Q := by
  obtain ⟨a, xs, rfl, ua, ha, r⟩ := h.lstI
  refine ⟨a, xs, rfl, sl_of ha, fun p np => ?_⟩
  rw [cut_from]
  obtain ⟨s, k'⟩ := new_lst (U := U) np (hU p np) (r.drop k)
  exact q p _ s np k'
theorem rd_cat (h1 : Rep U H u (.list ds)) (h2 : Rep U H v (.list es)) (hl : ds.length + es.length ≤ 100000) (hU : ∀ p, H p = none → U p) (q : ∀ p H', Same H H' → H p = none → Rep U H' (.ref p) (.list (ds ++ es)) → Q (.ref p) H') : rCat u v H Q := by
  obtain ⟨a, xs, rfl, ua, ha, ra⟩ := h1.lstI
  obtain ⟨b, ys, rfl, ub, hb, rb⟩ := h2.lstI
  refine ⟨a, b, xs, ys, rfl, rfl, ha, hb, Nat.le_trans (by rw [ra.len, rb.len]; exact hl) (by decide), fun p np => ?_⟩
  obtain ⟨s, k'⟩ := new_lst (U := U) np (hU p np) (ra.app rb)
  exact q p _ s np k'
end
set_option maxHeartbeats 2000000
section
variable {L : List (Str × V)} {B : List BR}
theorem Right.niL (r : Right L B) : ∀ q ∈ L, NI q.2 := fun q hq => isOpen_NI (r.num _ (List.mem_append.mpr (.inl (List.mem_map_of_mem hq))))
theorem Right.niB (r : Right L B) : ∀ q ∈ B, NI q.l ∧ NI q.h := fun q hq =>
  ⟨isOpen_NI (r.num _ (List.mem_append.mpr (.inr (List.mem_flatMap.mpr ⟨q, hq, by simp⟩)))), isOpen_NI (r.num _ (List.mem_append.mpr (.inr (List.mem_flatMap.mpr ⟨q, hq, by simp⟩))))⟩
end
section
variable {K : PySem.W.Frag} {C CS : Addr}
theorem rd_webA {c : ECs} {U U' : Addr → Prop} {lv bv : V} {dl db : PyData} {L : List (Str × V)} {B : List BR} {H : Hp} {Q : Addr → Hp → Prop} {E : XK} (hl : RepQ K U H lv dl) (hb : RepQ K U' H bv db) (rl : RowsD LampRow dl L) (rb : RowsD BondRow db B) (lL : L.length ≤ 1000) (lB : B.length ≤ 1000)
    (h1 : Right L B → ∀ p H', Same H H' → H p = none → WebV (fun q => H q = none) C CS H' p (sortL L) (sortB B) → Q p H') (h2 : ∀ e, Wrong L B e → Raises c E H e) :
    ∀ x dx, H x = none → H dx = none → dx ≠ x → spWebI K C CS c (.ref x :: ([lv, bv] ++ [])) (upd (upd H dx (.own x)) x (.ins C dx [])) (fun v H2 => v = .non ∧ Q x H2) E := by
  intro x dx nx nd ne
  have s : Same H (upd (upd H dx (.own x)) x (.ins C dx [])) := same_mut (same_new nd) nx
  refine ⟨fun _ => True, x, dx, lv, bv, dl, db, L, B, rfl, upd_same, hl.any.same s, hb.any.same s, rl, rb, lL, lB, fun R H' ex hw => ⟨rfl, h1 R x H' (fun p o e => ex.keep p o (ne_of_none e nx) (s p o e)) nx ⟨hw.to fun p o u e => ⟨?_, e⟩, R.webOk⟩⟩, fun e he => (h2 e he).same s⟩
  rcases u with rfl | u
  · exact nx
  · exact none_back s u
end
def lampLd (r : Str × V) : PyData := .list [.str r.1, vD r.2]
def asList (e : PyData) : PyData := .list (kids e)
def swapBR (r : BR) : BR := ⟨r.n, r.y, r.x, r.l, r.h⟩
theorem Right.swap {L : List (Str × V)} {B : List BR} (h : Right L B) : Right L (B.map swapBR) := by
  have mb : bondNs (B.map swapBR) = bondNs B := by unfold bondNs; rw [List.map_map]; rfl
  have mn : numsOf L (B.map swapBR) = numsOf L B := by unfold numsOf; rw [List.flatMap_map]; rfl
  have me : ∀ z, z ∈ endsOf (B.map swapBR) → z ∈ endsOf B := fun z hz => by
    obtain ⟨q, hq, hz⟩ := List.mem_flatMap.mp hz
    obtain ⟨r, hr, rfl⟩ := List.mem_map.mp hq
    refine List.mem_flatMap.mpr ⟨r, hr, ?_⟩
    simp [swapBR] at hz ⊢
    exact hz.symm
  refine ⟨⟨⟨⟨⟨⟨⟨⟨⟨fun z hz => h.nm z (by rw [mb] at hz; exact hz)⟩, fun v hv => h.num v (by rw [mn] at hv; exact hv)⟩, fun q hq => ?_⟩, h.dl⟩, by rw [mb]; exact h.db⟩, fun q hq => ?_⟩, fun z hz => h.unk z (me z hz)⟩, h.l1, h.l10⟩, by rw [List.length_map]; exact h.l16⟩
  · obtain ⟨r, hr, rfl⟩ := List.mem_map.mp hq
    exact h.sp r hr
  · obtain ⟨r, hr, rfl⟩ := List.mem_map.mp hq
    exact fun e => h.sf r hr e.symm
theorem rowsLd {L : List (Str × V)} (h : ∀ r ∈ L, r.1.length ≤ 1000 ∧ Sc r.2) : RowsD LampRow (.tuple (L.map lampLd)) L := by
  refine ⟨rfl, by show (L.map lampLd).length = _; rw [List.length_map], fun i e he => ?_⟩
  have he : (L.map lampLd)[i]? = some e := he
  rw [List.getElem?_map] at he
  cases q : L[i]? with
  | none => rw [q] at he; cases he
  | some r =>
    rw [q] at he
    cases he
    obtain ⟨h1, h2⟩ := h r (List.mem_of_getElem? q)
    exact ⟨r, rfl, rfl, rfl, h1, h2⟩
abbrev s_law_bad_name : Stmt := topS 56
theorem sc_law_bad_name : FnScope ["store", "menu", "kind", "name", "at"] ["store"] (defScope s_law_bad_name) := ⟨rfl, rfl, rfl, by decide +kernel, rfl, by decide +kernel, by decide +kernel⟩
abbrev s_law_is_name : Stmt := topS 58
theorem sc_law_is_name : FnScope ["text", "sign"] ["text"] (defScope s_law_is_name) := ⟨rfl, rfl, rfl, by decide +kernel, rfl, by decide +kernel, by decide +kernel⟩
abbrev s_law_bad_number : Stmt := topS 49
theorem sc_law_bad_number : FnScope ["store", "keyed", "far", "kind"] ["store", "keyed"] (defScope s_law_bad_number) := ⟨rfl, rfl, rfl, by decide +kernel, rfl, by decide +kernel, by decide +kernel⟩
abbrev s_law_is_number : Stmt := topS 59
theorem sc_law_is_number : FnScope ["value"] ["value"] (defScope s_law_is_number) := ⟨rfl, rfl, rfl, by decide +kernel, rfl, by decide +kernel, by decide +kernel⟩
section
variable {P : Program} {w : World} {K : PySem.W.Frag} {mg : Str → Option Value} {base : Heap}
def menuL : List Str := ["", "1", "A", "aB", "a b", "a_", " a", "a ", "a-b", "abcdefghi", "9lives", "*", "a\n", "Z9"]
theorem menuL_le : ∀ z ∈ menuL, OkS 20 z := by decide +kernel
theorem digs_ok : OkS 10 "0123456789" := by decide +kernel
theorem odd_ok : OkS 8 "A_ -.Z*," := by decide +kernel
theorem cat3_len {z : Str} {c : Nat} {a b : Option Int} {n : Nat} (h : z.length ≤ n) : (cutS z none a ++ ⟨#[c]⟩ ++ cutS z b none).length ≤ 2 * n + 1 := by
  have h1 := cutS_len z none a
  have h2 := cutS_len z b none
  rw [app_len, app_len, one_len]
  omega
def spBad : Sp := fun vs H Q _ => ∃ S : Sto, vs = [.ref S.1] ∧ StoreOk S H ∧ ∀ z H', OkS 20 z → StoreOk S H' → ExS S H H' → Q (.str z) H'
theorem ok_bad_name {k : Nat} {f : Addr} {fd : FuncData} (F : Fun K "_law_bad_name" "_law_bad_name" s_law_bad_name f fd) (T : Blt mg) (H_law_take : Has P w K mg base "_law_take" k ["store", "many"] spTake) (H_law_pick : Has P w K mg base "_law_pick" k ["store", "items"] spPick) (H_law_name : Has P w K mg base "_law_name" k ["store"] spName) : FnOk P w K mg base CX0 (k + 1) f fd ["store"] spBad := by
  refine F.ok sc_law_bad_name (fun vs H Q E h => ?_) (fun cdv A outer s H vs Q E hr h => ?_)
  · obtain ⟨S, rfl, _⟩ := h; rfl
  · obtain ⟨S, rfl, hS, h⟩ := h
    refine ⟨_, (pss_cons (ps_set (i := 1) sc_law_bad_name.nd rfl (.inl rfl) (pe_lst (pa_cons pe_str (pa_cons pe_str (pa_cons pe_str (pa_cons pe_str (pa_cons pe_str (pa_cons pe_str (pa_cons pe_str (pa_cons pe_str (pa_cons pe_str (pa_cons pe_str (pa_cons pe_str (pa_cons pe_str (pa_cons pe_str (pa_cons pe_str pa_nil))))))))))))))))
 (pss_cons (ps_set (i := 2) sc_law_bad_name.nd rfl (.inl rfl) (pe_callH H_law_take hr (by rfl) (pa_cons (pv 0) (pa_cons pe_int pa_nil))))
 (pss_cons (ps_if (pt_cmpR op_eq (pv 2) pe_int (nomark _)) (pss_one (ps_ret (pe_callH H_law_pick hr (by rfl) (pa_cons (pv 0) (pa_cons (pv 1) pa_nil))))) pss_nil)
 (pss_cons (ps_set (i := 3) sc_law_bad_name.nd rfl (.inl rfl) (pe_callH H_law_name hr (by rfl) (pa_cons (pv 0) pa_nil)))
 (pss_cons (ps_if (pt_cmpR op_eq (pv 2) pe_int (nomark _)) (pss_one (ps_ret (pe_op op_add_str (pv 3) (pe_slice sl_str pe_str po_none (po_some (pe_op op_sub pe_int (pe_callB call_len_str (by rfl) T.len (by decide +kernel) (pa_cons (pv 3) pa_nil)))))))) pss_nil)
 (pss_cons (ps_set (i := 4) sc_law_bad_name.nd rfl (.inl rfl) (pe_callH H_law_take hr (by rfl) (pa_cons (pv 0) (pa_cons (pe_op op_add (pe_callB call_len_str (by rfl) T.len (by decide +kernel) (pa_cons (pv 3) pa_nil)) pe_int) pa_nil))))
 (pss_one (ps_ret (pe_op op_add_str (pe_op op_add_str (pe_slice sl_str (pv 3) po_none (po_some (pv 4))) (pe_callH H_law_pick hr (by rfl) (pa_cons (pv 0) (pa_cons pe_str pa_nil)))) (pe_slice sl_str (pv 3) (po_some (pv 4)) po_none)))))))))), ?_⟩
    walk_at "rdB"
    refine ⟨sz (by simp), fun p np => ?_⟩
    walk_at "rdB"
    refine ⟨S, 4, rfl, by omega, hS.new np, fun r H1 r0 r1 hS1 e1 => ?_⟩
    have e1' := (ExS.new (S := S) np).trans e1
    walk_at "rdB"
    refine if_dec (fun hk => ?_) (fun hk => ?_)
    · walk_at "rdB"
      refine ⟨S, _, rfl, hS1, .inl ⟨p, menuL.map V.str, rfl, ⟨hS.ne1 np, e1 _ _ (hS.ne1 np) upd_same⟩, by decide, by decide, fun v H2 hv hS2 e2 => ?_⟩⟩
      obtain ⟨z, hz, rfl⟩ := List.mem_map.mp hv
      exact h z H2 (menuL_le z hz) hS2 (e1'.trans e2)
    · walk_at "rdB"
      refine ⟨S, rfl, hS1, fun z H2 hz hS2 e2 => ?_⟩
      obtain ⟨z1, z8⟩ := isNm_len hz
      have e2' := e1'.trans e2
      walk_at "rdB"
      refine if_dec (fun hk1 => ?_) (fun hk1 => ?_)
      · walk_at "rdB"
        refine ⟨sz (by omega), ?_⟩
        walk_at "rdB"
        refine rd_slS (by decide) ?_
        walk_at "rdB"
        have hc := cutS_len "0123456789" none (some (9 - (z.length : Int)))
        have h10 : ("0123456789" : Str).length = 10 := by decide +kernel
        exact ⟨sz (by omega), h _ _ ((OkS.nm hz).app digs_ok.cut (by omega)) hS2 e2'⟩
      · walk_at "rdB"
        refine ⟨sz (by omega), ?_⟩
        walk_at "rdB"
        refine ⟨S, _, rfl, by omega, hS2, fun r3 H3 r30 r31 hS3 e3 => ?_⟩
        walk_at "rdB"
        refine rd_slS (by omega) ?_
        walk_at "rdB"
        refine ⟨S, _, rfl, hS3, .inr ⟨_, rfl, by decide +kernel, by decide +kernel, fun c H4 hc hS4 e4 => ?_⟩⟩
        walk_at "rdB"
        have hl := cat3_len (c := c) (a := some r3) (b := some r3) z8
        rw [app_len] at hl
        have hl0 := app_len (cutS z none (some r3)) ⟨#[c]⟩
        have hl1 := one_len c
        refine ⟨sz (by omega), ?_⟩
        walk_at "rdB"
        refine rd_slS (by omega) ?_
        walk_at "rdB"
        exact ⟨sz (by omega), h _ _ ((((OkS.nm hz).cut).app (odd_ok.sign hc) (by omega : 8 + 1 ≤ 9)).app ((OkS.nm hz).cut) (by omega)) hS4 (e2'.trans (e3.trans e4))⟩
theorem ok_is_name {k : Nat} {f : Addr} {fd : FuncData} (F : Fun K "_law_is_name" "_law_is_name" s_law_is_name f fd) (T : Blt mg) : FnOk P w K mg base CX0 (k + 1) f fd ["text"] spIsName := by
  refine F.ok sc_law_is_name (fun vs H Q E h => ?_) (fun cdv A outer s H vs Q E hr h => ?_)
  · obtain ⟨z, rfl, _⟩ := h; rfl
  · obtain ⟨z, rfl, hz, h⟩ := h
    have h := h H (Same.refl H)
    refine ⟨_, (pss_cons (ps_if (PW.pt (pw_or (pt_cmpR op_lt (pe_callB call_len_str (by rfl) T.len (by decide +kernel) (pa_cons (pv 0) pa_nil)) pe_int (nomark _)) (pw_or (pt_cmpR op_gt (pe_callB call_len_str (by rfl) T.len (by decide +kernel) (pa_cons (pv 0) pa_nil)) pe_int (nomark _)) (pw_or1 (pt_cmpR op_notIn_sign (pe_ix ix_str (pv 0) pe_int (fun _ _ => rfl)) pe_str (by rfl)))))) (pss_one (ps_ret pe_bl)) pss_nil)
 (pss_cons (ps_for PassesOwn.never rfl (pi_str (pv 0)) (pg_name (i := 1) sc_law_is_name.nd rfl (.inl rfl)) (pss_one (ps_if (pt_cmpR op_notIn_sign (pv 1) pe_str (by rfl)) (pss_one (ps_ret pe_bl)) pss_nil)))
 (pss_one (ps_ret pe_bl)))), ?_⟩
    walk_at "rdB"
    refine ⟨sz (by omega), ?_⟩
    walk_at "rdB"
    refine if_dec (fun h1 => ?_) (fun h1 => ?_)
    · walk_at "rdB"
      rw [isNm_zero (by omega)] at h
      exact h
    · walk_at "rdB"
      refine ⟨sz (by omega), ?_⟩
      obtain ⟨c, l, e⟩ : ∃ c l, z.cps.toList = c :: l := by
        cases e : z.cps.toList with
        | nil => have := len_l z; rw [e] at this; simp at this; omega
        | cons c l => exact ⟨c, l, rfl⟩
      have en := isNm_of e
      rw [en] at h
      walk_at "rdB"
      refine if_dec (fun h8 => ?_) (fun h8 => ?_)
      · walk_at "rdB"
        rw [decide_eq_false (by omega)] at h
        exact h
      · walk_at "rdB"
        refine rd_ixS (c := c) (by omega) (by rw [e]; exact atI_zero) ?_
        walk_at "rdB"
        refine rd_inS ?_
        walk_at "rdB"
        rw [decide_eq_true (by omega : z.length ≤ 8), Bool.true_and] at h
        refine if_ndec (fun hc => ?_) (fun hc => ?_)
        · walk_at "rdB"
          rw [show decide (c ∈ lets.cps.toList) = false from decide_eq_false hc] at h
          exact h
        · walk_at "rdB"
          rw [show decide (c ∈ lets.cps.toList) = true from decide_eq_true hc, Bool.true_and] at h
          refine for_sgn (fun i σ H' => ∃ y, σ = [some (.str z), y] ∧ H' = H ∧ ∀ d ∈ z.cps.toList.take i, d ∈ letsD.cps.toList) ⟨_, rfl, rfl, by simp⟩ ?_ ?_
          · rintro i d σ H1 hd ⟨y, rfl, rfl, ha⟩
            walk_at "rdB"
            refine rd_inS ?_
            walk_at "rdB"
            refine if_ndec (fun hn => ?_) (fun hn => ?_)
            · walk_at "rdB"
              rw [show (z.cps.toList.all fun d => decide (d ∈ letsD.cps.toList)) = false from ?_] at h
              · exact h
              · rw [List.all_eq_false]
                exact ⟨d, List.mem_of_getElem? hd, by rw [show decide (d ∈ letsD.cps.toList) = false from decide_eq_false hn]; simp⟩
            · walk_at "rdB"
              refine ⟨_, rfl, rfl, fun x hx => ?_⟩
              rw [List.take_add_one, hd] at hx
              rcases List.mem_append.mp hx with q | q
              · exact ha x q
              · have : x = d := by simpa using q
                rw [this]; exact hn
          · rintro σ H1 ⟨y, rfl, rfl, ha⟩
            walk_at "rdB"
            rw [← len_l, List.take_length] at ha
            rw [show (z.cps.toList.all fun d => decide (d ∈ letsD.cps.toList)) = true from List.all_eq_true.mpr fun d hd => decide_eq_true (ha d hd)] at h
            exact h
def spBadNum : Sp := fun vs H Q _ => ∃ S : Sto, ∃ kd, vs = [.ref S.1, .bl kd] ∧ StoreOk S H ∧ ∀ v H', Bad v → (kd = true → ∃ n, v = .int n) → StoreOk S H' → ExS S H H' → Q v H'
theorem ok_bad_number {k : Nat} {f : Addr} {fd : FuncData} (F : Fun K "_law_bad_number" "_law_bad_number" s_law_bad_number f fd) (T : Blt mg) (H_law_take : Has P w K mg base "_law_take" k ["store", "many"] spTake) (H_law_pick : Has P w K mg base "_law_pick" k ["store", "items"] spPick) : FnOk P w K mg base CX0 (k + 1) f fd ["store", "keyed"] spBadNum := by
  refine F.ok sc_law_bad_number (fun vs H Q E h => ?_) (fun cdv A outer s H vs Q E hr h => ?_)
  · obtain ⟨S, kd, rfl, _⟩ := h; rfl
  · obtain ⟨S, kd, rfl, hS, h⟩ := h
    refine ⟨_, (pss_cons (ps_set (i := 2) sc_law_bad_number.nd rfl (.inl rfl) (pe_lst (pa_cons (pe_op op_add (pe_op op_pow pe_int pe_int) pe_int) (pa_cons (pe_op op_sub (pe_un un_neg (pe_op op_pow pe_int pe_int)) pe_int) (pa_cons (pe_op op_pow pe_int pe_int) (pa_cons (pe_un un_neg (pe_op op_pow pe_int pe_int)) (pa_cons (pe_op op_add (pe_op op_add (pe_op op_pow pe_int pe_int) pe_int) (pe_callH H_law_take hr (by rfl) (pa_cons (pv 0) (pa_cons (pe_op op_pow pe_int pe_int) pa_nil)))) pa_nil)))))))
 (pss_cons (ps_set (i := 3) sc_law_bad_number.nd rfl (.inl rfl) (pe_callH H_law_take hr (by rfl) (pa_cons (pv 0) (pa_cons pe_int pa_nil))))
 (pss_cons (ps_if (PW.pt (pw_or (pt_val (pv 1)) (pw_or1 (pt_cmpR op_eq (pv 3) pe_int (nomark _))))) (pss_one (ps_ret (pe_callH H_law_pick hr (by rfl) (pa_cons (pv 0) (pa_cons (pv 2) pa_nil))))) pss_nil)
 (pss_one (ps_ret (pe_cmpR op_eq (pv 3) pe_int (nomark _))))))), ?_⟩
    walk_at "rdA"
    refine ⟨S, _, rfl, by omega, hS, fun r H1 r0 r1 hS1 e1 => ?_⟩
    walk_at "rdA"
    refine ⟨sz (by simp), fun p np => ?_⟩
    walk_at "rdA"
    refine ⟨S, 3, rfl, by omega, hS1.new np, fun c H2 c0 c1 hS2 e2 => ?_⟩
    have hp := e2 _ _ (hS1.ne1 np) upd_same
    have e3 := e1.trans ((ExS.new np).trans e2)
    have go : ∀ v H', v ∈ [V.int (1000000000000 + 1), .int (-1000000000000 - 1), .int 10000000000000, .int (-1000000000000000000000000000000), .int (1000000000000 + 1 + r)] → StoreOk S H' → ExS S H2 H' → Q v H' := fun v H' hv hS' e' => by
      have : ∃ n, v = .int n ∧ ¬ InR n := by
        simp only [List.mem_cons, List.not_mem_nil, or_false] at hv
        rcases hv with rfl | rfl | rfl | rfl | rfl <;> exact ⟨_, rfl, by unfold InR; omega⟩
      obtain ⟨n, rfl, hn⟩ := this
      exact h _ _ (.inr ⟨n, rfl, hn⟩) (fun _ => ⟨n, rfl⟩) hS' (e3.trans e')
    walk_at "rdA"
    refine if_bool (fun hk => ?_) (fun hk => ?_)
    · walk_at "rdA"
      exact ⟨S, _, rfl, hS2, .inl ⟨p, _, rfl, ⟨hS1.ne1 np, hp⟩, by simp, by simp, go⟩⟩
    · walk_at "rdA"
      refine if_dec (fun hc => ?_) (fun hc => ?_)
      · walk_at "rdA"
        exact ⟨S, _, rfl, hS2, .inl ⟨p, _, rfl, ⟨hS1.ne1 np, hp⟩, by simp, by simp, go⟩⟩
      · walk_at "rdA"
        exact h _ _ (.inl ⟨_, rfl⟩) (fun e => by rw [e] at hk; cases hk) hS2 e3
theorem ok_is_number {k : Nat} {f : Addr} {fd : FuncData} (F : Fun K "_law_is_number" "_law_is_number" s_law_is_number f fd) (T : Blt mg) : FnOk P w K mg base CX0 (k + 1) f fd ["value"] spIsNum := by
  refine F.ok sc_law_is_number (fun vs H Q E h => ?_) (fun cdv A outer s H vs Q E hr h => ?_)
  · obtain ⟨v, rfl, _⟩ := h; rfl
  · obtain ⟨v, rfl, hv, h⟩ := h
    refine ⟨_, (pss_one (ps_ret (pe_and (pe_callB call_isi (by rfl) T.isinstance (by decide +kernel) (pa_cons (pv 0) (pa_cons (pe_bltn (v := .ty "int") rfl T.int (by decide +kernel) rfl) pa_nil))) (pe_and (pe_not (pe_callB call_isi (by rfl) T.isinstance (by decide +kernel) (pa_cons (pv 0) (pa_cons (pe_bltn (v := .ty "bool") rfl T.bool (by decide +kernel) rfl) pa_nil)))) (pe_one (pe_chain op_le op_le (pe_un un_neg (pe_op op_pow pe_int pe_int)) (pv 0) (pe_op op_pow pe_int pe_int))))))), ?_⟩
    cases v <;> first | exact hv.elim | skip
    · walk_at "rdA"; exact h
    · walk_at "rdA"; exact h
    · rename_i n
      walk_at "rdA"
      have hh : ∀ b : Bool, b = isNum (.int n) → Q (.bl b) H := fun b e => by rw [e]; exact h
      refine if_dec (fun h1 => ?_) (fun h1 => ?_)
      · walk_at "rdA"
        refine hh _ ?_
        unfold isNum InR; simp [h1]
      · refine hh _ ?_
        unfold isNum InR; simp [h1]
    · walk_at "rdA"; exact h
end
set_option maxHeartbeats 1000000
abbrev s_law_stranger : Stmt := topS 57
theorem sc_law_stranger : FnScope ["store", "used", "name", "kind"] ["store", "used"] (defScope s_law_stranger) := ⟨rfl, rfl, rfl, by decide +kernel, rfl, by decide +kernel, by decide +kernel⟩
abbrev s_law_first_double : Stmt := topS 62
theorem sc_law_first_double : FnScope ["items", "k"] ["items"] (defScope s_law_first_double) := ⟨rfl, rfl, rfl, by decide +kernel, rfl, by decide +kernel, by decide +kernel⟩
section
variable {P : Program} {w : World} {K : PySem.W.Frag} {mg : Str → Option Value} {base : Heap}
def dupV (U : List Str) : V := match firstDup [] U with
  | none => .non
  | some z => .str z
def spDouble : Sp := fun vs H Q _ => ∃ (v : V) (UL : List Str), vs = [v] ∧ R H v (.list (UL.map PyData.str)) ∧ UL.length ≤ 1000 ∧ ∀ H', Same H H' → Q (dupV UL) H'
theorem ok_first_double {k : Nat} {f : Addr} {fd : FuncData} (F : Fun K "_law_first_double" "_law_first_double" s_law_first_double f fd) (T : Blt mg) : FnOk P w K mg base CX0 (k + 1) f fd ["items"] spDouble := by
  refine F.ok sc_law_first_double (fun vs H Q E h => ?_) (fun cdv A outer s H vs Q E hr h => ?_)
  · obtain ⟨v, UL, rfl, _⟩ := h; rfl
  · obtain ⟨v, UL, rfl, hv, lU, h⟩ := h
    refine ⟨_, (pss_cons (ps_for PassesOwn.never rfl (pi_range1 rfl T.range (pa_cons (pe_callB call_len_seq (by rfl) T.len (by decide +kernel) (pa_cons (pv 0) pa_nil)) pa_nil)) (pg_name (i := 1) sc_law_first_double.nd rfl (.inl rfl)) (pss_one (ps_if (pt_cmpR (op_in_seqR (K := K) rfl) (pe_ix (ix_seqR (K := K) rfl) (pv 0) (pv 1) (fun _ _ => rfl)) (pe_slice sl_list (pv 0) po_none (po_some (pv 1))) (by rfl)) (pss_one (ps_ret (pe_ix (ix_seqR (K := K) rfl) (pv 0) (pv 1) (fun _ _ => rfl)))) pss_nil)))
 (pss_one (ps_ret pe_non))), ?_⟩
    walk_at "rdF"
    refine rep_len hv rfl fun xs rx => ?_
    obtain rfl := rx.strsI
    walk_at "rdF"
    refine ⟨by rw [List.length_map]; omega, by rw [List.length_map]; omega, for_rng (fun i σ H' => ∃ y, σ = [some v, y] ∧ Same H H' ∧ firstDup [] UL = firstDup (UL.take i) (UL.drop i)) ⟨_, rfl, .refl H, rfl⟩ ?_ ?_⟩
    · rintro i σ H' hi ⟨y, rfl, s', hd⟩
      have hi : i < UL.length := by simpa using hi
      have gi : UL[i]? = some UL[i] := List.getElem?_eq_getElem hi
      walk_at "rdF"
      refine rep_ix (hv.same s') rfl (by omega) (by show (UL.map PyData.str)[_]? = _; rw [List.getElem?_map, show ((i : Int)).toNat = i from rfl, gi]; rfl) fun u hu => ?_
      cases hu.strI
      walk_at "rdF"
      refine rd_take (hv.same s') (fun _ _ => trivial) fun p H1 s1 np hp => ?_
      refine rd_inRep (ns := UL.take i) hp rfl (by show (UL.map PyData.str).take i = _; rw [List.map_take]) ?_
      rw [dup_step gi] at hd
      walk_at "rdF"
      refine if_dec (fun hc => ?_) (fun hc => ?_)
      · walk_at "rdF"
        refine rep_ix (hv.same (s'.trans s1)) rfl (by omega) (by show (UL.map PyData.str)[_]? = _; rw [List.getElem?_map, show ((i : Int)).toNat = i from rfl, gi]; rfl) fun u hu => ?_
        cases hu.strI
        rw [if_pos hc] at hd
        have e : dupV UL = .str UL[i] := by unfold dupV; rw [hd]
        rw [← e]
        exact h _ (s'.trans s1)
      · walk_at "rdF"
        rw [if_neg hc] at hd
        exact ⟨_, rfl, s'.trans s1, hd⟩
    · rintro σ H' ⟨y, rfl, s', hd⟩
      walk_at "rdF"
      have e : dupV UL = .non := by
        unfold dupV
        rw [hd]
        simp only [List.length_map, Int.toNat_natCast, dup_end]
      rw [← e]
      exact h _ s'
def spStranger : Sp := fun vs H Q _ => ∃ (S : Sto) (v : V) (UL : List Str) (m : Nat), vs = [.ref S.1, v] ∧ StoreOk S H ∧ RS S H v (.list (UL.map PyData.str)) ∧ UL.length ≤ 500 ∧ 20 ≤ m ∧ m ≤ 600 ∧ (∀ u ∈ UL, OkS m u) ∧ ∀ z H', OkS (m + 1) z → StoreOk S H' → ExS S H H' → Q (.str z) H'
theorem ok_stranger {k : Nat} {f : Addr} {fd : FuncData} (F : Fun K "_law_stranger" "_law_stranger" s_law_stranger f fd) (T : Blt mg) (H_law_take : Has P w K mg base "_law_take" k ["store", "many"] spTake) (H_law_pick : Has P w K mg base "_law_pick" k ["store", "items"] spPick) (H_law_name : Has P w K mg base "_law_name" k ["store"] spName) (H_law_bad_name : Has P w K mg base "_law_bad_name" k ["store"] spBad) (H_law_unused : Has P w K mg base "_law_unused" k ["used"] spUnused) : FnOk P w K mg base CX0 (k + 1) f fd ["store", "used"] spStranger := by
  refine F.ok sc_law_stranger (fun vs H Q E h => ?_) (fun cdv A outer s H vs Q E hr h => ?_)
  · obtain ⟨S, v, UL, m, rfl, _⟩ := h; rfl
  · obtain ⟨S, v, UL, m, rfl, hS, hv, lU, m20, m500, okU, h⟩ := h
    obtain ⟨q, xs, rfl, qS, hq, rx⟩ := hv.lstI
    obtain rfl := rx.strsI
    refine ⟨_, (pss_cons (ps_set (i := 2) sc_law_stranger.nd rfl (.inl rfl) (pe_callH H_law_name hr (by rfl) (pa_cons (pv 0) pa_nil)))
 (pss_cons (ps_set (i := 3) sc_law_stranger.nd rfl (.inl rfl) (pe_callH H_law_take hr (by rfl) (pa_cons (pv 0) (pa_cons pe_int pa_nil))))
 (C8.pss_cut (ps_if (pt_cmpR op_eq (pv 3) pe_int (nomark _)) (pss_one (ps_set (i := 2) sc_law_stranger.nd rfl (.inl rfl) (pe_callH H_law_bad_name hr (by rfl) (pa_cons (pv 0) pa_nil)))) pss_nil)
 (C8.pss_cut (ps_if (PW.pt (pw_and (pt_cmpR op_eq (pv 3) pe_int (nomark _)) (pw_and1 (pt_cmpR op_gt (pe_callB call_len_seq (by rfl) T.len (by decide +kernel) (pa_cons (pv 1) pa_nil)) pe_int (nomark _))))) (pss_one (ps_set (i := 2) sc_law_stranger.nd rfl (.inl rfl) (pe_op op_add_str (pe_callH H_law_pick hr (by rfl) (pa_cons (pv 0) (pa_cons (pv 1) pa_nil))) (pe_callH H_law_pick hr (by rfl) (pa_cons (pv 0) (pa_cons pe_str pa_nil)))))) pss_nil)
 (C8.pss_cut (ps_if (pt_cmpR (op_in_seqR (K := K) rfl) (pv 2) (pv 1) (by rfl)) (pss_one (ps_ret (pe_callH H_law_unused hr (by rfl) (pa_cons (pv 1) pa_nil)))) pss_nil)
 (pss_one (ps_ret (pv 2)))))))), ?_⟩
    walk_at "rdF"
    refine ⟨S, rfl, hS, fun z0 H1 hz0 hS1 e1 => ?_⟩
    walk_at "rdF"
    refine ⟨S, 4, rfl, by omega, hS1, fun r H2 r0 r1 hS2 e2 => ?_⟩
    have e2 := e1.trans e2
    walk_at "rdF"
    refine rd_cut (fun σ' H' => ∃ z, σ' = [some (.ref S.1), some (.ref q), some (.str z), some (.int r)] ∧ OkS (m + 1) z ∧ StoreOk S H' ∧ ExS S H H') ?_ ?_
    · walk_at "rdF"
      refine if_dec (fun hk => ?_) (fun hk => ?_)
      · walk_at "rdF"
        refine ⟨S, rfl, hS2, fun z H3 hz hS3 e3 => ?_⟩
        walk_at "rdF"
        exact ⟨z, rfl, hz.mono (by omega), hS3, e2.trans e3⟩
      · walk_at "rdF"
        exact ⟨z0, rfl, (OkS.nm hz0).mono (by omega), hS2, e2⟩
    · rintro σ3 H3 ⟨z, rfl, hz, hS3, e3⟩
      walk_at "rdF"
      refine rd_cut (fun σ' H' => ∃ z, σ' = [some (.ref S.1), some (.ref q), some (.str z), some (.int r)] ∧ OkS (m + 1) z ∧ StoreOk S H' ∧ ExS S H H') ?_ ?_
      · have hq3 := e3 _ _ qS hq
        walk_at "rdF"
        refine if_dec (fun hk => ?_) (fun hk => ?_)
        · walk_at "rdF"
          refine rd_seqL hq3 ?_
          walk_at "rdF"
          refine if_dec (fun hl => ?_) (fun hl => ?_)
          · walk_at "rdF"
            rw [List.length_map] at hl
            refine ⟨S, _, rfl, hS3, .inl ⟨q, _, rfl, ⟨qS, hq3⟩, by rw [List.length_map]; omega, by rw [List.length_map]; omega, fun u H4 hu hS4 e4 => ?_⟩⟩
            obtain ⟨w, hw, rfl⟩ := List.mem_map.mp hu
            walk_at "rdF"
            refine ⟨S, _, rfl, hS4, .inr ⟨_, rfl, by decide +kernel, by decide +kernel, fun c H5 hc hS5 e5 => ?_⟩⟩
            have ow := okU w hw
            have oc := (show OkS 4 "0az9" from by decide +kernel).sign hc
            walk_at "rdF"
            exact ⟨sz (by have := ow.len; have := oc.len; omega), _, rfl, ow.app oc (by omega), hS5, (e3.trans e4).trans e5⟩
          · walk_at "rdF"
            exact ⟨z, rfl, hz, hS3, e3⟩
        · walk_at "rdF"
          exact ⟨z, rfl, hz, hS3, e3⟩
      · rintro σ4 H4 ⟨z, rfl, hz, hS4, e4⟩
        have hq4 := e4 _ _ qS hq
        walk_at "rdF"
        refine rd_cut (fun σ' H' => σ' = [some (.ref S.1), some (.ref q), some (.str z), some (.int r)] ∧ StoreOk S H' ∧ ExS S H H') ?_ ?_
        · walk_at "rdF"
          refine rd_inRep (U := US S) (ns := UL) (.lst qS hq4 .strs) rfl rfl ?_
          walk_at "rdF"
          refine if_dec (fun hc => ?_) (fun hc => ?_)
          · walk_at "rdF"
            refine ⟨q, UL, rfl, hq4, by omega, fun z2 H5 hz2 _ s5 => ?_⟩
            exact h _ _ ((OkS.nm hz2).mono (by omega)) (hS4.same s5) (e4.trans (same_ex s5))
          · walk_at "rdF"
            exact ⟨rfl, hS4, e4⟩
        · rintro σ5 H5 ⟨rfl, hS5, e5⟩
          walk_at "rdF"
          exact h _ _ hz hS5 e5
end
set_option maxHeartbeats 1000000
abbrev s_law_bent_edge : Stmt := topS 64
theorem sc_law_bent_edge : FnScope ["store", "edges", "spot", "pool", "kind", "row", "side"] ["store", "edges", "spot", "pool", "kind"] (defScope s_law_bent_edge) := ⟨rfl, rfl, rfl, by decide +kernel, rfl, by decide +kernel, by decide +kernel⟩
section
variable {P : Program} {w : World} {K : PySem.W.Frag} {mg : Str → Option Value} {base : Heap}
/-- a value as drawn for a number's place -/
def NB (v : V) : Prop := NI v ∨ ∃ b, v = .bl b
theorem NB.sc {v : V} (h : NB v) : Sc v := by
  rcases h with h | ⟨b, rfl⟩
  · exact h.sc
  · trivial
theorem Bad.nb {v : V} (h : Bad v) : NB v := by
  rcases h with ⟨b, rfl⟩ | ⟨n, rfl, _⟩
  · exact .inr ⟨b, rfl⟩
  · exact .inl (.inr ⟨n, rfl⟩)
structure LsB (m : Nat) (r : BR) : Prop where
  n : OkS m r.n
  x : OkS m r.x
  y : OkS m r.y
  l : NB r.l
  h : NB r.h
structure LsL (m : Nat) (r : Str × V) : Prop where
  n : OkS m r.1
  v : NB r.2
theorem LsB.mono {m n : Nat} {r : BR} (h : LsB m r) (l : m ≤ n) : LsB n r := ⟨h.n.mono l, h.x.mono l, h.y.mono l, h.l, h.h⟩
theorem LsL.mono {m n : Nat} {r : Str × V} (h : LsL m r) (l : m ≤ n) : LsL n r := ⟨h.n.mono l, h.v⟩
theorem LsB.row5 {m : Nat} {S : Sto} {H : Hp} {r : BR} {p : Addr} (h : LsB m r) (u : US S p) (e : H p = some (.tup r.row)) : RS S H (.ref p) r.d :=
  .tup u e (.cons (.str _) (.cons (.str _) (.cons (.str _) (.cons (.sc h.l.sc) (.cons (.sc h.h.sc) .nil)))))
structure RowI (S : Sto) (H0 : Hp) (p : Addr) (m : Nat) (r : BR) (kind : Int) (H : Hp) : Prop where
  ex : ∃ r' : BR, H p = some (.lst r'.row) ∧ LsB m r' ∧ (kind = 8 ∨ kind = 9 → r'.n = r.n ∧ r'.x = r.x ∧ r'.y = r.y)
  gd : Gd S H0 H
  n0 : H0 p = none
  p1 : p ≠ S.1
  p2 : p ≠ S.2
theorem RowI.st {S : Sto} {H0 H H' : Hp} {p : Addr} {m : Nat} {r : BR} {kind : Int} (h : RowI S H0 p m r kind H) (ok : StoreOk S H') (e : ExS S H H') : RowI S H0 p m r kind H' := by
  obtain ⟨r', hp, a, b⟩ := h.ex
  exact ⟨⟨r', e _ _ h.p1 hp, a, b⟩, h.gd.trans (.of ok e), h.n0, h.p1, h.p2⟩
theorem RowI.put {S : Sto} {H0 H : Hp} {p : Addr} {m : Nat} {r r' : BR} {kind : Int} (h : RowI S H0 p m r kind H) (l : LsB m r') (q : kind = 8 ∨ kind = 9 → r'.n = r.n ∧ r'.x = r.x ∧ r'.y = r.y) : RowI S H0 p m r kind (upd H p (.lst r'.row)) :=
  ⟨⟨r', upd_same, l, q⟩, h.gd.mut h.n0 h.p1 h.p2, h.n0, h.p1, h.p2⟩
theorem RowI.mono {S : Sto} {H0 H : Hp} {p : Addr} {m n : Nat} {r : BR} {kind : Int} (h : RowI S H0 p m r kind H) (l : m ≤ n) : RowI S H0 p n r kind H := by
  obtain ⟨r', hp, a, b⟩ := h.ex
  exact ⟨⟨r', hp, a.mono l, b⟩, h.gd, h.n0, h.p1, h.p2⟩
def spBentEdge : Sp := fun vs H Q _ => ∃ (S : Sto) (ev ov : V) (B : List BR) (i : Nat) (r : BR) (ns : List Int) (kind : Int) (m : Nat), vs = [.ref S.1, ev, .int i, ov, .int kind] ∧ StoreOk S H ∧ RS S H ev (.list (B.map BR.d)) ∧ RS S H ov (.list (ns.map PyData.int)) ∧ B[i]? = some r ∧ 20 ≤ m ∧ m ≤ 500 ∧ (∀ q ∈ B, LsB m q) ∧ B.length ≤ 1000 ∧ 0 < ns.length ∧ ns.length < 1000 ∧
  ∀ (v : V) (r' : BR) (H' : Hp), RS S H' v r'.d → LsB (m + 2) r' → (kind = 8 ∨ kind = 9 → r'.n = r.n ∧ r'.x = r.x ∧ r'.y = r.y) → Gd S H H' → Q v H'
theorem ok_bent_edge {k : Nat} {f : Addr} {fd : FuncData} (F : Fun K "_law_bent_edge" "_law_bent_edge" s_law_bent_edge f fd) (T : Blt mg) (H_law_take : Has P w K mg base "_law_take" k ["store", "many"] spTake) (H_law_pick : Has P w K mg base "_law_pick" k ["store", "items"] spPick) (H_law_bad_name : Has P w K mg base "_law_bad_name" k ["store"] spBad) (H_law_bad_number : Has P w K mg base "_law_bad_number" k ["store", "keyed"] spBadNum) (H_law_clamped : Has P w K mg base "_law_clamped" k ["number"] spClamped) (H_law_near : Has P w K mg base "_law_near" k ["store", "pool"] spNear) (H_law_stranger : Has P w K mg base "_law_stranger" k ["store", "used"] spStranger) : FnOk P w K mg base CX0 (k + 1) f fd ["store", "edges", "spot", "pool", "kind"] spBentEdge := by
  refine F.ok sc_law_bent_edge (fun vs H Q E h => ?_) (fun cdv A outer s H vs Q E hr h => ?_)
  · obtain ⟨S, ev, ov, B, i, r, ns, kind, m, rfl, _⟩ := h; rfl
  · obtain ⟨S, ev, ov, B, i, r, ns, kind, mm, rfl, hS, hev, hpv, hri, m20, m500, hB, lB, n0, n1, h⟩ := h
    refine ⟨_, (pss_cons (ps_set (i := 5) sc_law_bent_edge.nd rfl (.inl rfl) (pe_callTy call_list_of (by rfl) T.list' (by decide +kernel) (pa_cons (pe_ix (ix_seqR (K := K) rfl) (pv 1) (pv 2) (fun _ _ => rfl)) pa_nil)))
 (C8.pss_cut (ps_if (pt_cmpR op_eq (pv 4) pe_int (nomark _)) (pss_one (ps_asg (pe_callH H_law_bad_name hr (by rfl) (pa_cons (pv 0) pa_nil)) (pg_sub (pv 5) pe_int set_list))) pss_nil)
 (C8.pss_cut (ps_if (pt_cmpR op_eq (pv 4) pe_int (nomark _)) (pss_one (ps_asg (pe_callH H_law_bad_number hr (by rfl) (pa_cons (pv 0) (pa_cons pe_bl pa_nil))) (pg_sub (pv 5) (pe_op op_add pe_int (pe_callH H_law_take hr (by rfl) (pa_cons (pv 0) (pa_cons pe_int pa_nil)))) set_list))) pss_nil)
 (C8.pss_cut (ps_if (pt_cmpR op_eq (pv 4) pe_int (nomark _)) (pss_cons (ps_asg (pe_callH H_law_clamped hr (by rfl) (pa_cons (pe_op op_add (pe_callH H_law_near hr (by rfl) (pa_cons (pv 0) (pa_cons (pv 3) pa_nil))) pe_int) pa_nil)) (pg_sub (pv 5) pe_int set_list))
 (pss_one (ps_asg (pe_callH H_law_clamped hr (by rfl) (pa_cons (pe_op op_sub (pe_op op_sub (pe_ix (ix_seqR (K := K) rfl) (pv 5) pe_int (fun _ _ => rfl)) pe_int) (pe_callH H_law_take hr (by rfl) (pa_cons (pv 0) (pa_cons pe_int pa_nil)))) pa_nil)) (pg_sub (pv 5) pe_int set_list)))) pss_nil)
 (C8.pss_cut (ps_if (pt_cmpR op_eq (pv 4) pe_int (nomark _)) (pss_one (ps_asg (pe_ix (ix_seqR (K := K) rfl) (pe_callH H_law_pick hr (by rfl) (pa_cons (pv 0) (pa_cons (pv 1) pa_nil))) pe_int (fun _ _ => rfl)) (pg_sub (pv 5) pe_int set_list))) pss_nil)
 (C8.pss_cut (ps_if (pt_cmpR op_eq (pv 4) pe_int (nomark _)) (pss_cons (ps_set (i := 6) sc_law_bent_edge.nd rfl (.inl rfl) (pe_op op_add pe_int (pe_callH H_law_take hr (by rfl) (pa_cons (pv 0) (pa_cons pe_int pa_nil)))))
 (pss_one (ps_asg (pe_callH H_law_pick hr (by rfl) (pa_cons (pv 0) (pa_cons (pe_lst (pa_cons (pe_callH H_law_stranger hr (by rfl) (pa_cons (pv 0) (pa_cons (pe_lst (pa_cons (pe_ix (ix_seqR (K := K) rfl) (pv 5) pe_int (fun _ _ => rfl)) (pa_cons (pe_ix (ix_seqR (K := K) rfl) (pv 5) pe_int (fun _ _ => rfl)) pa_nil))) pa_nil))) (pa_cons (pe_ix (ix_seqR (K := K) rfl) (pv 5) (pe_op op_sub pe_int (pv 6)) (fun _ _ => rfl)) pa_nil))) pa_nil))) (pg_sub (pv 5) (pv 6) set_list)))) pss_nil)
 (pss_one (ps_ret (pe_tup (pa_cons (pe_ix (ix_seqR (K := K) rfl) (pv 5) pe_int (fun _ _ => rfl)) (pa_cons (pe_ix (ix_seqR (K := K) rfl) (pv 5) pe_int (fun _ _ => rfl)) (pa_cons (pe_ix (ix_seqR (K := K) rfl) (pv 5) pe_int (fun _ _ => rfl)) (pa_cons (pe_ix (ix_seqR (K := K) rfl) (pv 5) pe_int (fun _ _ => rfl)) (pa_cons (pe_ix (ix_seqR (K := K) rfl) (pv 5) pe_int (fun _ _ => rfl)) pa_nil)))))))))))))), ?_⟩
    have lr := hB r (List.mem_of_getElem? hri)
    walk_at "rdF"
    refine hev.ixL (i := i) (by rw [List.getElem?_map, hri]; rfl) fun u hu => ?_
    walk_at "rdF"
    refine rep_len hu rfl fun xs rx => ?_
    intro p np
    obtain ⟨u1, u2, u3, u4, u5, rfl, g1, g2, g3, g4, g5⟩ := rep5 rx
    cases g1.strI; cases g2.strI; cases g3.strI
    cases g4.scI lr.l.sc; cases g5.scI lr.h.sc
    have I1 : RowI S H p (mm + 1) r kind (upd H p (.lst [.str r.n, .str r.x, .str r.y, r.l, r.h])) := ⟨⟨r, upd_same, lr.mono (by omega), fun _ => ⟨rfl, rfl, rfl⟩⟩, .new hS np, np, hS.ne1 np, hS.ne2 np⟩
    generalize upd H p (.lst [.str r.n, .str r.x, .str r.y, r.l, r.h]) = H1 at *
    walk_at "rdF"
    refine rd_cut (fun σ' H' => σ' = [some (.ref S.1), some ev, some (.int i), some ov, some (.int kind), some (.ref p), none] ∧ RowI S H p (mm + 1) r kind H') ?_ ?_
    · walk_at "rdF"
      refine if_dec (fun hk => ?_) (fun hk => ?_)
      · walk_at "rdF"
        refine ⟨S, rfl, I1.gd.ok, fun z H2 hz hS2 e2 => ?_⟩
        have I2 := I1.st hS2 e2
        obtain ⟨r2, hp2, l2, q2⟩ := I2.ex
        walk_at "rdF"
        refine rd_setL hp2 (j := 0) rfl ?_
        walk_at "rdF"
        exact ⟨rfl, I2.put (r' := ⟨z, r2.x, r2.y, r2.l, r2.h⟩) ⟨hz.mono (by omega), l2.x, l2.y, l2.l, l2.h⟩ fun c => by omega⟩
      · walk_at "rdF"
        exact ⟨rfl, I1⟩
    rintro σ2 H2 ⟨rfl, I2⟩
    walk_at "rdF"
    refine rd_cut (fun σ' H' => σ' = [some (.ref S.1), some ev, some (.int i), some ov, some (.int kind), some (.ref p), none] ∧ RowI S H p (mm + 1) r kind H') ?_ ?_
    · walk_at "rdF"
      refine if_dec (fun hk => ?_) (fun hk => ?_)
      · walk_at "rdF"
        refine ⟨S, false, rfl, I2.gd.ok, fun v H3 hv _ hS3 e3 => ?_⟩
        have I3 := I2.st hS3 e3
        walk_at "rdF"
        refine ⟨S, 2, rfl, by omega, I3.gd.ok, fun t H4 t0 t1 hS4 e4 => ?_⟩
        have I4 := I3.st hS4 e4
        obtain ⟨r4, hp4, l4, q4⟩ := I4.ex
        have ht : t = 0 ∨ t = 1 := by omega
        rcases ht with rfl | rfl
        · walk_at "rdF"
          refine rd_setL hp4 (j := 3) rfl ?_
          walk_at "rdF"
          exact ⟨rfl, I4.put (r' := ⟨r4.n, r4.x, r4.y, v, r4.h⟩) ⟨l4.n, l4.x, l4.y, Bad.nb hv, l4.h⟩ q4⟩
        · walk_at "rdF"
          refine rd_setL hp4 (j := 4) rfl ?_
          walk_at "rdF"
          exact ⟨rfl, I4.put (r' := ⟨r4.n, r4.x, r4.y, r4.l, v⟩) ⟨l4.n, l4.x, l4.y, l4.l, Bad.nb hv⟩ q4⟩
      · walk_at "rdF"
        exact ⟨rfl, I2⟩
    rintro σ3 H3 ⟨rfl, I3⟩
    walk_at "rdF"
    refine rd_cut (fun σ' H' => σ' = [some (.ref S.1), some ev, some (.int i), some ov, some (.int kind), some (.ref p), none] ∧ RowI S H p (mm + 1) r kind H') ?_ ?_
    · walk_at "rdF"
      refine if_dec (fun hk => ?_) (fun hk => ?_)
      · walk_at "rdF"
        obtain ⟨q, xs, rfl, qS, hq, rxq⟩ := (hpv.ex I3.gd.ex).lstI
        obtain rfl := rxq.intsI
        refine ⟨S, q, ns, rfl, I3.gd.ok, ⟨qS, hq⟩, n0, n1, fun m H4 hm hS4 e4 => ?_⟩
        have I4 := I3.st hS4 e4
        walk_at "rdF"
        refine ⟨_, rfl, fun m2 hm2 _ => ?_⟩
        obtain ⟨r4, hp4, l4, q4⟩ := I4.ex
        walk_at "rdF"
        refine rd_setL hp4 (j := 3) rfl ?_
        have I5 := I4.put (r' := ⟨r4.n, r4.x, r4.y, .int m2, r4.h⟩) ⟨l4.n, l4.x, l4.y, .inl (.inr ⟨_, rfl⟩), l4.h⟩ q4
        show tNext _ _ (upd H4 p (.lst (BR.row ⟨r4.n, r4.x, r4.y, .int m2, r4.h⟩)))
        have hp5 := @upd_same H4 p (.lst (BR.row ⟨r4.n, r4.x, r4.y, .int m2, r4.h⟩))
        generalize upd H4 p (.lst (BR.row ⟨r4.n, r4.x, r4.y, .int m2, r4.h⟩)) = H5 at *
        walk_at "rdF"
        refine rd_ixQL hp5 (atI_nat (i := 3) rfl) ?_
        walk_at "rdF"
        refine ⟨S, 3, rfl, by omega, I5.gd.ok, fun t H6 t0 t1 hS6 e6 => ?_⟩
        have I6 := I5.st hS6 e6
        have hp6 := e6 _ _ I5.p1 hp5
        walk_at "rdF"
        refine ⟨_, rfl, fun m3 hm3 _ => ?_⟩
        walk_at "rdF"
        refine rd_setL hp6 (j := 4) rfl ?_
        walk_at "rdF"
        exact ⟨rfl, I6.put (r' := ⟨r4.n, r4.x, r4.y, .int m2, .int m3⟩) ⟨l4.n, l4.x, l4.y, .inl (.inr ⟨_, rfl⟩), .inl (.inr ⟨_, rfl⟩)⟩ q4⟩
      · walk_at "rdF"
        exact ⟨rfl, I3⟩
    rintro σ4 H4 ⟨rfl, I4⟩
    walk_at "rdF"
    refine rd_cut (fun σ' H' => σ' = [some (.ref S.1), some ev, some (.int i), some ov, some (.int kind), some (.ref p), none] ∧ RowI S H p (mm + 1) r kind H') ?_ ?_
    · walk_at "rdF"
      refine if_dec (fun hk => ?_) (fun hk => ?_)
      · walk_at "rdF"
        obtain ⟨q, xs, rfl, qS, hq, rxq⟩ := (hev.ex I4.gd.ex).lstI
        have lx : xs.length = B.length := by rw [rxq.len, List.length_map]
        have lB0 : 0 < B.length := by have := (List.getElem?_eq_some_iff.mp hri).1; omega
        refine ⟨S, _, rfl, I4.gd.ok, .inl ⟨q, xs, rfl, ⟨qS, hq⟩, by omega, by omega, fun v H5 hv hS5 e5 => ?_⟩⟩
        have I5 := I4.st hS5 e5
        obtain ⟨d, hd, hr5⟩ := rxq.mem hv
        obtain ⟨r2, hr2, rfl⟩ := List.mem_map.mp hd
        walk_at "rdF"
        refine rep_ix (hr5.to fun b o u e => ⟨u, e5 b o u e⟩) rfl (by decide) rfl fun w hw => ?_
        cases hw.strI
        obtain ⟨r5, hp5, l5, q5⟩ := I5.ex
        walk_at "rdF"
        refine rd_setL hp5 (j := 0) rfl ?_
        walk_at "rdF"
        exact ⟨rfl, I5.put (r' := ⟨r2.n, r5.x, r5.y, r5.l, r5.h⟩) ⟨(hB r2 hr2).n.mono (by omega), l5.x, l5.y, l5.l, l5.h⟩ fun c => by omega⟩
      · walk_at "rdF"
        exact ⟨rfl, I4⟩
    rintro σ5 H5 ⟨rfl, I5⟩
    walk_at "rdF"
    refine rd_cut (fun σ' H' => ∃ y, σ' = [some (.ref S.1), some ev, some (.int i), some ov, some (.int kind), some (.ref p), y] ∧ RowI S H p (mm + 2) r kind H') ?_ ?_
    · walk_at "rdF"
      refine if_dec (fun hk => ?_) (fun hk => ?_)
      · walk_at "rdF"
        refine ⟨S, 2, rfl, by omega, I5.gd.ok, fun t H6 t0 t1 hS6 e6 => ?_⟩
        have I6 := I5.st hS6 e6
        obtain ⟨r6, hp6, l6, q6⟩ := I6.ex
        walk_at "rdF"
        refine rd_ixQL hp6 (atI_nat (i := 1) rfl) ?_
        walk_at "rdF"
        refine rd_ixQL hp6 (atI_nat (i := 2) rfl) ?_
        walk_at "rdF"
        refine ⟨sz (by simp), fun q nq => ?_⟩
        obtain ⟨s7, k7⟩ := new_lst (U := US S) (vs := [.str r6.x, .str r6.y]) (ds := [r6.x, r6.y].map PyData.str) nq (I6.gd.ok.ne1 nq) (.cons (.str _) (.cons (.str _) .nil))
        have e7 : ExS S H6 (upd H6 q (.lst [.str r6.x, .str r6.y])) := .new nq
        have hS7 := I6.gd.ok.new (o := .lst [.str r6.x, .str r6.y]) nq
        generalize upd H6 q (.lst [.str r6.x, .str r6.y]) = H7 at *
        have I7 := I6.st hS7 e7
        walk_at "rdF"
        refine ⟨S, _, [r6.x, r6.y], mm + 1, rfl, hS7, k7, by simp, by omega, by omega, fun u hu => ?_, fun z H8 hz hS8 e8 => ?_⟩
        · simp at hu
          rcases hu with rfl | rfl
          · exact l6.x
          · exact l6.y
        have I8 := I7.st hS8 e8
        have hp8 := e8 _ _ I7.p1 (s7 _ _ hp6)
        walk_at "rdF"
        have ht : t = 0 ∨ t = 1 := by omega
        rcases ht with rfl | rfl
        · refine rd_ixQL hp8 (atI_nat (i := 2) rfl) ?_
          walk_at "rdF"
          refine ⟨sz (by simp), fun p9 np9 => ?_⟩
          have e9 : ExS S H8 (upd H8 p9 (.lst [.str z, .str r6.y])) := .new np9
          have hp9 := @upd_same H8 p9 (.lst [.str z, .str r6.y])
          have hS9 := hS8.new (o := .lst [.str z, .str r6.y]) np9
          have p9S := hS8.ne1 np9
          generalize upd H8 p9 (.lst [.str z, .str r6.y]) = H9 at *
          have I9 := I8.st hS9 e9
          walk_at "rdF"
          refine ⟨S, _, rfl, hS9, .inl ⟨p9, _, rfl, ⟨p9S, hp9⟩, by simp, by simp, fun u H10 hu hS10 e10 => ?_⟩⟩
          have I10 := I9.st hS10 e10
          have hp10 := e10 _ _ I9.p1 (e9 _ _ I8.p1 hp8)
          obtain ⟨w, rfl, hw⟩ : ∃ w, u = .str w ∧ OkS (mm + 2) w := by
            simp at hu
            rcases hu with rfl | rfl
            · exact ⟨_, rfl, hz⟩
            · exact ⟨_, rfl, l6.y.mono (by omega)⟩
          walk_at "rdF"
          refine rd_setL hp10 (j := 1) rfl ?_
          walk_at "rdF"
          exact ⟨_, rfl, (I10.mono (by omega)).put (r' := ⟨r6.n, w, r6.y, r6.l, r6.h⟩) ⟨l6.n.mono (by omega), hw, l6.y.mono (by omega), l6.l, l6.h⟩ fun c => by omega⟩
        · refine rd_ixQL hp8 (atI_nat (i := 1) rfl) ?_
          walk_at "rdF"
          refine ⟨sz (by simp), fun p9 np9 => ?_⟩
          have e9 : ExS S H8 (upd H8 p9 (.lst [.str z, .str r6.x])) := .new np9
          have hp9 := @upd_same H8 p9 (.lst [.str z, .str r6.x])
          have hS9 := hS8.new (o := .lst [.str z, .str r6.x]) np9
          have p9S := hS8.ne1 np9
          generalize upd H8 p9 (.lst [.str z, .str r6.x]) = H9 at *
          have I9 := I8.st hS9 e9
          walk_at "rdF"
          refine ⟨S, _, rfl, hS9, .inl ⟨p9, _, rfl, ⟨p9S, hp9⟩, by simp, by simp, fun u H10 hu hS10 e10 => ?_⟩⟩
          have I10 := I9.st hS10 e10
          have hp10 := e10 _ _ I9.p1 (e9 _ _ I8.p1 hp8)
          obtain ⟨w, rfl, hw⟩ : ∃ w, u = .str w ∧ OkS (mm + 2) w := by
            simp at hu
            rcases hu with rfl | rfl
            · exact ⟨_, rfl, hz⟩
            · exact ⟨_, rfl, l6.x.mono (by omega)⟩
          walk_at "rdF"
          refine rd_setL hp10 (j := 2) rfl ?_
          walk_at "rdF"
          exact ⟨_, rfl, (I10.mono (by omega)).put (r' := ⟨r6.n, r6.x, w, r6.l, r6.h⟩) ⟨l6.n.mono (by omega), l6.x.mono (by omega), hw, l6.l, l6.h⟩ fun c => by omega⟩
      · walk_at "rdF"
        exact ⟨_, rfl, I5.mono (by omega)⟩
    rintro σ6 H6 ⟨y, rfl, I6⟩
    walk_at "rdF"
    obtain ⟨r6, hp6, l6, q6⟩ := I6.ex
    refine rd_ixQL hp6 (atI_nat (i := 0) rfl) ?_
    walk_at "rdF"
    refine rd_ixQL hp6 (atI_nat (i := 1) rfl) ?_
    walk_at "rdF"
    refine rd_ixQL hp6 (atI_nat (i := 2) rfl) ?_
    walk_at "rdF"
    refine rd_ixQL hp6 (atI_nat (i := 3) rfl) ?_
    walk_at "rdF"
    refine rd_ixQL hp6 (atI_nat (i := 4) rfl) ?_
    walk_at "rdF"
    refine ⟨sz (by simp), fun q nq => ?_⟩
    exact h _ r6 _ (l6.row5 (I6.gd.ok.ne1 nq) upd_same) l6 q6 (I6.gd.trans (.new I6.gd.ok nq))
end
set_option maxHeartbeats 1000000
abbrev s_law_bent_web : Stmt := topS 63
theorem sc_law_bent_web : FnScope ["store", "nodes", "edges", "pool", "kind", "at", "posts", "row", "spot", "labels", "node", "name", "edge"] ["store", "nodes", "edges", "pool"] (defScope s_law_bent_web) := ⟨rfl, rfl, rfl, by decide +kernel, rfl, by decide +kernel, by decide +kernel⟩
section
variable {P : Program} {w : World} {K : PySem.W.Frag} {mg : Str → Option Value} {base : Heap}
theorem headsL {L : List (Str × V)} : (kids (.list (L.map lampD))).map (fun e => (kids e).getD 0 .none) = (lampNs L).map PyData.str := by
  show (L.map lampD).map _ = _
  rw [List.map_map, List.map_map]; rfl
theorem headsB {B : List BR} : (kids (.list (B.map BR.d))).map (fun e => (kids e).getD 0 .none) = (bondNs B).map PyData.str := by
  show (B.map BR.d).map _ = _
  rw [List.map_map, List.map_map]; rfl
def noneRow (e : PyData) : PyData := .tuple [e, .none]
abbrev UU (S : Sto) (na ea : Addr) : Addr → Prop := fun q => q ≠ S.1 ∧ q ≠ na ∧ q ≠ ea
abbrev UE (S : Sto) (ea : Addr) : Addr → Prop := fun q => q ≠ S.1 ∧ q ≠ ea
structure BwI (S : Sto) (H0 : Hp) (na ea : Addr) (m : Nat) (L : List (Str × V)) (B : List BR) (H : Hp) : Prop where
  ne : na ≠ ea
  n0 : H0 na = none
  e0 : H0 ea = none
  n1 : na ≠ S.1
  n2 : na ≠ S.2
  e1 : ea ≠ S.1
  e2 : ea ≠ S.2
  ln : ∃ xs, H na = some (.lst xs) ∧ RepL (UU S na ea) H xs (L.map lampD)
  le : ∃ ys, H ea = some (.lst ys) ∧ RepL (UU S na ea) H ys (B.map BR.d)
  gd : Gd S H0 H
  okL : ∀ q ∈ L, LsL m q
  okB : ∀ q ∈ B, LsB m q
section
variable {S : Sto} {H0 H H' : Hp} {na ea p : Addr} {m m' : Nat} {L L' : List (Str × V)} {B B' : List BR}
theorem BwI.st (h : BwI S H0 na ea m L B H) (ok : StoreOk S H') (e : ExS S H H') : BwI S H0 na ea m L B H' := by
  obtain ⟨xs, hx, rx⟩ := h.ln
  obtain ⟨ys, hy, ry⟩ := h.le
  exact ⟨h.ne, h.n0, h.e0, h.n1, h.n2, h.e1, h.e2, ⟨xs, e _ _ h.n1 hx, rx.to fun q o u x => ⟨u, e q o u.1 x⟩⟩, ⟨ys, e _ _ h.e1 hy, ry.to fun q o u x => ⟨u, e q o u.1 x⟩⟩, h.gd.trans (.of ok e), h.okL, h.okB⟩
theorem BwI.g (h : BwI S H0 na ea m L B H) (g : Gd S H H') : BwI S H0 na ea m L B H' := by
  obtain ⟨xs, hx, rx⟩ := h.ln
  obtain ⟨ys, hy, ry⟩ := h.le
  exact ⟨h.ne, h.n0, h.e0, h.n1, h.n2, h.e1, h.e2, ⟨xs, g.ex.keep _ _ h.n1 hx, rx.to fun q o u x => ⟨u, g.ex.keep q o u.1 x⟩⟩, ⟨ys, g.ex.keep _ _ h.e1 hy, ry.to fun q o u x => ⟨u, g.ex.keep q o u.1 x⟩⟩, h.gd.trans g, h.okL, h.okB⟩
theorem row_off {S : Sto} {H : Hp} {v : V} {r : BR} {na ea : Addr} {m : Nat} {xs ys : List V} (h : RS S H v r.d) (l : LsB m r) (hn : H na = some (.lst xs)) (he : H ea = some (.lst ys)) : Rep (UU S na ea) H v r.d := by
  obtain ⟨p, zs, rfl, up, hp, rz⟩ := h.tupI
  obtain ⟨u1, u2, u3, u4, u5, rfl, g1, g2, g3, g4, g5⟩ := rep5 rz
  cases g1.strI; cases g2.strI; cases g3.strI
  cases g4.scI l.l.sc; cases g5.scI l.h.sc
  exact .tup ⟨up, (fun c => by rw [c, hn] at hp; cases hp), (fun c => by rw [c, he] at hp; cases hp)⟩ hp (.cons (.str _) (.cons (.str _) (.cons (.str _) (.cons (.sc l.l.sc) (.cons (.sc l.h.sc) .nil)))))
theorem BwI.same (h : BwI S H0 na ea m L B H) (s : Same H H') : BwI S H0 na ea m L B H' := h.st (h.gd.ok.same s) (same_ex s)
theorem BwI.mono (h : BwI S H0 na ea m L B H) (l : m ≤ m') : BwI S H0 na ea m' L B H := ⟨h.ne, h.n0, h.e0, h.n1, h.n2, h.e1, h.e2, h.ln, h.le, h.gd, fun q hq => (h.okL q hq).mono l, fun q hq => (h.okB q hq).mono l⟩
theorem BwI.rn (h : BwI S H0 na ea m L B H) : Rep (UE S ea) H (.ref na) (.list (L.map lampD)) := by
  obtain ⟨xs, hx, rx⟩ := h.ln
  exact .lst ⟨h.n1, h.ne⟩ hx (rx.less fun q u => ⟨u.1, u.2.2⟩)
theorem BwI.re (h : BwI S H0 na ea m L B H) : Rep (UE S na) H (.ref ea) (.list (B.map BR.d)) := by
  obtain ⟨ys, hy, ry⟩ := h.le
  exact .lst ⟨h.e1, fun c => h.ne c.symm⟩ hy (ry.less fun q u => ⟨u.1, u.2.1⟩)
theorem BwI.uE (h : BwI S H0 na ea m L B H) : ∀ p, H p = none → UE S ea p := fun p np => ⟨h.gd.ok.ne1 np, fun c => by
  obtain ⟨ys, hy, _⟩ := h.le
  rw [c, hy] at np; cases np⟩
theorem BwI.uN (h : BwI S H0 na ea m L B H) : ∀ p, H p = none → UE S na p := fun p np => ⟨h.gd.ok.ne1 np, fun c => by
  obtain ⟨ys, hy, _⟩ := h.ln
  rw [c, hy] at np; cases np⟩
/-- other lamp rows, laid anew -/
theorem BwI.newN (h : BwI S H0 na ea m L B H) (np : H p = none) {xs : List V} (r : RepL (UE S ea) H xs (L'.map lampD)) (ok : ∀ q ∈ L', LsL m q) : BwI S H0 p ea m L' B (upd H p (.lst xs)) := by
  obtain ⟨ys, hy, ry⟩ := h.le
  refine ⟨(h.uE p np).2, h.gd.ex.dom _ np, h.e0, h.gd.ok.ne1 np, h.gd.ok.ne2 np, h.e1, h.e2, ⟨xs, upd_same, r.to fun q o u e => ?_⟩, ⟨ys, same_new np _ _ hy, ry.to fun q o u e => ?_⟩, h.gd.trans (.new h.gd.ok np), ok, h.okB⟩
  · exact ⟨⟨u.1, ne_of_none e np, u.2⟩, same_new np _ _ e⟩
  · exact ⟨⟨u.1, ne_of_none e np, u.2.2⟩, same_new np _ _ e⟩
theorem BwI.newE (h : BwI S H0 na ea m L B H) (np : H p = none) {ys : List V} (r : RepL (UE S na) H ys (B'.map BR.d)) (ok : ∀ q ∈ B', LsB m q) : BwI S H0 na p m L B' (upd H p (.lst ys)) := by
  obtain ⟨xs, hx, rx⟩ := h.ln
  refine ⟨(fun c => (h.uN p np).2 c.symm), h.n0, h.gd.ex.dom _ np, h.n1, h.n2, h.gd.ok.ne1 np, h.gd.ok.ne2 np, ⟨xs, same_new np _ _ hx, rx.to fun q o u e => ?_⟩, ⟨ys, upd_same, r.to fun q o u e => ?_⟩, h.gd.trans (.new h.gd.ok np), h.okL, ok⟩
  · exact ⟨⟨u.1, u.2.1, ne_of_none e np⟩, same_new np _ _ e⟩
  · exact ⟨⟨u.1, u.2, ne_of_none e np⟩, same_new np _ _ e⟩
theorem repL_set {U : Addr → Prop} {H : Hp} : ∀ {xs : List V} {ds : List PyData} {i : Nat} {v : V} {d : PyData}, RepL U H xs ds → Rep U H v d → RepL U H (xs.set i v) (ds.set i d)
  | _, _, _, _, _, .nil, _ => .nil
  | _, _, 0, _, _, .cons _ r, q => .cons q r
  | _, _, i + 1, _, _, .cons a r, q => .cons a (repL_set r q)
/-- a lamp row put in another's place -/
theorem BwI.setN (h : BwI S H0 na ea m L B H) {xs : List V} (hx : H na = some (.lst xs)) {i : Nat} {v : V} {r : Str × V} (rv : Rep (UU S na ea) H v (lampD r)) (ok : LsL m r) : BwI S H0 na ea m (L.set i r) B (upd H na (.lst (xs.set i v))) := by
  obtain ⟨xs', hx', rx⟩ := h.ln
  rw [hx] at hx'; cases hx'
  obtain ⟨ys, hy, ry⟩ := h.le
  have t : ∀ q o, UU S na ea q → H q = some o → UU S na ea q ∧ upd H na (.lst (xs.set i v)) q = some o := fun q o u e => ⟨u, by rw [upd_ne u.2.1]; exact e⟩
  refine ⟨h.ne, h.n0, h.e0, h.n1, h.n2, h.e1, h.e2, ⟨_, upd_same, ?_⟩, ⟨ys, by rw [upd_ne h.ne.symm]; exact hy, ry.to t⟩, h.gd.mut h.n0 h.n1 h.n2, fun q hq => ?_, h.okB⟩
  · rw [List.map_set]
    exact (repL_set rx rv).to t
  · rcases List.mem_or_eq_of_mem_set hq with q1 | rfl
    · exact h.okL q q1
    · exact ok
theorem BwI.setE (h : BwI S H0 na ea m L B H) {ys : List V} (hy : H ea = some (.lst ys)) {i : Nat} {v : V} {r : BR} (rv : Rep (UU S na ea) H v r.d) (ok : LsB m r) : BwI S H0 na ea m L (B.set i r) (upd H ea (.lst (ys.set i v))) := by
  obtain ⟨ys', hy', ry⟩ := h.le
  rw [hy] at hy'; cases hy'
  obtain ⟨xs, hx, rx⟩ := h.ln
  have t : ∀ q o, UU S na ea q → H q = some o → UU S na ea q ∧ upd H ea (.lst (ys.set i v)) q = some o := fun q o u e => ⟨u, by rw [upd_ne u.2.2]; exact e⟩
  refine ⟨h.ne, h.n0, h.e0, h.n1, h.n2, h.e1, h.e2, ⟨xs, by rw [upd_ne h.ne]; exact hx, rx.to t⟩, ⟨_, upd_same, ?_⟩, h.gd.mut h.e0 h.e1 h.e2, h.okL, fun q hq => ?_⟩
  · rw [List.map_set]
    exact (repL_set ry rv).to t
  · rcases List.mem_or_eq_of_mem_set hq with q1 | rfl
    · exact h.okB q q1
    · exact ok
end
/-- two lists joined, with what lies in the join -/
theorem rd_catX {U : Addr → Prop} {H : Hp} {u v : V} {ds es : List PyData} {Q : VK} (h1 : Rep U H u (.list ds)) (h2 : Rep U H v (.list es)) (hl : ds.length + es.length ≤ 100000) (q : ∀ p xs, H p = none → RepL U H xs (ds ++ es) → Q (.ref p) (upd H p (.lst xs))) : rCat u v H Q := by
  obtain ⟨a, xs, rfl, ua, ha, ra⟩ := h1.lstI
  obtain ⟨b, ys, rfl, ub, hb, rb⟩ := h2.lstI
  exact ⟨a, b, xs, ys, rfl, rfl, ha, hb, Nat.le_trans (by rw [ra.len, rb.len]; exact hl) (by decide), fun p np => q p _ np (ra.app rb)⟩
theorem rd_takeX {K : PySem.W.Frag} {U : Addr → Prop} {H : Hp} {v : V} {ds : List PyData} {Q : VK} {k : Nat} (h : Rep U H v (.list ds)) (q : ∀ p xs, H p = none → RepL U H xs (ds.take k) → Q (.ref p) (upd H p (.lst xs))) : rSlL K v none (some (k : Int)) H Q := by
  obtain ⟨a, xs, rfl, ua, ha, r⟩ := h.lstI
  refine ⟨a, xs, rfl, sl_of ha, fun p np => ?_⟩
  rw [cut_to]
  exact q p _ np (r.take k)
/-- bonds drawn, as data -/
theorem edges_rep {S : Sto} {H : Hp} {p : Addr} {U : List Str} {Es : List Edg} (hE : ∀ e ∈ Es, EdOk U e) (hp : At S H p (.lst (Es.map fun e => V.ref e.a))) (hA : ∀ e ∈ Es, At S H e.a (.tup e.row)) : RS S H (.ref p) (.list ((Es.map fun e => (⟨e.n, e.x, e.y, e.l, e.h⟩ : BR)).map BR.d)) := by
  refine .lst hp.1 hp.2 ?_
  rw [List.map_map]
  exact RepL.mapI fun e he => .tup (hA e he).1 (hA e he).2 (.cons (.str _) (.cons (.str _) (.cons (.str _) (.cons (.sc (hE e he).bl.op.sc) (.cons (.sc (hE e he).bh.op.sc) .nil)))))
theorem edges_repU {S : Sto} {H : Hp} {p na : Addr} {U : List Str} {Es : List Edg} {xs : List V} (hE : ∀ e ∈ Es, EdOk U e) (hp : At S H p (.lst (Es.map fun e => V.ref e.a))) (hA : ∀ e ∈ Es, At S H e.a (.tup e.row)) (hn : H na = some (.lst xs)) (pn : p ≠ na) : Rep (UE S na) H (.ref p) (.list ((Es.map fun e => (⟨e.n, e.x, e.y, e.l, e.h⟩ : BR)).map BR.d)) := by
  refine .lst ⟨hp.1, pn⟩ hp.2 ?_
  rw [List.map_map]
  exact RepL.mapI fun e he => .tup ⟨(hA e he).1, fun c => by have h2 := (hA e he).2; rw [c, hn] at h2; cases h2⟩ (hA e he).2 (.cons (.str _) (.cons (.str _) (.cons (.str _) (.cons (.sc (hE e he).bl.op.sc) (.cons (.sc (hE e he).bh.op.sc) .nil)))))
def spBentWeb : Sp := fun vs H Q _ => ∃ (S : Sto) (nv ev ov : V) (L : List (Str × V)) (B : List BR) (ns : List Int) (m : Nat), vs = [.ref S.1, nv, ev, ov] ∧ StoreOk S H ∧ RS S H nv (.list (L.map lampD)) ∧ RS S H ev (.list (B.map BR.d)) ∧ RS S H ov (.list (ns.map PyData.int)) ∧ 20 ≤ m ∧ m ≤ 400 ∧ (∀ q ∈ L, LsL m q) ∧ (∀ q ∈ B, LsB m q) ∧ L.length ≤ 11 ∧ B.length ≤ 20 ∧ (∀ n ∈ ns, InR n) ∧ 0 < ns.length ∧ ns.length < 1000 ∧
  ∀ (v : V) (L' : List (Str × V)) (B' : List BR) (H' : Hp), RS S H' v (.list [.list (L'.map lampD), .list (B'.map BR.d)]) → (∀ q ∈ L', LsL (m + 2) q) → (∀ q ∈ B', LsB (m + 2) q) → (L'.length ≤ 11 ∨ L'.length ≤ L.length + 1) → B'.length ≤ 20 → Gd S H H' → Q v H'
theorem ok_bent_web {k : Nat} {f : Addr} {fd : FuncData} (F : Fun K "_law_bent_web" "_law_bent_web" s_law_bent_web f fd) (T : Blt mg) (H_law_take : Has P w K mg base "_law_take" k ["store", "many"] spTake) (H_law_pick : Has P w K mg base "_law_pick" k ["store", "items"] spPick) (H_law_bad_name : Has P w K mg base "_law_bad_name" k ["store"] spBad) (H_law_bad_number : Has P w K mg base "_law_bad_number" k ["store", "keyed"] spBadNum) (H_law_bar : Has P w K mg base "_law_bar" k ["store", "pool"] spBar) (H_law_fresh_names : Has P w K mg base "_law_fresh_names" k ["store", "many", "used"] spFreshNames) (H_law_edges : Has P w K mg base "_law_edges" k ["store", "posts", "labels", "pool"] spEdges) (H_law_bent_edge : Has P w K mg base "_law_bent_edge" k ["store", "edges", "spot", "pool", "kind"] spBentEdge) : FnOk P w K mg base CX0 (k + 1) f fd ["store", "nodes", "edges", "pool"] spBentWeb := by
  refine F.ok sc_law_bent_web (fun vs H Q E h => ?_) (fun cdv A outer s H vs Q E hr h => ?_)
  · obtain ⟨S, nv, ev, ov, L, B, ns, m, rfl, _⟩ := h; rfl
  · obtain ⟨S, nv, ev, ov, L, B, ns, m, rfl, hS, hnv, hev, hov, m20, m400, okL, okB, lL, lB, hns, n0, n1, h⟩ := h
    refine ⟨_, (pss_cons (ps_set (i := 4) sc_law_bent_web.nd rfl (.inl rfl) (pe_callH H_law_take hr (by rfl) (pa_cons (pv 0) (pa_cons pe_int pa_nil))))
 (pss_cons (ps_set (i := 1) sc_law_bent_web.nd rfl (.inl rfl) (pe_callTy call_list_of (by rfl) T.list' (by decide +kernel) (pa_cons (pv 1) pa_nil)))
 (pss_cons (ps_set (i := 2) sc_law_bent_web.nd rfl (.inl rfl) (pe_callTy call_list_of (by rfl) T.list' (by decide +kernel) (pa_cons (pv 2) pa_nil)))
 (pss_cons (ps_set (i := 5) sc_law_bent_web.nd rfl (.inl rfl) (pe_callH H_law_take hr (by rfl) (pa_cons (pv 0) (pa_cons (pe_callB call_len_seq (by rfl) T.len (by decide +kernel) (pa_cons (pv 1) pa_nil)) pa_nil))))
 (C8.pss_cut (ps_if (pt_cmpR op_eq (pv 4) pe_int (nomark _)) (pss_cons (ps_setLc (i := 6) (own := [("node", 10)]) (g := (gName 10)) (by rfl) sc_law_bent_web.nd rfl rfl (sw_true rfl rfl rfl (by decide +kernel)) (pi_seq (pv 1)) (blkOk_by (own := [("node", 10)]) (N := ["store", "nodes", "edges", "pool", "kind", "at", "posts", "row", "spot", "labels", "node", "name", "edge"]) (sc := defScope s_law_bent_web) (by decide +kernel)) (fun _ _ _ _ _ => (pg_name (i := 10) sc_law_bent_web.nd rfl (.inl rfl))) (fun _ _ _ _ _ => pts_nil) (fun _ _ _ _ _ => (pe_ix (ix_seqR (K := K) rfl) (pv 10) pe_int (fun _ _ => rfl))))
 (pss_one (ps_set (i := 1) sc_law_bent_web.nd rfl (.inl rfl) (pe_op op_cat (pv 1) (pe_lc (own := [("name", 11)]) (g := (gName 11)) (by rfl) sc_law_bent_web.nd (pi_seq (pe_callH H_law_fresh_names hr (by rfl) (pa_cons (pv 0) (pa_cons (pe_op op_sub pe_int (pe_callB call_len_seq (by rfl) T.len (by decide +kernel) (pa_cons (pv 1) pa_nil))) (pa_cons (pv 6) pa_nil))))) (blkOk_by (own := [("name", 11)]) (N := ["store", "nodes", "edges", "pool", "kind", "at", "posts", "row", "spot", "labels", "node", "name", "edge"]) (sc := defScope s_law_bent_web) (by decide +kernel)) (fun _ _ _ _ _ => (pg_name (i := 11) sc_law_bent_web.nd rfl (.inl rfl))) (fun _ _ _ _ _ => pts_nil) (fun _ _ _ _ _ => (pe_tup (pa_cons (pv 11) (pa_cons pe_non pa_nil))))))))) pss_nil)
 (C8.pss_cut (ps_if (pt_cmpR op_eq (pv 4) pe_int (nomark _)) (pss_cons (ps_set (i := 1) sc_law_bent_web.nd rfl (.inl rfl) (pe_lst pa_nil))
 (pss_one (ps_if (pt_cmpR op_eq (pe_callH H_law_take hr (by rfl) (pa_cons (pv 0) (pa_cons pe_int pa_nil))) pe_int (nomark _)) (pss_one (ps_set (i := 2) sc_law_bent_web.nd rfl (.inl rfl) (pe_lst pa_nil))) pss_nil))) pss_nil)
 (C8.pss_cut (ps_if (PW.pt (pw_and (pt_cmpR op_gt (pe_callB call_len_seq (by rfl) T.len (by decide +kernel) (pa_cons (pv 1) pa_nil)) pe_int (nomark _)) (pw_and (pt_cmpR op_gt (pv 4) pe_int (nomark _)) (pw_and1 (pt_cmpR op_lt (pv 4) pe_int (nomark _)))))) (pss_cons (ps_set (i := 7) sc_law_bent_web.nd rfl (.inl rfl) (pe_ix (ix_seqR (K := K) rfl) (pe_lst (pa_cons (pe_tup (pa_cons (pe_callH H_law_bad_name hr (by rfl) (pa_cons (pv 0) pa_nil)) (pa_cons (pe_ix (ix_seqR (K := K) rfl) (pe_ix (ix_seqR (K := K) rfl) (pv 1) (pv 5) (fun _ _ => rfl)) pe_int (fun _ _ => rfl)) pa_nil))) (pa_cons (pe_tup (pa_cons (pe_ix (ix_seqR (K := K) rfl) (pe_ix (ix_seqR (K := K) rfl) (pv 1) (pv 5) (fun _ _ => rfl)) pe_int (fun _ _ => rfl)) (pa_cons (pe_callH H_law_bad_number hr (by rfl) (pa_cons (pv 0) (pa_cons pe_bl pa_nil))) pa_nil))) (pa_cons (pe_tup (pa_cons (pe_ix (ix_seqR (K := K) rfl) (pe_callH H_law_pick hr (by rfl) (pa_cons (pv 0) (pa_cons (pv 1) pa_nil))) pe_int (fun _ _ => rfl)) (pa_cons pe_non pa_nil))) pa_nil)))) (pe_op op_sub (pv 4) pe_int) (fun _ _ => rfl)))
 (pss_one (ps_asg (pv 7) (pg_sub (pv 1) (pv 5) set_list)))) pss_nil)
 (C8.pss_cut (ps_if (PW.pt (pw_and (pt_cmpR op_eq (pv 4) pe_int (nomark _)) (pw_and1 (pt_cmpR op_gt (pe_callB call_len_seq (by rfl) T.len (by decide +kernel) (pa_cons (pv 1) pa_nil)) pe_int (nomark _))))) (pss_cons (ps_set (i := 8) sc_law_bent_web.nd rfl (.inl rfl) (pe_callH H_law_take hr (by rfl) (pa_cons (pv 0) (pa_cons (pe_op op_add (pe_callB call_len_seq (by rfl) T.len (by decide +kernel) (pa_cons (pv 1) pa_nil)) pe_int) pa_nil))))
 (pss_one (ps_set (i := 1) sc_law_bent_web.nd rfl (.inl rfl) (pe_op op_cat (pe_op op_cat (pe_slice sl_list (pv 1) po_none (po_some (pv 8))) (pe_lst (pa_cons (pe_tup (pa_cons (pe_ix (ix_seqR (K := K) rfl) (pe_ix (ix_seqR (K := K) rfl) (pv 1) (pv 5) (fun _ _ => rfl)) pe_int (fun _ _ => rfl)) (pa_cons (pe_callH H_law_bar hr (by rfl) (pa_cons (pv 0) (pa_cons (pv 3) pa_nil))) pa_nil))) pa_nil))) (pe_slice sl_list (pv 1) (po_some (pv 8)) po_none))))) pss_nil)
 (C8.pss_cut (ps_if (PW.pt (pw_and (pt_cmpR op_eq (pv 4) pe_int (nomark _)) (pw_and1 (pt_cmpR op_gt (pe_callB call_len_seq (by rfl) T.len (by decide +kernel) (pa_cons (pv 1) pa_nil)) pe_int (nomark _))))) (pss_cons (ps_setLc (i := 6) (own := [("node", 10)]) (g := (gName 10)) (by rfl) sc_law_bent_web.nd rfl rfl (sw_true rfl rfl rfl (by decide +kernel)) (pi_seq (pv 1)) (blkOk_by (own := [("node", 10)]) (N := ["store", "nodes", "edges", "pool", "kind", "at", "posts", "row", "spot", "labels", "node", "name", "edge"]) (sc := defScope s_law_bent_web) (by decide +kernel)) (fun _ _ _ _ _ => (pg_name (i := 10) sc_law_bent_web.nd rfl (.inl rfl))) (fun _ _ _ _ _ => pts_nil) (fun _ _ _ _ _ => (pe_ix (ix_seqR (K := K) rfl) (pv 10) pe_int (fun _ _ => rfl))))
 (pss_cons (ps_set (i := 9) sc_law_bent_web.nd rfl (.inl rfl) (pe_callH H_law_fresh_names hr (by rfl) (pa_cons (pv 0) (pa_cons pe_int (pa_cons (pe_lc (own := [("edge", 12)]) (g := (gName 12)) (by rfl) sc_law_bent_web.nd (pi_seq (pv 2)) (blkOk_by (own := [("edge", 12)]) (N := ["store", "nodes", "edges", "pool", "kind", "at", "posts", "row", "spot", "labels", "node", "name", "edge"]) (sc := defScope s_law_bent_web) (by decide +kernel)) (fun _ _ _ _ _ => (pg_name (i := 12) sc_law_bent_web.nd rfl (.inl rfl))) (fun _ _ _ _ _ => pts_nil) (fun _ _ _ _ _ => (pe_ix (ix_seqR (K := K) rfl) (pv 12) pe_int (fun _ _ => rfl)))) pa_nil)))))
 (pss_cons (ps_set (i := 2) sc_law_bent_web.nd rfl (.inl rfl) (pe_op op_cat (pv 2) (pe_callH H_law_edges hr (by rfl) (pa_cons (pv 0) (pa_cons (pe_lst (pa_cons (pe_ix (ix_seqR (K := K) rfl) (pv 6) pe_int (fun _ _ => rfl)) (pa_cons (pe_ix (ix_seqR (K := K) rfl) (pv 6) (pe_op op_sub (pe_callB call_len_seq (by rfl) T.len (by decide +kernel) (pa_cons (pv 6) pa_nil)) pe_int) (fun _ _ => rfl)) pa_nil))) (pa_cons (pv 9) (pa_cons (pv 3) pa_nil)))))))
 (pss_one (ps_set (i := 2) sc_law_bent_web.nd rfl (.inl rfl) (pe_slice sl_list (pv 2) po_none (po_some pe_int))))))) pss_nil)
 (C8.pss_cut (ps_if (PW.pt (pw_and (pt_cmpR op_gt (pv 4) pe_int (nomark _)) (pw_and1 (pt_cmpR op_gt (pe_callB call_len_seq (by rfl) T.len (by decide +kernel) (pa_cons (pv 2) pa_nil)) pe_int (nomark _))))) (pss_cons (ps_set (i := 8) sc_law_bent_web.nd rfl (.inl rfl) (pe_callH H_law_take hr (by rfl) (pa_cons (pv 0) (pa_cons (pe_callB call_len_seq (by rfl) T.len (by decide +kernel) (pa_cons (pv 2) pa_nil)) pa_nil))))
 (pss_one (ps_asg (pe_callH H_law_bent_edge hr (by rfl) (pa_cons (pv 0) (pa_cons (pv 2) (pa_cons (pv 8) (pa_cons (pv 3) (pa_cons (pv 4) pa_nil)))))) (pg_sub (pv 2) (pv 8) set_list)))) pss_nil)
 (pss_one (ps_ret (pe_lst (pa_cons (pv 1) (pa_cons (pv 2) pa_nil))))))))))))))), ?_⟩
    walk_at "rdF"
    refine ⟨S, 12, rfl, by omega, hS, fun kind H1 k0 k1 hS1 e1 => ?_⟩
    have g1 : Gd S H H1 := .of hS1 e1
    walk_at "rdF"
    refine rep_len (hnv.ex g1.ex) rfl fun xs rx => ?_
    intro na nna
    have rx' : RepL (US S) H1 xs (L.map lampD) := rx
    have s2 := same_new (o := .lst xs) nna
    have hna := @upd_same H1 na (.lst xs)
    have hS2 := hS1.same s2
    generalize upd H1 na (.lst xs) = H2 at *
    walk_at "rdF"
    refine rep_len (U := UE S na) ((hev.ex g1.ex).to fun q o u e => ⟨⟨u, ne_of_none e nna⟩, s2 _ _ e⟩) rfl fun ys ry => ?_
    intro ea nea
    have ry' : RepL (UE S na) H2 ys (B.map BR.d) := ry
    have I3 : BwI S H na ea m L B (upd H2 ea (.lst ys)) := by
      have ne : na ≠ ea := fun c => by rw [← c, hna] at nea; cases nea
      have s3 := same_new (o := .lst ys) nea
      refine ⟨ne, g1.ex.dom _ nna, g1.ex.dom _ (none_back s2 nea), hS1.ne1 nna, hS1.ne2 nna, hS2.ne1 nea, hS2.ne2 nea, ⟨xs, s3 _ _ hna, rx'.to fun q o u e => ?_⟩, ⟨ys, upd_same, ry'.to fun q o u e => ?_⟩, (g1.trans (.same hS1 s2)).trans (.same hS2 s3), okL, okB⟩
      · exact ⟨⟨u, ne_of_none e nna, ne_of_none (s2 _ _ e) nea⟩, s3 _ _ (s2 _ _ e)⟩
      · exact ⟨⟨u.1, u.2, ne_of_none e nea⟩, s3 _ _ e⟩
    generalize upd H2 ea (.lst ys) = H3 at *
    walk_at "rdF"
    refine rep_len I3.rn rfl fun xs3 rx3 => ?_
    have lx3 : xs3.length = L.length := by rw [rx3.len]; exact List.length_map _
    walk_at "rdF"
    rw [lx3]
    refine ⟨S, _, rfl, by omega, I3.gd.ok, fun at_ H4 a0 a1 hS4 e4 => ?_⟩
    obtain ⟨at_, rfl⟩ : ∃ a : Nat, at_ = a := ⟨at_.toNat, by omega⟩
    have I4 := I3.st hS4 e4
    clear rx3 lx3 rx' ry' rx ry I3 hna
    walk_at "rdF"
    -- 0: eleven lamps
    refine rd_cut (fun σ' H' => ∃ na ea L' B' y6 y7 y8 y9, σ' = [some (.ref S.1), some (.ref na), some (.ref ea), some ov, some (.int kind), some (.int at_), y6, y7, y8, y9, none, none, none] ∧ BwI S H na ea m L' B' H' ∧ L'.length ≤ 11 ∧ (0 < kind → L'.length = L.length) ∧ B'.length ≤ 20) ?_ ?_
    · walk_at "rdF"
      refine if_dec (fun hk => ?_) (fun hk => ?_)
      · walk_at "rdF"
        refine lc_seq (U := fun _ => True) (fun ds => ds.map fun e => (kids e).getD 0 .none) (fun _ => True) (.inl (I4.rn.less fun _ _ => trivial)) rfl (fun _ _ => trivial) rfl (fun _ _ => trivial) (fun D j x e H' uD nD he hx hI => ?_) ?_
        · have he' : (L.map lampD)[j]? = some e := he
          rw [List.getElem?_map] at he'
          cases qi : L[j]? with
          | none => rw [qi] at he'; cases he'
          | some b =>
            rw [qi] at he'
            cases he'
            refine ⟨by walk_at "wiped", ?_⟩
            walk_at "rdF"
            refine rep_ix hx rfl (by decide) rfl fun u hu => ?_
            refine hI.put .refl trivial nD (fun _ => trivial) hu ?_ ?_
            · rw [List.length_map, List.length_take]
              show min j (L.map lampD).length < _
              rw [List.length_map]; omega
            · rw [take_succ he, List.map_append]; rfl
        rintro p5 acc H5 e5 _ np5 hp5 hacc _
        rw [headsL] at hacc
        obtain rfl := hacc.strsI
        have I5 := I4.same e5.toSame
        walk_at "rdF"
        refine rep_len I5.rn rfl fun xs5 rx5 => ?_
        have lx5 : xs5.length = L.length := by rw [rx5.len]; exact List.length_map _
        walk_at "rdF"
        rw [lx5]
        refine ⟨S, 11 - L.length, p5, lampNs L, (by rw [show (11 : Int) - (L.length : Int) = ((11 - L.length : Nat) : Int) by omega]), by omega, by rw [List.length_map]; omega, I5.gd.ok, ⟨I4.gd.ok.ne1 np5, hp5⟩, fun q U H6 hU _ _ lU nq hq hS6 e6 => ?_⟩
        have I6 := I5.st hS6 e6
        refine lc_seqG (W := fun _ => True) (Z0 := fun _ => True) (U := fun q => H6 q = none) (fun _ h => h) (fun ds => ds.map noneRow) (fun _ => True) (.inl (Rep.lst (ds := U.map PyData.str) trivial hq.2 .strs)) rfl (fun _ _ => trivial) rfl (fun _ _ => trivial) ?_ ?_
        · rintro D j x e H' uD nD he hx hI
          have he' : (U.map PyData.str)[j]? = some e := he
          rw [List.getElem?_map] at he'
          cases qi : U[j]? with
          | none => rw [qi] at he'; cases he'
          | some z =>
            rw [qi] at he'
            cases he'
            cases hx.strI
            refine ⟨by walk_at "wiped", ?_⟩
            walk_at "rdF"
            refine ⟨sz (by simp), fun l nl => ?_⟩
            refine hI.put (e := noneRow (.str z)) (.new nl) trivial nD (fun _ => trivial) (.tup ⟨hI.ex.dom _ nl, hI.ne nl⟩ upd_same (.cons (.str _) (.cons .non .nil))) ?_ ?_ (fun _ _ => trivial)
            · rw [List.length_map, List.length_take]
              show min j (U.map PyData.str).length < _
              rw [List.length_map]; omega
            · rw [take_succ he, List.map_append]; rfl
        · rintro p7 acc7 H7 e7 _ np7 hp7 hacc7 _
          rw [show (kids (PyData.list (U.map PyData.str))).map noneRow = (U.map fun z => (z, V.non)).map lampD by
            show (U.map PyData.str).map noneRow = _
            rw [List.map_map, List.map_map]; rfl] at hacc7
          have I7 := I6.same e7.toSame
          refine rd_catX I7.rn (.lst (I6.uE _ np7) hp7 (hacc7.less fun q hq => I6.uE _ hq.1)) (by rw [List.length_map, List.length_map, List.length_map]; omega) fun p8 xs8 np8 r8 => ?_
          rw [← List.map_append] at r8
          refine ⟨p8, ea, L ++ U.map (fun z => (z, V.non)), B, _, _, _, _, rfl, I7.newN np8 r8 fun q hq => ?_, by rw [List.length_append, List.length_map]; omega, fun c => by omega, lB⟩
          rcases List.mem_append.mp hq with q1 | q1
          · exact okL q q1
          · obtain ⟨z, hz, rfl⟩ := List.mem_map.mp q1
            exact ⟨(OkS.nm (hU z hz)).mono (by omega), .inl (.inl rfl)⟩
      · walk_at "rdF"
        exact ⟨na, ea, L, B, none, none, none, none, rfl, I4, lL, fun _ => rfl, lB⟩
    rintro σ4 H5 ⟨na, ea, L5, B5, y6, y7, y8, y9, rfl, I5, l5, ll5, lb5⟩
    clear I4 e4 hS4 nna nea
    walk_at "rdF"
    -- 1: none
    refine rd_cut (fun σ' H' => ∃ na ea L' B' y6 y7 y8 y9, σ' = [some (.ref S.1), some (.ref na), some (.ref ea), some ov, some (.int kind), some (.int at_), y6, y7, y8, y9, none, none, none] ∧ BwI S H na ea m L' B' H' ∧ L'.length ≤ 11 ∧ (1 < kind → L'.length = L.length) ∧ B'.length ≤ 20) ?_ ?_
    · walk_at "rdF"
      refine if_dec (fun hk => ?_) (fun hk => ?_)
      · walk_at "rdF"
        refine ⟨sz (by simp), fun p6 np6 => ?_⟩
        have I6 := I5.newN (L' := []) np6 .nil (by simp)
        generalize upd H5 p6 (.lst []) = H6 at *
        walk_at "rdF"
        refine ⟨S, 2, rfl, by omega, I6.gd.ok, fun t H7 t0 t1 hS7 e7 => ?_⟩
        have I7 := I6.st hS7 e7
        walk_at "rdF"
        refine if_dec (fun ht => ?_) (fun ht => ?_)
        · walk_at "rdF"
          refine ⟨sz (by simp), fun p8 np8 => ?_⟩
          have I8 := I7.newE (B' := []) np8 .nil (by simp)
          generalize upd H7 p8 (.lst []) = H8 at *
          walk_at "rdF"
          exact ⟨p6, p8, [], [], _, _, _, _, rfl, I8, by simp, fun c => by omega, by simp⟩
        · walk_at "rdF"
          exact ⟨p6, ea, [], B5, _, _, _, _, rfl, I7, by simp, fun c => by omega, lb5⟩
      · walk_at "rdF"
        exact ⟨na, ea, L5, B5, _, _, _, _, rfl, I5, l5, fun c => ll5 (by omega), lb5⟩
    rintro σ6 H6 ⟨na, ea, L6, B6, y6, y7, y8, y9, rfl, I6, l6, ll6, lb6⟩
    clear I5
    walk_at "rdF"
    -- 2, 3, 4: a lamp's row
    refine rd_cut (fun σ' H' => ∃ na ea L' B' y6 y7 y8 y9, σ' = [some (.ref S.1), some (.ref na), some (.ref ea), some ov, some (.int kind), some (.int at_), y6, y7, y8, y9, none, none, none] ∧ BwI S H na ea m L' B' H' ∧ L'.length ≤ 11 ∧ (1 < kind → L'.length = L.length) ∧ B'.length ≤ 20) ?_ ?_
    · walk_at "rdF"
      refine rep_len I6.rn rfl fun xs rx => ?_
      have lx : xs.length = L6.length := by rw [rx.len]; exact List.length_map _
      walk_at "rdF"
      rw [lx]
      refine if_dec (fun h0 => ?_) (fun h0 => ?_)
      · walk_at "rdF"
        refine if_dec (fun h1 => ?_) (fun h1 => ?_)
        · walk_at "rdF"
          refine if_dec (fun h5 => ?_) (fun h5 => ?_)
          · have a2 : at_ < L6.length := by have := ll6 (by omega); omega
            obtain ⟨r, hr⟩ : ∃ r, L6[at_]? = some r := ⟨_, List.getElem?_eq_getElem a2⟩
            have hd : (L6.map lampD)[at_]? = some (lampD r) := by rw [List.getElem?_map, hr]; rfl
            have okr := I6.okL r (List.mem_of_getElem? hr)
            walk_at "rdF"
            refine ⟨S, rfl, I6.gd.ok, fun z1 H7 hz1 hS7 e7 => ?_⟩
            have I7 := I6.st hS7 e7
            walk_at "rdF"
            refine I7.rn.ixL hd fun x hx => ?_
            walk_at "rdF"
            refine rep_ix hx rfl (by decide) rfl fun u hu => ?_
            cases hu.scI okr.v.sc
            walk_at "rdF"
            refine ⟨sz (by simp), fun p1 np1 => ?_⟩
            have u8 : ∀ p, H7 p = none → UU S na ea p := fun p n => ⟨(I7.uE p n).1, (I7.uN p n).2, (I7.uE p n).2⟩
            obtain ⟨s8, k8⟩ := new_tup (U := UU S na ea) (vs := [.str z1, r.2]) (ds := [.str z1, vD r.2]) np1 (u8 _ np1) (.cons (.str _) (.cons (.sc okr.v.sc) .nil))
            generalize upd H7 p1 (.tup [.str z1, r.2]) = H8 at *
            have I8 := I7.same s8
            walk_at "rdF"
            refine I8.rn.ixL hd fun x hx => ?_
            walk_at "rdF"
            refine rep_ix hx rfl (by decide) rfl fun u hu => ?_
            cases hu.strI
            walk_at "rdF"
            refine ⟨S, false, rfl, I8.gd.ok, fun v2 H9 hv2 _ hS9 e9 => ?_⟩
            have I9 := I8.st hS9 e9
            have k9 : Rep (UU S na ea) H9 (.ref p1) (lampD (z1, r.2)) := k8.to fun q o u e => ⟨u, e9 q o u.1 e⟩
            have sv2 := (Bad.nb hv2).sc
            walk_at "rdF"
            refine ⟨sz (by simp), fun p2 np2 => ?_⟩
            have u10 : ∀ p, H9 p = none → UU S na ea p := fun p n => ⟨(I9.uE p n).1, (I9.uN p n).2, (I9.uE p n).2⟩
            obtain ⟨s10, k10⟩ := new_tup (U := UU S na ea) (vs := [.str r.1, v2]) (ds := [.str r.1, vD v2]) np2 (u10 _ np2) (.cons (.str _) (.cons (.sc sv2) .nil))
            generalize upd H9 p2 (.tup [.str r.1, v2]) = H10 at *
            have I10 := I9.same s10
            obtain ⟨xs10, hx10, rx10⟩ := I10.ln
            have lx10 : xs10.length = L6.length := by rw [rx10.len]; exact List.length_map _
            walk_at "rdF"
            refine ⟨S, _, rfl, I10.gd.ok, .inl ⟨na, xs10, rfl, ⟨I10.n1, hx10⟩, by omega, by omega, fun v H11 hv hS11 e11 => ?_⟩⟩
            have I11 := I10.st hS11 e11
            obtain ⟨d, hdm, hvd⟩ := rx10.mem hv
            obtain ⟨r3, hr3, rfl⟩ := List.mem_map.mp hdm
            have t11 : ∀ q o, UU S na ea q → H10 q = some o → UU S na ea q ∧ H11 q = some o := fun q o u e => ⟨u, e11 q o u.1 e⟩
            walk_at "rdF"
            refine rep_ix (hvd.to t11) rfl (by decide) rfl fun u hu => ?_
            cases hu.strI
            walk_at "rdF"
            refine ⟨sz (by simp), fun p3 np3 => ?_⟩
            have u12 : ∀ p, H11 p = none → UU S na ea p := fun p n => ⟨(I11.uE p n).1, (I11.uN p n).2, (I11.uE p n).2⟩
            obtain ⟨s12, k12⟩ := new_tup (U := UU S na ea) (vs := [.str r3.1, .non]) (ds := [.str r3.1, .none]) np3 (u12 _ np3) (.cons (.str _) (.cons .non .nil))
            generalize upd H11 p3 (.tup [.str r3.1, .non]) = H12 at *
            have I12 := I11.same s12
            walk_at "rdF"
            refine ⟨sz (by simp), fun p4 np4 => ?_⟩
            have s13 := same_new (o := .lst [.ref p1, .ref p2, .ref p3]) np4
            have hp4 := @upd_same H12 p4 (.lst [.ref p1, .ref p2, .ref p3])
            generalize upd H12 p4 (.lst [.ref p1, .ref p2, .ref p3]) = H13 at *
            have I13 := I12.same s13
            obtain ⟨i, v, r', ei, hi, rv, okr'⟩ : ∃ (i : Nat) (v : V) (r' : Str × V), kind - 2 = i ∧ [V.ref p1, .ref p2, .ref p3][i]? = some v ∧ Rep (UU S na ea) H13 v (lampD r') ∧ LsL m r' := by
              have : kind = 2 ∨ kind = 3 ∨ kind = 4 := by omega
              rcases this with e | e | e
              · exact ⟨0, _, (z1, r.2), by omega, rfl, (((k9.same s10).to t11).same s12).same s13, hz1.mono (by omega), okr.v⟩
              · exact ⟨1, _, (r.1, v2), by omega, rfl, ((k10.to t11).same s12).same s13, okr.n, Bad.nb hv2⟩
              · exact ⟨2, _, (r3.1, .non), by omega, rfl, k12.same s13, (I10.okL r3 hr3).n, .inl (.inl rfl)⟩
            walk_at "rdF"
            rw [ei]
            refine rd_ixQL hp4 (atI_nat hi) ?_
            obtain ⟨xs13, hx13, rx13⟩ := I13.ln
            have lx13 : xs13.length = L6.length := by rw [rx13.len]; exact List.length_map _
            walk_at "rdF"
            refine rd_setL hx13 (j := at_) (by rw [lx13, ixN_nat (by omega) (by omega)]; rfl) ?_
            walk_at "rdF"
            exact ⟨na, ea, L6.set at_ r', B6, _, _, _, _, rfl, I13.setN hx13 rv okr', by rw [List.length_set]; omega, fun c => by rw [List.length_set]; exact ll6 c, lb6⟩
          · walk_at "rdF"
            exact ⟨na, ea, L6, B6, _, _, _, _, rfl, I6, l6, ll6, lb6⟩
        · walk_at "rdF"
          exact ⟨na, ea, L6, B6, _, _, _, _, rfl, I6, l6, ll6, lb6⟩
      · walk_at "rdF"
        exact ⟨na, ea, L6, B6, _, _, _, _, rfl, I6, l6, ll6, lb6⟩
    rintro σ7 H7 ⟨na, ea, L7, B7, y6, y7, y8, y9, rfl, I7, l7, ll7, lb7⟩
    clear I6
    walk_at "rdF"
    -- 5: a lamp's row once more
    refine rd_cut (fun σ' H' => ∃ na ea L' B' y6 y7 y8 y9, σ' = [some (.ref S.1), some (.ref na), some (.ref ea), some ov, some (.int kind), some (.int at_), y6, y7, y8, y9, none, none, none] ∧ BwI S H na ea m L' B' H' ∧ (L'.length ≤ 11 ∨ L'.length ≤ L.length + 1) ∧ B'.length ≤ 20) ?_ ?_
    · walk_at "rdF"
      have stay : ∃ na_1 ea_1 L' B' y6_1 y7_1 y8_1 y9_1, [some (V.ref S.1), some (.ref na), some (.ref ea), some ov, some (.int kind), some (.int at_), y6, y7, y8, y9, none, none, none] = [some (.ref S.1), some (.ref na_1), some (.ref ea_1), some ov, some (.int kind), some (.int at_), y6_1, y7_1, y8_1, y9_1, none, none, none] ∧ BwI S H na_1 ea_1 m L' B' H7 ∧ (L'.length ≤ 11 ∨ L'.length ≤ L.length + 1) ∧ B'.length ≤ 20 := ⟨na, ea, L7, B7, _, _, _, _, rfl, I7, .inl l7, lb7⟩
      refine if_dec (fun hk => ?_) (fun hk => ?_)
      · walk_at "rdF"
        refine rep_len I7.rn rfl fun xs rx => ?_
        have lx : xs.length = L7.length := by rw [rx.len]; exact List.length_map _
        walk_at "rdF"
        rw [lx]
        refine if_dec (fun h0 => ?_) (fun h0 => ?_)
        · have ll := ll7 (by omega)
          have a2 : at_ < L7.length := by omega
          obtain ⟨r, hr⟩ : ∃ r, L7[at_]? = some r := ⟨_, List.getElem?_eq_getElem a2⟩
          have hd : (L7.map lampD)[at_]? = some (lampD r) := by rw [List.getElem?_map, hr]; rfl
          have okr := I7.okL r (List.mem_of_getElem? hr)
          walk_at "rdF"
          refine rep_len I7.rn rfl fun xs2 rx2 => ?_
          have lx2 : xs2.length = L7.length := by rw [rx2.len]; exact List.length_map _
          walk_at "rdF"
          rw [lx2]
          refine ⟨S, _, rfl, by omega, I7.gd.ok, fun sp H8 s0 s1 hS8 e8 => ?_⟩
          obtain ⟨sp, rfl⟩ : ∃ a : Nat, sp = a := ⟨sp.toNat, by omega⟩
          have I8 := I7.st hS8 e8
          walk_at "rdF"
          refine rd_take I8.rn I8.uE fun p9 H9 s9 np9 k9 => ?_
          have I9 := I8.same s9
          walk_at "rdF"
          refine I9.rn.ixL hd fun x hx => ?_
          walk_at "rdF"
          refine rep_ix hx rfl (by decide) rfl fun u hu => ?_
          cases hu.strI
          walk_at "rdF"
          obtain ⟨q, xq, rfl, qS, hq, rxq⟩ := (hov.ex I9.gd.ex).lstI
          obtain rfl := rxq.intsI
          refine ⟨S, q, ns, rfl, I9.gd.ok, ⟨qS, hq⟩, hns, n0, n1, fun bv H10 hb hS10 e10 => ?_⟩
          have I10 := I9.st hS10 e10
          have k10 := k9.to (U' := UE S ea) (H' := H10) fun q o u e => ⟨u, e10 q o u.1 e⟩
          have ob := hb.op
          walk_at "rdF"
          refine ⟨sz (by simp), fun p11 np11 => ?_⟩
          obtain ⟨s11, k11⟩ := new_tup (vs := [.str r.1, bv]) (ds := [.str r.1, vD bv]) np11 (I10.uE _ np11) (.cons (.str _) (.cons (.sc ob.sc) .nil))
          generalize upd H10 p11 (.tup [.str r.1, bv]) = H11 at *
          have I11 := I10.same s11
          walk_at "rdF"
          refine ⟨sz (by simp), fun p12 np12 => ?_⟩
          obtain ⟨s12, k12⟩ := new_lst (vs := [.ref p11]) (ds := [lampD (r.1, bv)]) np12 (I11.uE _ np12) (.cons k11 .nil)
          generalize upd H11 p12 (.lst [.ref p11]) = H12 at *
          have I12 := I11.same s12
          walk_at "rdF"
          refine rd_cat (k10.same (s11.trans s12)) k12 (by rw [List.length_take, List.length_map]; simp; omega) I12.uE fun p13 H13 s13 np13 k13 => ?_
          have I13 := I12.same s13
          walk_at "rdF"
          refine rd_dropL I13.rn I13.uE fun p14 H14 s14 np14 k14 => ?_
          have I14 := I13.same s14
          refine rd_catX (k13.same s14) k14 (by rw [List.length_append, List.length_take, List.length_drop, List.length_map]; simp; omega) fun p15 xs15 np15 r15 => ?_
          have r15' : RepL (UE S ea) H14 xs15 ((L7.take sp ++ [(r.1, bv)] ++ L7.drop sp).map lampD) := by
            rw [List.map_append, List.map_append, List.map_take, List.map_drop]; exact r15
          refine ⟨p15, ea, _, B7, _, _, _, _, rfl, I14.newN np15 r15' fun q hq => ?_, .inr (by rw [List.length_append, List.length_append, List.length_take, List.length_drop]; simp; omega), lb7⟩
          rcases List.mem_append.mp hq with q1 | q1
          · rcases List.mem_append.mp q1 with q2 | q2
            · exact I7.okL q (List.mem_of_mem_take q2)
            · rw [List.mem_singleton.mp q2]; exact ⟨okr.n, .inl ob.1⟩
          · exact I7.okL q (List.mem_of_mem_drop q1)
        · walk_at "rdF"
          exact stay
      · walk_at "rdF"
        exact stay
    rintro σ8 H8 ⟨na, ea, L8, B8, y6, y7, y8, y9, rfl, I8, l8, lb8⟩
    clear I7
    walk_at "rdF"
    -- 6: more bonds
    refine rd_cut (fun σ' H' => ∃ na ea L' B' y6 y7 y8 y9, σ' = [some (.ref S.1), some (.ref na), some (.ref ea), some ov, some (.int kind), some (.int at_), y6, y7, y8, y9, none, none, none] ∧ BwI S H na ea m L' B' H' ∧ (L'.length ≤ 11 ∨ L'.length ≤ L.length + 1) ∧ B'.length ≤ 20) ?_ ?_
    · walk_at "rdF"
      have stay : ∃ na_1 ea_1 L' B' y6_1 y7_1 y8_1 y9_1, [some (V.ref S.1), some (.ref na), some (.ref ea), some ov, some (.int kind), some (.int at_), y6, y7, y8, y9, none, none, none] = [some (.ref S.1), some (.ref na_1), some (.ref ea_1), some ov, some (.int kind), some (.int at_), y6_1, y7_1, y8_1, y9_1, none, none, none] ∧ BwI S H na_1 ea_1 m L' B' H8 ∧ (L'.length ≤ 11 ∨ L'.length ≤ L.length + 1) ∧ B'.length ≤ 20 := ⟨na, ea, L8, B8, _, _, _, _, rfl, I8, l8, lb8⟩
      refine if_dec (fun hk => ?_) (fun hk => ?_)
      · walk_at "rdF"
        refine rep_len I8.rn rfl fun xs rx => ?_
        have lx : xs.length = L8.length := by rw [rx.len]; exact List.length_map _
        walk_at "rdF"
        rw [lx]
        refine if_dec (fun h0 => ?_) (fun h0 => ?_)
        · walk_at "rdF"
          refine lc_seq (U := fun _ => True) (fun ds => ds.map fun e => (kids e).getD 0 .none) (fun _ => True) (.inl (I8.rn.less fun _ _ => trivial)) rfl (fun _ _ => trivial) rfl (fun _ _ => trivial) (fun D j x e H' uD nD he hx hI => ?_) ?_
          · have he' : (L8.map lampD)[j]? = some e := he
            rw [List.getElem?_map] at he'
            cases qi : L8[j]? with
            | none => rw [qi] at he'; cases he'
            | some b =>
              rw [qi] at he'
              cases he'
              refine ⟨by walk_at "wiped", ?_⟩
              walk_at "rdF"
              refine rep_ix hx rfl (by decide) rfl fun u hu => ?_
              refine hI.put .refl trivial nD (fun _ => trivial) hu ?_ ?_
              · rw [List.length_map, List.length_take]
                show min j (L8.map lampD).length < _
                rw [List.length_map]; omega
              · rw [take_succ he, List.map_append]; rfl
          rintro p9 acc9 H9 e9 _ np9 hp9 hacc9 _
          rw [headsL] at hacc9
          obtain rfl := hacc9.strsI
          have I9 := I8.same e9.toSame
          have p9S := I8.gd.ok.ne1 np9
          walk_at "rdF"
          refine lc_seq (U := fun _ => True) (fun ds => ds.map fun e => (kids e).getD 0 .none) (fun _ => True) (.inl (I9.re.less fun _ _ => trivial)) rfl (fun _ _ => trivial) rfl (fun _ _ => trivial) (fun D j x e H' uD nD he hx hI => ?_) ?_
          · have he' : (B8.map BR.d)[j]? = some e := he
            rw [List.getElem?_map] at he'
            cases qi : B8[j]? with
            | none => rw [qi] at he'; cases he'
            | some b =>
              rw [qi] at he'
              cases he'
              refine ⟨by walk_at "wiped", ?_⟩
              walk_at "rdF"
              refine rep_ix hx rfl (by decide) rfl fun u hu => ?_
              refine hI.put .refl trivial nD (fun _ => trivial) hu ?_ ?_
              · rw [List.length_map, List.length_take]
                show min j (B8.map BR.d).length < _
                rw [List.length_map]; omega
              · rw [take_succ he, List.map_append]; rfl
          rintro p10 acc10 H10 e10 _ np10 hp10 hacc10 _
          rw [headsB] at hacc10
          obtain rfl := hacc10.strsI
          have I10 := I9.same e10.toSame
          have hp9' := e10.toSame _ _ hp9
          walk_at "rdF"
          refine ⟨S, 17, p10, bondNs B8, rfl, by omega, by rw [List.length_map]; omega, I10.gd.ok, ⟨I9.gd.ok.ne1 np10, hp10⟩, fun p11 W H11 nmW _ _ lW np11 hp11 hS11 e11 => ?_⟩
          have I11 := I10.st hS11 e11
          have hp9'' := e11 _ _ p9S hp9'
          obtain ⟨z0, hz0⟩ : ∃ z, (lampNs L8)[0]? = some z := ⟨_, List.getElem?_eq_getElem (by rw [List.length_map]; omega)⟩
          obtain ⟨zl, hzl⟩ : ∃ z, (lampNs L8)[L8.length - 1]? = some z := ⟨_, List.getElem?_eq_getElem (by rw [List.length_map]; omega)⟩
          walk_at "rdF"
          refine rd_ixQL hp9'' (atI_nat (i := 0) (by rw [List.getElem?_map, hz0]; rfl)) ?_
          walk_at "rdF"
          refine rd_seqL hp9'' ?_
          walk_at "rdF"
          rw [List.length_map, List.length_map, show (L8.length : Int) - 1 = ((L8.length - 1 : Nat) : Int) by omega]
          refine rd_ixQL hp9'' (atI_nat (by rw [List.getElem?_map, hzl]; rfl)) ?_
          walk_at "rdF"
          refine ⟨sz (by simp), fun p12 np12 => ?_⟩
          have s12 := same_new (o := .lst [.str z0, .str zl]) np12
          have hp12 := @upd_same H11 p12 (.lst [.str z0, .str zl])
          have p12S := I11.gd.ok.ne1 np12
          generalize upd H11 p12 (.lst [.str z0, .str zl]) = H12 at *
          have I12 := I11.same s12
          walk_at "rdF"
          obtain ⟨q, xq, rfl, qS, hq, rxq⟩ := (hov.ex I12.gd.ex).lstI
          obtain rfl := rxq.intsI
          have u12 := I12.uN
          refine ⟨S, p12, p11, q, [z0, zl], W, ns, rfl, I12.gd.ok, ⟨p12S, hp12⟩, ⟨hp11.1, s12 _ _ hp11.2⟩, ⟨qS, hq⟩, by simp, by omega, n0, n1, fun p13 Es H13 hE hW np13 hp13 hA hS13 e13 => ?_⟩
          have I13 := I12.st hS13 e13
          obtain ⟨xsn, hxn, _⟩ := I13.ln
          have okE : ∀ q ∈ Es.map (fun e => (⟨e.n, e.x, e.y, e.l, e.h⟩ : BR)), LsB m q := fun q hq => by
            obtain ⟨e, he, rfl⟩ := List.mem_map.mp hq
            have hz : ∀ z ∈ [z0, zl], OkS m z := fun z hz => by
              simp at hz
              rcases hz with rfl | rfl
              · obtain ⟨r, hr, e⟩ := List.mem_map.mp (List.mem_of_getElem? hz0)
                rw [← e]; exact (I8.okL r hr).n
              · obtain ⟨r, hr, e⟩ := List.mem_map.mp (List.mem_of_getElem? hzl)
                rw [← e]; exact (I8.okL r hr).n
            refine ⟨?_, hz _ (hE e he).x, hz _ (hE e he).y, .inl (hE e he).bl.op.1, .inl (hE e he).bh.op.1⟩
            rcases hW with rfl | hW
            · cases he
            · exact (OkS.nm (nmW _ (by rw [← hW]; exact List.mem_map_of_mem he))).mono (by omega)
          have lEs : Es.length ≤ 17 := by
            rcases hW with rfl | hW
            · simp
            · rw [← lW, ← hW, List.length_map]; omega
          refine rd_catX I13.re (edges_repU hE hp13 hA hxn (fun c => by
            obtain ⟨xs0, h0, _⟩ := I12.ln
            rw [c, h0] at np13; cases np13)) (by rw [List.length_map, List.length_map, List.length_map]; omega) fun p14 xs14 np14 r14 => ?_
          rw [← List.map_append] at r14
          have I14 := I13.newE np14 r14 fun q hq => (List.mem_append.mp hq).elim (I8.okB q) (okE q)
          generalize upd H13 p14 (.lst xs14) = H14 at *
          walk_at "rdF"
          refine rd_takeX (k := 20) I14.re fun p15 xs15 np15 r15 => ?_
          rw [← List.map_take] at r15
          have I15 := I14.newE np15 r15 fun q hq => I14.okB q (List.mem_of_mem_take hq)
          exact ⟨na, p15, L8, _, _, _, _, _, rfl, I15, l8, by rw [List.length_take]; omega⟩
        · walk_at "rdF"
          exact stay
      · walk_at "rdF"
        exact stay
    rintro σ9 H9 ⟨na, ea, L9, B9, y6, y7, y8, y9, rfl, I9, l9, lb9⟩
    clear I8
    walk_at "rdF"
    -- 7 to 11: a bond's row
    refine rd_cut (fun σ' H' => ∃ na ea L' B' y6 y7 y8 y9, σ' = [some (.ref S.1), some (.ref na), some (.ref ea), some ov, some (.int kind), some (.int at_), y6, y7, y8, y9, none, none, none] ∧ BwI S H na ea (m + 2) L' B' H' ∧ (L'.length ≤ 11 ∨ L'.length ≤ L.length + 1) ∧ B'.length ≤ 20) ?_ ?_
    · walk_at "rdF"
      have stay : ∃ na_1 ea_1 L' B' y6_1 y7_1 y8_1 y9_1, [some (V.ref S.1), some (.ref na), some (.ref ea), some ov, some (.int kind), some (.int at_), y6, y7, y8, y9, none, none, none] = [some (.ref S.1), some (.ref na_1), some (.ref ea_1), some ov, some (.int kind), some (.int at_), y6_1, y7_1, y8_1, y9_1, none, none, none] ∧ BwI S H na_1 ea_1 (m + 2) L' B' H9 ∧ (L'.length ≤ 11 ∨ L'.length ≤ L.length + 1) ∧ B'.length ≤ 20 := ⟨na, ea, L9, B9, _, _, _, _, rfl, I9.mono (by omega), l9, lb9⟩
      refine if_dec (fun hk => ?_) (fun hk => ?_)
      · walk_at "rdF"
        refine rep_len I9.re rfl fun xs rx => ?_
        have lx : xs.length = B9.length := by rw [rx.len]; exact List.length_map _
        walk_at "rdF"
        rw [lx]
        refine if_dec (fun h0 => ?_) (fun h0 => ?_)
        · walk_at "rdF"
          refine rep_len I9.re rfl fun xs2 rx2 => ?_
          have lx2 : xs2.length = B9.length := by rw [rx2.len]; exact List.length_map _
          walk_at "rdF"
          rw [lx2]
          refine ⟨S, _, rfl, by omega, I9.gd.ok, fun sp H10 s0 s1 hS10 e10 => ?_⟩
          obtain ⟨sp, rfl⟩ : ∃ a : Nat, sp = a := ⟨sp.toNat, by omega⟩
          have I10 := I9.st hS10 e10
          have sl : sp < B9.length := by omega
          obtain ⟨r, hr⟩ : ∃ r, B9[sp]? = some r := ⟨_, List.getElem?_eq_getElem sl⟩
          walk_at "rdF"
          refine ⟨S, _, _, B9, sp, r, ns, kind, m, rfl, I10.gd.ok, I10.re.less fun q u => u.1, hov.ex I10.gd.ex, hr, by omega, by omega, I9.okB, by omega, n0, n1, fun v r' H11 hv okr' _ g11 => ?_⟩
          have I11 := (I10.g g11).mono (m' := m + 2) (by omega)
          obtain ⟨xsn, hxn, _⟩ := I11.ln
          obtain ⟨ys11, hy11, ry11⟩ := I11.le
          have ly : ys11.length = B9.length := by rw [ry11.len, List.length_map]
          walk_at "rdF"
          refine rd_setL hy11 (j := sp) (by rw [ly, ixN_nat (by omega) (by omega)]; rfl) ?_
          walk_at "rdF"
          exact ⟨na, ea, L9, B9.set sp r', _, _, _, _, rfl, I11.setE hy11 (row_off hv okr' hxn hy11) okr', l9, by rw [List.length_set]; exact lb9⟩
        · walk_at "rdF"
          exact stay
      · walk_at "rdF"
        exact stay
    rintro σ10 H10 ⟨na, ea, L10, B10, y6, y7, y8, y9, rfl, I10, l10, lb10⟩
    walk_at "rdF"
    refine ⟨sz (by simp), fun p np => ?_⟩
    have s := same_new (o := .lst [.ref na, .ref ea]) np
    refine h _ L10 B10 _ (.lst (I10.gd.ok.ne1 np) upd_same (.cons ((I10.rn.less fun q u => u.1).same s) (.cons ((I10.re.less fun q u => u.1).same s) .nil))) I10.okL I10.okB l10 lb10 (I10.gd.trans (.same I10.gd.ok s))
end
set_option maxHeartbeats 1000000
abbrev s_law_web_due : Stmt := topS 65
theorem sc_law_web_due : FnScope ["nodes", "edges", "posts", "labels", "name", "values", "edge", "value", "told", "end", "node"] ["nodes", "edges"] (defScope s_law_web_due) := ⟨rfl, rfl, rfl, by decide +kernel, rfl, by decide +kernel, by decide +kernel⟩
section
variable {P : Program} {w : World} {K : PySem.W.Frag} {mg : Str → Option Value} {base : Heap}
def errL : PErr → List PyData
  | .name z => [.str "BadName", .str z]
  | .num v => [.str "BadNumber", vD v]
  | .span l h => [.str "BadSpan", vD l, vD h]
  | .dbl z => [.str "Doubled", .str z]
  | .self z => [.str "SelfBond", .str z]
  | .unk z => [.str "Unknown", .str z]
  | .range n l h => [.str "OutOfRange", .int n, .int l, .int h]
theorem vals1 {L : List (Str × V)} : (kids (.list (L.map lampD))).map (fun e => (kids e).getD 1 .none) = (numsOf L []).map vD := by
  show (L.map lampD).map _ = _
  unfold numsOf
  rw [List.flatMap_nil, List.append_nil, List.map_map, List.map_map]; rfl
theorem take_num {L : List (Str × V)} {B : List BR} {i : Nat} {r : BR} (h : B[i]? = some r) : numsOf L (B.take (i + 1)) = numsOf L (B.take i) ++ [r.l, r.h] := by
  unfold numsOf
  rw [take_succ h, List.flatMap_append, ← List.append_assoc]; simp
theorem take_end {B : List BR} {i : Nat} {r : BR} (h : B[i]? = some r) : endsOf (B.take (i + 1)) = endsOf (B.take i) ++ [r.x, r.y] := by
  unfold endsOf
  rw [take_succ h, List.flatMap_append]; simp
theorem end_first {N : List Str} {B : List BR} {i : Nat} {r : BR} (h : B[i]? = some r) (ho : ∀ z ∈ endsOf (B.take i), z ∈ N) :
    (r.x ∉ N → First (fun z => z ∉ N) (endsOf B) r.x) ∧ (r.x ∈ N → r.y ∉ N → First (fun z => z ∉ N) (endsOf B) r.y) := by
  obtain ⟨hl, e1⟩ := List.getElem?_eq_some_iff.mp h
  have eB : B = B.take i ++ r :: B.drop (i + 1) := by rw [← e1]; simp
  have eE : endsOf B = endsOf (B.take i) ++ r.x :: r.y :: endsOf (B.drop (i + 1)) := by
    conv => lhs; rw [eB]
    unfold endsOf; simp
  refine ⟨fun hb => ⟨_, _, eE, fun u hu => by simpa using ho u hu, hb⟩, fun ha hb => ⟨endsOf (B.take i) ++ [r.x], endsOf (B.drop (i + 1)), by rw [eE]; simp, fun u hu => ?_, hb⟩⟩
  rcases List.mem_append.mp hu with q | q
  · simpa using ho u q
  · rw [List.mem_singleton.mp q]; simpa using ha
def spDueW : Sp := fun vs H Q _ => ∃ (nv ev : V) (L : List (Str × V)) (B : List BR) (m : Nat), vs = [nv, ev] ∧ R H nv (.list (L.map lampD)) ∧ R H ev (.list (B.map BR.d)) ∧ m ≤ 900 ∧ (∀ q ∈ L, LsL m q) ∧ (∀ q ∈ B, LsB m q) ∧ L.length ≤ 100 ∧ B.length ≤ 100 ∧
  (Right L B → ∀ H', Same H H' → Q .non H') ∧ ∀ (e : PErr) (v : V) (H' : Hp), Wrong L B e → Same H H' → R H' v (.tuple (errL e)) → Q v H'
theorem ok_web_due {k : Nat} {f : Addr} {fd : FuncData} (F : Fun K "_law_web_due" "_law_web_due" s_law_web_due f fd) (T : Blt mg) (H_law_is_name : Has P w K mg base "_law_is_name" k ["text"] spIsName) (H_law_is_number : Has P w K mg base "_law_is_number" k ["value"] spIsNum) (H_law_first_double : Has P w K mg base "_law_first_double" k ["items"] spDouble) : FnOk P w K mg base CX0 (k + 1) f fd ["nodes", "edges"] spDueW := by
  refine F.ok sc_law_web_due (fun vs H Q E h => ?_) (fun cdv A outer s H vs Q E hr h => ?_)
  · obtain ⟨nv, ev, L, B, m, rfl, _⟩ := h; rfl
  · obtain ⟨nv, ev, L, B, m, rfl, hn, he, m9, okL, okB, lL, lB, hgood, hbad⟩ := h
    refine ⟨_, (pss_cons (ps_setLc (i := 2) (own := [("node", 10)]) (g := (gName 10)) (by rfl) sc_law_web_due.nd rfl rfl (sw_true rfl rfl rfl (by decide +kernel)) (pi_seq (pv 0)) (blkOk_by (own := [("node", 10)]) (N := ["nodes", "edges", "posts", "labels", "name", "values", "edge", "value", "told", "end", "node"]) (sc := defScope s_law_web_due) (by decide +kernel)) (fun _ _ _ _ _ => (pg_name (i := 10) sc_law_web_due.nd rfl (.inl rfl))) (fun _ _ _ _ _ => pts_nil) (fun _ _ _ _ _ => (pe_ix (ix_seqR (K := K) rfl) (pv 10) pe_int (fun _ _ => rfl))))
 (pss_cons (ps_setLc (i := 3) (own := [("edge", 6)]) (g := (gName 6)) (by rfl) sc_law_web_due.nd rfl rfl (sw_true rfl rfl rfl (by decide +kernel)) (pi_seq (pv 1)) (blkOk_by (own := [("edge", 6)]) (N := ["nodes", "edges", "posts", "labels", "name", "values", "edge", "value", "told", "end", "node"]) (sc := defScope s_law_web_due) (by decide +kernel)) (fun _ _ _ _ _ => (pg_name (i := 6) sc_law_web_due.nd rfl (.inl rfl))) (fun _ _ _ _ _ => pts_nil) (fun _ _ _ _ _ => (pe_ix (ix_seqR (K := K) rfl) (pv 6) pe_int (fun _ _ => rfl))))
 (C8.pss_cut (ps_for PassesOwn.never rfl (pi_seq (pe_op op_cat (pv 2) (pv 3))) (pg_name (i := 4) sc_law_web_due.nd rfl (.inl rfl)) (pss_one (ps_if (pt_not (pt_val (pe_callH H_law_is_name hr (by rfl) (pa_cons (pv 4) pa_nil)))) (pss_one (ps_ret (pe_tup (pa_cons pe_str (pa_cons (pv 4) pa_nil))))) pss_nil)))
 (C8.pss_cut (ps_setLc (i := 5) (own := [("node", 10)]) (g := (gName 10)) (by rfl) sc_law_web_due.nd rfl rfl (sw_true rfl rfl rfl (by decide +kernel)) (pi_seq (pv 0)) (blkOk_by (own := [("node", 10)]) (N := ["nodes", "edges", "posts", "labels", "name", "values", "edge", "value", "told", "end", "node"]) (sc := defScope s_law_web_due) (by decide +kernel)) (fun _ _ _ _ _ => (pg_name (i := 10) sc_law_web_due.nd rfl (.inl rfl))) (fun _ _ _ _ _ => pts_nil) (fun _ _ _ _ _ => (pe_ix (ix_seqR (K := K) rfl) (pv 10) pe_int (fun _ _ => rfl))))
 (C8.pss_cut (ps_for PassesOwn.never rfl (pi_seq (pv 1)) (pg_name (i := 6) sc_law_web_due.nd rfl (.inl rfl)) (pss_one (ps_set (i := 5) sc_law_web_due.nd rfl (.inl rfl) (pe_op op_cat (pv 5) (pe_lst (pa_cons (pe_ix (ix_seqR (K := K) rfl) (pv 6) pe_int (fun _ _ => rfl)) (pa_cons (pe_ix (ix_seqR (K := K) rfl) (pv 6) pe_int (fun _ _ => rfl)) pa_nil)))))))
 (C8.pss_cut (ps_for PassesOwn.never rfl (pi_seq (pv 5)) (pg_name (i := 7) sc_law_web_due.nd rfl (.inl rfl)) (pss_one (ps_if (PW.pt (pw_and (pt_cmpR op_notN (pv 7) pe_non (nomark _)) (pw_and1 (pt_not (pt_val (pe_callH H_law_is_number hr (by rfl) (pa_cons (pv 7) pa_nil))))))) (pss_one (ps_ret (pe_tup (pa_cons pe_str (pa_cons (pv 7) pa_nil))))) pss_nil)))
 (C8.pss_cut (ps_for PassesOwn.never rfl (pi_seq (pv 1)) (pg_name (i := 6) sc_law_web_due.nd rfl (.inl rfl)) (pss_one (ps_if (PW.pt (pw_and (pt_cmpR op_notN (pe_ix (ix_seqR (K := K) rfl) (pv 6) pe_int (fun _ _ => rfl)) pe_non (nomark _)) (pw_and (pt_cmpR op_notN (pe_ix (ix_seqR (K := K) rfl) (pv 6) pe_int (fun _ _ => rfl)) pe_non (nomark _)) (pw_and1 (pt_cmpR op_gt (pe_ix (ix_seqR (K := K) rfl) (pv 6) pe_int (fun _ _ => rfl)) (pe_ix (ix_seqR (K := K) rfl) (pv 6) pe_int (fun _ _ => rfl)) (nomark _)))))) (pss_one (ps_ret (pe_tup (pa_cons pe_str (pa_cons (pe_ix (ix_seqR (K := K) rfl) (pv 6) pe_int (fun _ _ => rfl)) (pa_cons (pe_ix (ix_seqR (K := K) rfl) (pv 6) pe_int (fun _ _ => rfl)) pa_nil)))))) pss_nil)))
 (C8.pss_cut (ps_for PassesOwn.never rfl (pi_seq (pe_lst (pa_cons (pv 2) (pa_cons (pv 3) pa_nil)))) (pg_name (i := 8) sc_law_web_due.nd rfl (.inl rfl)) (pss_one (ps_if (pt_cmpR op_notN (pe_callH H_law_first_double hr (by rfl) (pa_cons (pv 8) pa_nil)) pe_non (nomark _)) (pss_one (ps_ret (pe_tup (pa_cons pe_str (pa_cons (pe_callH H_law_first_double hr (by rfl) (pa_cons (pv 8) pa_nil)) pa_nil))))) pss_nil)))
 (C8.pss_cut (ps_for PassesOwn.never rfl (pi_seq (pv 1)) (pg_name (i := 6) sc_law_web_due.nd rfl (.inl rfl)) (pss_one (ps_if (pt_cmpR op_eq (pe_ix (ix_seqR (K := K) rfl) (pv 6) pe_int (fun _ _ => rfl)) (pe_ix (ix_seqR (K := K) rfl) (pv 6) pe_int (fun _ _ => rfl)) (nomark _)) (pss_one (ps_ret (pe_tup (pa_cons pe_str (pa_cons (pe_ix (ix_seqR (K := K) rfl) (pv 6) pe_int (fun _ _ => rfl)) pa_nil))))) pss_nil)))
 (C8.pss_cut (ps_for PassesOwn.never rfl (pi_seq (pv 1)) (pg_name (i := 6) sc_law_web_due.nd rfl (.inl rfl)) (pss_one (ps_for PassesOwn.never rfl (pi_seq (pe_lst (pa_cons (pe_ix (ix_seqR (K := K) rfl) (pv 6) pe_int (fun _ _ => rfl)) (pa_cons (pe_ix (ix_seqR (K := K) rfl) (pv 6) pe_int (fun _ _ => rfl)) pa_nil)))) (pg_name (i := 9) sc_law_web_due.nd rfl (.inl rfl)) (pss_one (ps_if (pt_cmpR (op_notin_seqR (K := K) rfl) (pv 9) (pv 2) (by rfl)) (pss_one (ps_ret (pe_tup (pa_cons pe_str (pa_cons (pv 9) pa_nil))))) pss_nil)))))
 (pss_cons (ps_if (PW.pt (pw_or (pt_cmpR op_lt (pe_callB call_len_seq (by rfl) T.len (by decide +kernel) (pa_cons (pv 0) pa_nil)) pe_int (nomark _)) (pw_or1 (pt_cmpR op_gt (pe_callB call_len_seq (by rfl) T.len (by decide +kernel) (pa_cons (pv 0) pa_nil)) pe_int (nomark _))))) (pss_one (ps_ret (pe_tup (pa_cons pe_str (pa_cons (pe_callB call_len_seq (by rfl) T.len (by decide +kernel) (pa_cons (pv 0) pa_nil)) (pa_cons pe_int (pa_cons pe_int pa_nil))))))) pss_nil)
 (pss_cons (ps_if (pt_cmpR op_gt (pe_callB call_len_seq (by rfl) T.len (by decide +kernel) (pa_cons (pv 1) pa_nil)) pe_int (nomark _)) (pss_one (ps_ret (pe_tup (pa_cons pe_str (pa_cons (pe_callB call_len_seq (by rfl) T.len (by decide +kernel) (pa_cons (pv 1) pa_nil)) (pa_cons pe_int (pa_cons pe_int pa_nil))))))) pss_nil)
 (pss_one (ps_ret pe_non)))))))))))))), ?_⟩
    walk_at "rdF"
    refine lc_seq (U := fun _ => True) (fun ds => ds.map fun e => (kids e).getD 0 .none) (fun _ => True) (.inl (hn)) rfl (fun _ _ => trivial) rfl (fun _ _ => trivial) (fun D j x e H' uD nD he hx hI => ?_) ?_
    · have he' : (L.map lampD)[j]? = some e := he
      rw [List.getElem?_map] at he'
      cases qi : L[j]? with
      | none => rw [qi] at he'; cases he'
      | some b =>
        rw [qi] at he'
        cases he'
        refine ⟨by walk_at "wiped", ?_⟩
        walk_at "rdF"
        refine rep_ix hx rfl (by decide) rfl fun u hu => ?_
        refine hI.put .refl trivial nD (fun _ => trivial) hu ?_ ?_
        · rw [List.length_map, List.length_take]
          show min j (L.map lampD).length < _
          rw [List.length_map]; omega
        · rw [take_succ he, List.map_append]; rfl
    rintro p1 acc1 H1 e1 _ np1 hp1 hacc1 _
    rw [headsL] at hacc1
    obtain rfl := hacc1.strsI
    have s1 := e1.toSame
    walk_at "rdF"
    refine lc_seq (U := fun _ => True) (fun ds => ds.map fun e => (kids e).getD 0 .none) (fun _ => True) (.inl (he.same s1)) rfl (fun _ _ => trivial) rfl (fun _ _ => trivial) (fun D j x e H' uD nD he hx hI => ?_) ?_
    · have he' : (B.map BR.d)[j]? = some e := he
      rw [List.getElem?_map] at he'
      cases qi : B[j]? with
      | none => rw [qi] at he'; cases he'
      | some b =>
        rw [qi] at he'
        cases he'
        refine ⟨by walk_at "wiped", ?_⟩
        walk_at "rdF"
        refine rep_ix hx rfl (by decide) rfl fun u hu => ?_
        refine hI.put .refl trivial nD (fun _ => trivial) hu ?_ ?_
        · rw [List.length_map, List.length_take]
          show min j (B.map BR.d).length < _
          rw [List.length_map]; omega
        · rw [take_succ he, List.map_append]; rfl
    rintro p2 acc2 H2 e2 _ np2 hp2 hacc2 _
    rw [headsB] at hacc2
    obtain rfl := hacc2.strsI
    have s2 := s1.trans e2.toSame
    have k1 : R H2 (.ref p1) (.list ((lampNs L).map PyData.str)) := .lst trivial (e2.toSame _ _ hp1) .strs
    have k2 : R H2 (.ref p2) (.list ((bondNs B).map PyData.str)) := .lst trivial hp2 .strs
    have hn2 := hn.same s2
    have he2 := he.same s2
    clear e1 e2 hp1 hp2 np1 np2 hacc1 hacc2 hn he
    walk_at "rdF"
    -- names
    refine rd_cut (fun σ' H' => ∃ y4, σ' = [some nv, some ev, some (.ref p1), some (.ref p2), y4, none, none, none, none, none, none] ∧ Same H2 H' ∧ Right1 L B) ?_ ?_
    · walk_at "rdF"
      refine rd_cat k1 k2 (by rw [List.length_map, List.length_map, List.length_map, List.length_map]; omega) (fun _ _ => trivial) fun p3 H3 s3 np3 k3 => ?_
      rw [← List.map_append] at k3
      refine for_seqR (U := fun _ => True) (.inl k3) rfl (fun i σ H' => ∃ y4, σ = [some nv, some ev, some (.ref p1), some (.ref p2), y4, none, none, none, none, none, none] ∧ Same H3 H' ∧ ∀ z ∈ (lampNs L ++ bondNs B).take i, isNm z = true) ⟨_, rfl, .refl _, by simp⟩ (fun i σ H' h => ?_) ?_ ?_
      · obtain ⟨_, _, s, _⟩ := h; exact .same s
      · rintro i x e σ H' he' hx ⟨y4, rfl, sm, ho⟩
        have he' : ((lampNs L ++ bondNs B).map PyData.str)[i]? = some e := he'
        rw [List.getElem?_map] at he'
        cases qi : (lampNs L ++ bondNs B)[i]? with
        | none => rw [qi] at he'; cases he'
        | some z =>
          rw [qi] at he'
          cases he'
          cases hx.strI
          have lz : z.length ≤ 1000 := by
            rcases List.mem_append.mp (List.mem_of_getElem? qi) with q | q
            · obtain ⟨r, hr, rfl⟩ := List.mem_map.mp q
              have := (okL r hr).n.len; omega
            · obtain ⟨r, hr, rfl⟩ := List.mem_map.mp q
              have := (okB r hr).n.len; omega
          walk_at "rdF"
          refine ⟨z, rfl, lz, fun H4 s4 => ?_⟩
          walk_at "rdF"
          refine if_nbool (fun hz => ?_) (fun hz => ?_)
          · walk_at "rdF"
            refine ⟨sz (by simp), fun p np => ?_⟩
            have sn := same_new (o := .tup [V.str "BadName", .str z]) np
            exact hbad (.name z) _ _ (.name (first_list qi (fun q hq => by simp [ho q hq]) hz)) ((((s2.trans s3).trans sm).trans s4).trans sn) (.tup trivial upd_same (.cons (.str _) (.cons (.str _) .nil)))
          · walk_at "rdF"
            exact ⟨_, rfl, sm.trans s4, take_all qi ho hz⟩
      · rintro σ H' ⟨y4, rfl, sm, ho⟩
        rw [show (kids (PyData.list ((lampNs L ++ bondNs B).map PyData.str))).length = (lampNs L ++ bondNs B).length from List.length_map _, List.take_length] at ho
        exact ⟨_, rfl, s3.trans sm, ⟨ho⟩⟩
    rintro σ3 H3 ⟨y4, rfl, s3, R1⟩
    have hn3 := hn2.same s3
    have he3 := he2.same s3
    replace k1 := k1.same s3
    replace k2 := k2.same s3
    have sH := s2.trans s3
    clear s2 s3 s1 hn2 he2
    walk_at "rdF"
    -- numbers
    refine rd_cut (fun σ' H' => ∃ (p5 : Addr), σ' = [some nv, some ev, some (.ref p1), some (.ref p2), y4, some (.ref p5), none, none, none, none, none] ∧ Same H3 H' ∧ R H' (.ref p5) (.list ((numsOf L []).map vD))) ?_ ?_
    · walk_at "rdF"
      refine lc_seq (U := fun _ => True) (fun ds => ds.map fun e => (kids e).getD 1 .none) (fun _ => True) (.inl (hn3)) rfl (fun _ _ => trivial) rfl (fun _ _ => trivial) (fun D j x e H' uD nD he hx hI => ?_) ?_
      · have he' : (L.map lampD)[j]? = some e := he
        rw [List.getElem?_map] at he'
        cases qi : L[j]? with
        | none => rw [qi] at he'; cases he'
        | some b =>
          rw [qi] at he'
          cases he'
          refine ⟨by walk_at "wiped", ?_⟩
          walk_at "rdF"
          refine rep_ix hx rfl (by decide) rfl fun u hu => ?_
          refine hI.put .refl trivial nD (fun _ => trivial) hu ?_ ?_
          · rw [List.length_map, List.length_take]
            show min j (L.map lampD).length < _
            rw [List.length_map]; omega
          · rw [take_succ he, List.map_append]; rfl
      rintro p5 acc H4 e4 _ np5 hp5 hacc _
      rw [vals1] at hacc
      walk_at "rdF"
      exact ⟨p5, rfl, e4.toSame, .lst trivial hp5 (hacc.less fun _ _ => trivial)⟩
    rintro σ4 H4 ⟨p5, rfl, s4, k5⟩
    replace hn3 := hn3.same s4
    replace he3 := he3.same s4
    replace k1 := k1.same s4
    replace k2 := k2.same s4
    replace sH := sH.trans s4
    walk_at "rdF"
    refine rd_cut (fun σ' H' => ∃ (p5 : Addr) (y6 : Option V), σ' = [some nv, some ev, some (.ref p1), some (.ref p2), y4, some (.ref p5), y6, none, none, none, none] ∧ Same H4 H' ∧ R H' (.ref p5) (.list ((numsOf L B).map vD))) ?_ ?_
    · walk_at "rdF"
      refine for_seqR (U := fun _ => True) (.inl he3) rfl (fun i σ H' => ∃ (p5 : Addr) (y6 : Option V), σ = [some nv, some ev, some (.ref p1), some (.ref p2), y4, some (.ref p5), y6, none, none, none, none] ∧ Same H4 H' ∧ R H' (.ref p5) (.list ((numsOf L (B.take i)).map vD))) ⟨p5, _, rfl, .refl _, by rw [List.take_zero]; exact k5⟩ (fun i σ H' h => ?_) ?_ ?_
      · obtain ⟨_, _, _, s, _⟩ := h; exact .same s
      · rintro i x e σ H' he' hx ⟨p5, y6, rfl, sm, k5⟩
        have he' : (B.map BR.d)[i]? = some e := he'
        rw [List.getElem?_map] at he'
        cases qi : B[i]? with
        | none => rw [qi] at he'; cases he'
        | some r =>
          rw [qi] at he'
          cases he'
          have okr := okB r (List.mem_of_getElem? qi)
          have li := (List.getElem?_eq_some_iff.mp qi).1
          walk_at "rdF"
          refine rep_ix hx rfl (by decide) rfl fun u hu => ?_
          cases hu.scI okr.l.sc
          walk_at "rdF"
          refine rep_ix hx rfl (by decide) rfl fun u hu => ?_
          cases hu.scI okr.h.sc
          walk_at "rdF"
          refine ⟨sz (by simp), fun q nq => ?_⟩
          obtain ⟨s6, k6⟩ := new_lst (U := fun _ => True) (vs := [r.l, r.h]) (ds := [r.l, r.h].map vD) nq trivial (.cons (.sc okr.l.sc) (.cons (.sc okr.h.sc) .nil))
          generalize upd H' q (.lst [r.l, r.h]) = H6 at *
          walk_at "rdF"
          refine rd_cat (k5.same s6) k6 (by
            rw [List.length_map, List.length_map]
            have : (numsOf L (B.take i)).length = L.length + 2 * (B.take i).length := by
              unfold numsOf
              rw [List.length_append, List.length_map]
              congr 1
              induction B.take i with
              | nil => rfl
              | cons b bs ih => simp only [List.flatMap_cons, List.length_append, ih]; simp; omega
            rw [this, List.length_take]; simp; omega) (fun _ _ => trivial) fun p7 H7 s7 np7 k7 => ?_
          rw [← List.map_append, ← take_num qi] at k7
          exact ⟨p7, _, rfl, (sm.trans s6).trans s7, k7⟩
      · rintro σ H' ⟨p5, y6, rfl, sm, k5⟩
        rw [show (kids (PyData.list (B.map BR.d))).length = B.length from List.length_map _, List.take_length] at k5
        exact ⟨p5, _, rfl, sm, k5⟩
    rintro σ5 H5 ⟨p5, y6, rfl, s5, k5⟩
    replace hn3 := hn3.same s5
    replace he3 := he3.same s5
    replace k1 := k1.same s5
    replace k2 := k2.same s5
    replace sH := sH.trans s5
    clear s4 s5
    walk_at "rdF"
    have nb : ∀ v ∈ numsOf L B, NB v := fun v hv => by
      rcases List.mem_append.mp hv with q | q
      · obtain ⟨r, hr, rfl⟩ := List.mem_map.mp q
        exact (okL r hr).v
      · obtain ⟨r, hr, hv⟩ := List.mem_flatMap.mp q
        simp at hv
        rcases hv with rfl | rfl
        · exact (okB r hr).l
        · exact (okB r hr).h
    refine rd_cut (fun σ' H' => ∃ (y7 : Option V), σ' = [some nv, some ev, some (.ref p1), some (.ref p2), y4, some (.ref p5), y6, y7, none, none, none] ∧ Same H5 H' ∧ Right2 L B) ?_ ?_
    · walk_at "rdF"
      refine for_seqR (U := fun _ => True) (.inl k5) rfl (fun i σ H' => ∃ (y7 : Option V), σ = [some nv, some ev, some (.ref p1), some (.ref p2), y4, some (.ref p5), y6, y7, none, none, none] ∧ Same H5 H' ∧ ∀ v ∈ (numsOf L B).take i, isOpen v = true) ⟨_, rfl, .refl _, by simp⟩ (fun i σ H' h => ?_) ?_ ?_
      · obtain ⟨_, _, s, _⟩ := h; exact .same s
      · rintro i x e σ H' he' hx ⟨y7, rfl, sm, ho⟩
        have he' : ((numsOf L B).map vD)[i]? = some e := he'
        rw [List.getElem?_map] at he'
        cases qi : (numsOf L B)[i]? with
        | none => rw [qi] at he'; cases he'
        | some v =>
          rw [qi] at he'
          cases he'
          have nv' := nb v (List.mem_of_getElem? qi)
          cases hx.scI nv'.sc
          walk_at "rdF"
          rcases nv' with (rfl | ⟨n, rfl⟩) | ⟨b, rfl⟩
          · rw [if_neg (by simp)]
            walk_at "rdF"
            exact ⟨_, rfl, sm, take_all qi ho rfl⟩
          · rw [if_pos (by simp)]
            walk_at "rdF"
            refine ⟨_, rfl, trivial, ?_⟩
            walk_at "rdF"
            refine if_nbool (fun hz => ?_) (fun hz => ?_)
            · walk_at "rdF"
              refine ⟨sz (by simp), fun p np => ?_⟩
              have sn := same_new (o := .tup [V.str "BadNumber", .int n]) np
              exact hbad (.num (.int n)) _ _ (.num R1 (first_list qi (fun q hq => by simp [ho q hq]) hz)) ((sH.trans sm).trans sn) (.tup trivial upd_same (.cons (.str _) (.cons (.int _) .nil)))
            · walk_at "rdF"
              exact ⟨_, rfl, sm, take_all qi ho hz⟩
          · rw [if_pos (by simp)]
            walk_at "rdF"
            refine ⟨_, rfl, trivial, ?_⟩
            walk_at "rdF"
            refine if_nbool (fun _ => ?_) (fun hz => by cases hz)
            walk_at "rdF"
            refine ⟨sz (by simp), fun p np => ?_⟩
            have sn := same_new (o := .tup [V.str "BadNumber", .bl b]) np
            exact hbad (.num (.bl b)) _ _ (.num R1 (first_list qi (fun q hq => by simp [ho q hq]) rfl)) ((sH.trans sm).trans sn) (.tup trivial upd_same (.cons (.str _) (.cons (.bl _) .nil)))
      · rintro σ H' ⟨y7, rfl, sm, ho⟩
        rw [show (kids (PyData.list ((numsOf L B).map vD))).length = (numsOf L B).length from List.length_map _, List.take_length] at ho
        exact ⟨_, rfl, sm, ⟨R1, ho⟩⟩
    rintro σ6 H6 ⟨y7, rfl, s6, R2⟩
    replace hn3 := hn3.same s6
    replace he3 := he3.same s6
    replace k1 := k1.same s6
    replace k2 := k2.same s6
    replace sH := sH.trans s6
    clear s6 k5
    walk_at "rdF"
    -- spans
    refine rd_cut (fun σ' H' => ∃ (y6 : Option V), σ' = [some nv, some ev, some (.ref p1), some (.ref p2), y4, some (.ref p5), y6, y7, none, none, none] ∧ Same H6 H' ∧ Right3 L B) ?_ ?_
    · walk_at "rdF"
      refine for_seqR (U := fun _ => True) (.inl he3) rfl (fun i σ H' => ∃ (y6 : Option V), σ = [some nv, some ev, some (.ref p1), some (.ref p2), y4, some (.ref p5), y6, y7, none, none, none] ∧ Same H6 H' ∧ ∀ r ∈ B.take i, crossed r.l r.h = false) ⟨_, rfl, .refl _, by simp⟩ (fun i σ H' h => ?_) ?_ ?_
      · obtain ⟨_, _, s, _⟩ := h; exact .same s
      · rintro i x e σ H' he' hx ⟨y6, rfl, sm, ho⟩
        have he' : (B.map BR.d)[i]? = some e := he'
        rw [List.getElem?_map] at he'
        cases qi : B[i]? with
        | none => rw [qi] at he'; cases he'
        | some r =>
          rw [qi] at he'
          cases he'
          have hr := List.mem_of_getElem? qi
          have okr := okB r hr
          have nl : NI r.l := isOpen_NI (R2.num _ (List.mem_append.mpr (.inr (List.mem_flatMap.mpr ⟨r, hr, by simp⟩))))
          have nh : NI r.h := isOpen_NI (R2.num _ (List.mem_append.mpr (.inr (List.mem_flatMap.mpr ⟨r, hr, by simp⟩))))
          walk_at "rdF"
          refine rep_ix hx rfl (by decide) rfl fun u hu => ?_
          cases hu.scI okr.l.sc
          rcases nl with hl | ⟨a, hl⟩
          · rw [hl]
            walk_at "rdF"
            exact ⟨_, rfl, sm, take_all qi ho (by rw [hl]; rfl)⟩
          · rw [hl]
            walk_at "rdF"
            refine rep_ix hx rfl (by decide) rfl fun u hu => ?_
            cases hu.scI okr.h.sc
            rcases nh with hh | ⟨b, hh⟩
            · rw [hh]
              walk_at "rdF"
              exact ⟨_, rfl, sm, take_all qi ho (by rw [hl, hh]; rfl)⟩
            · rw [hh]
              walk_at "rdF"
              refine rep_ix hx rfl (by decide) rfl fun u hu => ?_
              cases hu.scI okr.l.sc
              rw [hl]
              walk_at "rdF"
              refine rep_ix hx rfl (by decide) rfl fun u hu => ?_
              cases hu.scI okr.h.sc
              rw [hh]
              walk_at "rdF"
              refine if_dec (fun hz => ?_) (fun hz => ?_)
              · walk_at "rdF"
                refine rep_ix hx rfl (by decide) rfl fun u hu => ?_
                cases hu.scI okr.l.sc
                walk_at "rdF"
                refine rep_ix hx rfl (by decide) rfl fun u hu => ?_
                cases hu.scI okr.h.sc
                walk_at "rdF"
                refine ⟨sz (by simp), fun p np => ?_⟩
                have sn := same_new (o := .tup [V.str "BadSpan", r.l, r.h]) np
                exact hbad (.span r.l r.h) _ _ (.span R2 (first_at qi (fun q hq => by simp [ho q hq]) (by rw [hl, hh]; exact decide_eq_true hz))) ((sH.trans sm).trans sn) (.tup trivial upd_same (.cons (.str _) (.cons (.sc okr.l.sc) (.cons (.sc okr.h.sc) .nil))))
              · walk_at "rdF"
                exact ⟨_, rfl, sm, take_all qi ho (by rw [hl, hh]; exact decide_eq_false hz)⟩
      · rintro σ H' ⟨y6, rfl, sm, ho⟩
        rw [show (kids (PyData.list (B.map BR.d))).length = B.length from List.length_map _, List.take_length] at ho
        exact ⟨_, rfl, sm, ⟨R2, ho⟩⟩
    rintro σ7 H7 ⟨y6, rfl, s7, R3⟩
    replace hn3 := hn3.same s7
    replace he3 := he3.same s7
    replace k1 := k1.same s7
    replace k2 := k2.same s7
    replace sH := sH.trans s7
    clear s7
    walk_at "rdF"
    -- doubles
    refine rd_cut (fun σ' H' => ∃ (y8 : Option V), σ' = [some nv, some ev, some (.ref p1), some (.ref p2), y4, some (.ref p5), y6, y7, y8, none, none] ∧ Same H7 H' ∧ Right5 L B) ?_ ?_
    · walk_at "rdF"
      refine ⟨sz (by simp), fun q nq => ?_⟩
      have sq := same_new (o := .lst [V.ref p1, .ref p2]) nq
      have kq : R (upd H7 q (.lst [V.ref p1, .ref p2])) (.ref q) (.list [.list ((lampNs L).map PyData.str), .list ((bondNs B).map PyData.str)]) := .lst trivial upd_same (.cons (k1.same sq) (.cons (k2.same sq) .nil))
      generalize upd H7 q (.lst [V.ref p1, .ref p2]) = H71 at *
      refine for_seqR (U := fun _ => True) (.inl kq) rfl (fun j σ H' => ∃ (y8 : Option V), σ = [some nv, some ev, some (.ref p1), some (.ref p2), y4, some (.ref p5), y6, y7, y8, none, none] ∧ Same H71 H' ∧ (1 ≤ j → (lampNs L).Nodup) ∧ (2 ≤ j → (bondNs B).Nodup)) ⟨_, rfl, .refl _, (fun h => by omega), (fun h => by omega)⟩ (fun i σ H' h => ?_) ?_ ?_
      · obtain ⟨_, _, s, _⟩ := h; exact .same s
      · rintro j x e σ H' he' hx ⟨y8, rfl, sm, hd1, hd2⟩
        obtain ⟨UL, hUL, lUL, hw, hg⟩ : ∃ UL : List Str, R H' x (.list (UL.map PyData.str)) ∧ UL.length ≤ 1000 ∧ (∀ z, firstDup [] UL = some z → Wrong L B (.dbl z)) ∧ (UL.Nodup → (1 ≤ j + 1 → (lampNs L).Nodup) ∧ (2 ≤ j + 1 → (bondNs B).Nodup)) := by
          match j, he' with
          | 0, he' =>
            cases he'
            exact ⟨lampNs L, hx, by rw [List.length_map]; omega, fun z hz => .dblL R3 hz, fun nd => ⟨fun _ => nd, fun h => by omega⟩⟩
          | 1, he' =>
            cases he'
            exact ⟨bondNs B, hx, by rw [List.length_map]; omega, fun z hz => .dblB ⟨R3, hd1 (by omega)⟩ hz, fun nd => ⟨fun _ => hd1 (by omega), fun _ => nd⟩⟩
          | j + 2, he' => cases he'
        walk_at "rdF"
        refine ⟨x, UL, rfl, hUL, lUL, fun H2 s2 => ?_⟩
        cases q : firstDup [] UL with
        | none =>
          have e : dupV UL = .non := by unfold dupV; rw [q]
          rw [e]
          walk_at "rdF"
          obtain ⟨g1, g2⟩ := hg (dup_none'.mp q)
          exact ⟨_, rfl, sm.trans s2, g1, g2⟩
        | some z =>
          have e : dupV UL = .str z := by unfold dupV; rw [q]
          rw [e]
          walk_at "rdF"
          refine ⟨x, UL, rfl, hUL.same s2, lUL, fun H3 s3 => ?_⟩
          rw [e]
          walk_at "rdF"
          refine ⟨sz (by simp), fun p np => ?_⟩
          have sn := same_new (o := .tup [V.str "Doubled", .str z]) np
          exact hbad (.dbl z) _ _ (hw z q) (((((sH.trans sq).trans sm).trans s2).trans s3).trans sn) (.tup trivial upd_same (.cons (.str _) (.cons (.str _) .nil)))
      · rintro σ H' ⟨y8, rfl, sm, hd1, hd2⟩
        exact ⟨_, rfl, sq.trans sm, ⟨⟨R3, hd1 (show 1 ≤ 2 by omega)⟩, hd2 (show 2 ≤ 2 by omega)⟩⟩
    rintro σ8 H8 ⟨y8, rfl, s8, R5⟩
    replace hn3 := hn3.same s8
    replace he3 := he3.same s8
    replace k1 := k1.same s8
    replace k2 := k2.same s8
    replace sH := sH.trans s8
    clear s8
    walk_at "rdF"
    -- bonds with one lamp
    refine rd_cut (fun σ' H' => ∃ (y6 : Option V), σ' = [some nv, some ev, some (.ref p1), some (.ref p2), y4, some (.ref p5), y6, y7, y8, none, none] ∧ Same H8 H' ∧ Right6 L B) ?_ ?_
    · walk_at "rdF"
      refine for_seqR (U := fun _ => True) (.inl he3) rfl (fun i σ H' => ∃ (y6 : Option V), σ = [some nv, some ev, some (.ref p1), some (.ref p2), y4, some (.ref p5), y6, y7, y8, none, none] ∧ Same H8 H' ∧ ∀ r ∈ B.take i, r.x ≠ r.y) ⟨_, rfl, .refl _, by simp⟩ (fun i σ H' h => ?_) ?_ ?_
      · obtain ⟨_, _, s, _⟩ := h; exact .same s
      · rintro i x e σ H' he' hx ⟨y6, rfl, sm, ho⟩
        have he' : (B.map BR.d)[i]? = some e := he'
        rw [List.getElem?_map] at he'
        cases qi : B[i]? with
        | none => rw [qi] at he'; cases he'
        | some r =>
          rw [qi] at he'
          cases he'
          walk_at "rdF"
          refine rep_ix hx rfl (by decide) rfl fun u hu => ?_
          cases hu.strI
          walk_at "rdF"
          refine rep_ix hx rfl (by decide) rfl fun u hu => ?_
          cases hu.strI
          walk_at "rdF"
          refine if_dec (fun hz => ?_) (fun hz => ?_)
          · walk_at "rdF"
            refine rep_ix hx rfl (by decide) rfl fun u hu => ?_
            cases hu.strI
            walk_at "rdF"
            refine ⟨sz (by simp), fun p np => ?_⟩
            have sn := same_new (o := .tup [V.str "SelfBond", .str r.n]) np
            exact hbad (.self r.n) _ _ (.self R5 (first_at qi (fun q hq => by simpa using ho q hq) (by injection hz))) ((sH.trans sm).trans sn) (.tup trivial upd_same (.cons (.str _) (.cons (.str _) .nil)))
          · walk_at "rdF"
            exact ⟨_, rfl, sm, take_all qi ho fun e => hz (by rw [e])⟩
      · rintro σ H' ⟨y6, rfl, sm, ho⟩
        rw [show (kids (PyData.list (B.map BR.d))).length = B.length from List.length_map _, List.take_length] at ho
        exact ⟨_, rfl, sm, ⟨R5, ho⟩⟩
    rintro σ9 H9 ⟨y6, rfl, s9, R6⟩
    replace hn3 := hn3.same s9
    replace he3 := he3.same s9
    replace k1 := k1.same s9
    replace sH := sH.trans s9
    clear s9 k2
    walk_at "rdF"
    -- ends
    refine rd_cut (fun σ' H' => ∃ (y6 y9 : Option V), σ' = [some nv, some ev, some (.ref p1), some (.ref p2), y4, some (.ref p5), y6, y7, y8, y9, none] ∧ Same H9 H' ∧ Right7 L B) ?_ ?_
    · walk_at "rdF"
      refine for_seqR (U := fun _ => True) (.inl he3) rfl (fun i σ H' => ∃ (y6 y9 : Option V), σ = [some nv, some ev, some (.ref p1), some (.ref p2), y4, some (.ref p5), y6, y7, y8, y9, none] ∧ Same H9 H' ∧ ∀ z ∈ endsOf (B.take i), z ∈ lampNs L) ⟨_, _, rfl, .refl _, by simp [endsOf]⟩ (fun i σ H' h => ?_) ?_ ?_
      · obtain ⟨_, _, _, s, _⟩ := h; exact .same s
      · rintro i x e σ H' he' hx ⟨y6, y9, rfl, sm, ho⟩
        have he' : (B.map BR.d)[i]? = some e := he'
        rw [List.getElem?_map] at he'
        cases qi : B[i]? with
        | none => rw [qi] at he'; cases he'
        | some r =>
          rw [qi] at he'
          cases he'
          obtain ⟨f1, f2⟩ := end_first qi ho
          walk_at "rdF"
          refine rep_ix hx rfl (by decide) rfl fun u hu => ?_
          cases hu.strI
          walk_at "rdF"
          refine rep_ix hx rfl (by decide) rfl fun u hu => ?_
          cases hu.strI
          walk_at "rdF"
          refine ⟨sz (by simp), fun q nq => ?_⟩
          obtain ⟨s10, k10⟩ := new_lst (U := fun _ => True) (vs := [.str r.x, .str r.y]) (ds := [r.x, r.y].map PyData.str) nq trivial (.cons (.str _) (.cons (.str _) .nil))
          generalize upd H' q (.lst [.str r.x, .str r.y]) = H10 at *
          refine for_seqR (U := fun _ => True) (.inl k10) rfl (fun j σ H'' => ∃ (y9 : Option V), σ = [some nv, some ev, some (.ref p1), some (.ref p2), y4, some (.ref p5), some x, y7, y8, y9, none] ∧ Same H10 H'' ∧ ∀ z ∈ [r.x, r.y].take j, z ∈ lampNs L) ⟨_, rfl, .refl _, by simp⟩ (fun j σ H'' h => ?_) ?_ ?_
          · obtain ⟨_, _, s, _⟩ := h; exact .same s
          · rintro j u e σ H'' he'' hu ⟨y9, rfl, sj, hoj⟩
            have he'' : ([r.x, r.y].map PyData.str)[j]? = some e := he''
            rw [List.getElem?_map] at he''
            cases qj : [r.x, r.y][j]? with
            | none => rw [qj] at he''; cases he''
            | some z =>
              rw [qj] at he''
              cases he''
              cases hu.strI
              walk_at "rdF"
              refine rd_ninRep (ns := lampNs L) (k1.same ((sm.trans s10).trans sj)) rfl rfl ?_
              refine ⟨_, rfl, ?_⟩
              refine if_ndec (fun hz => ?_) (fun hz => ?_)
              · walk_at "rdF"
                refine ⟨sz (by simp), fun p np => ?_⟩
                have sn := same_new (o := .tup [V.str "Unknown", .str z]) np
                refine hbad (.unk z) _ _ (.unk R6 ?_) ((((sH.trans sm).trans s10).trans sj).trans sn) (.tup trivial upd_same (.cons (.str _) (.cons (.str _) .nil)))
                match j, qj with
                | 0, qj => cases qj; exact f1 hz
                | 1, qj => cases qj; exact f2 (hoj r.x (by simp)) hz
                | j + 2, qj => cases qj
              · walk_at "rdF"
                exact ⟨_, rfl, sj, take_all qj hoj hz⟩
          · rintro σ H'' ⟨y9, rfl, sj, hoj⟩
            refine ⟨_, _, rfl, (sm.trans s10).trans sj, fun z hz => ?_⟩
            rw [take_end qi] at hz
            rcases List.mem_append.mp hz with q | q
            · exact ho z q
            · exact hoj z q
      · rintro σ H' ⟨y6, y9, rfl, sm, ho⟩
        rw [show (kids (PyData.list (B.map BR.d))).length = B.length from List.length_map _, List.take_length] at ho
        exact ⟨_, _, rfl, sm, ⟨R6, ho⟩⟩
    rintro σ10 H10 ⟨y6, y9, rfl, s10, R7⟩
    replace hn3 := hn3.same s10
    replace he3 := he3.same s10
    replace sH := sH.trans s10
    walk_at "rdF"
    refine rep_len hn3 rfl fun xs rx => ?_
    have lx : xs.length = L.length := by rw [rx.len]; exact List.length_map _
    walk_at "rdF"
    rw [lx]
    have far : ¬ ((1 : Int) ≤ L.length ∧ (L.length : Int) ≤ 10) → ∀ (p : Addr), H10 p = none → Q (.ref p) (upd H10 p (.tup [V.str "OutOfRange", .int L.length, .int 1, .int 10])) := fun c p np =>
      hbad (.range L.length 1 10) _ _ (.lamps R7 c) (sH.trans (same_new np)) (.tup trivial upd_same (.cons (.str _) (.cons (.int _) (.cons (.int _) (.cons (.int _) .nil)))))
    refine if_dec (fun h1 => ?_) (fun h1 => ?_)
    · walk_at "rdF"
      refine rep_len hn3 rfl fun xs2 rx2 => ?_
      have lx2 : xs2.length = L.length := by rw [rx2.len]; exact List.length_map _
      walk_at "rdF"
      rw [lx2]
      refine ⟨sz (by simp), fun p np => ?_⟩
      exact far (by omega) p np
    · walk_at "rdF"
      refine rep_len hn3 rfl fun xs2 rx2 => ?_
      have lx2 : xs2.length = L.length := by rw [rx2.len]; exact List.length_map _
      walk_at "rdF"
      rw [lx2]
      refine if_dec (fun h2 => ?_) (fun h2 => ?_)
      · walk_at "rdF"
        refine rep_len hn3 rfl fun xs2 rx2 => ?_
        have lx2 : xs2.length = L.length := by rw [rx2.len]; exact List.length_map _
        walk_at "rdF"
        rw [lx2]
        refine ⟨sz (by simp), fun p np => ?_⟩
        exact far (by omega) p np
      · have R8 : Right8 L B := ⟨R7, by omega, by omega⟩
        walk_at "rdF"
        refine rep_len he3 rfl fun ys ry => ?_
        have ly : ys.length = B.length := by rw [ry.len]; exact List.length_map _
        walk_at "rdF"
        rw [ly]
        refine if_dec (fun h3 => ?_) (fun h3 => ?_)
        · walk_at "rdF"
          refine rep_len he3 rfl fun ys ry => ?_
          have ly : ys.length = B.length := by rw [ry.len]; exact List.length_map _
          walk_at "rdF"
          rw [ly]
          refine ⟨sz (by simp), fun p np => ?_⟩
          exact hbad (.range B.length 0 16) _ _ (.bonds R8 (by omega)) (sH.trans (same_new np)) (.tup trivial upd_same (.cons (.str _) (.cons (.int _) (.cons (.int _) (.cons (.int _) .nil)))))
        · walk_at "rdF"
          exact hgood ⟨R8, by omega⟩ _ sH
end
set_option maxHeartbeats 1000000
theorem first_only {α : Type} {p : α → Prop} {l1 l2 : List α} {v : α} (h : First p (l1 ++ l2) v) (h1 : ∀ u ∈ l1, ¬ p u) : First p l2 v := by
  obtain ⟨a, b, e, ha, hv⟩ := h
  rcases List.append_eq_append_iff.mp e with ⟨c, rfl, rfl⟩ | ⟨c, rfl, ec⟩
  · exact ⟨c, b, rfl, fun u hu => ha u (List.mem_append_right _ hu), hv⟩
  · cases c with
    | nil => exact ⟨[], b, by simpa using ec.symm, by simp, hv⟩
    | cons d c =>
      injection ec with e1 e2
      exact absurd hv (h1 v (by rw [e1]; simp))
theorem first_app {α : Type} {p : α → Prop} {l1 l2 : List α} {v : α} (h1 : ∀ u ∈ l1, ¬ p u) (h : First p l2 v) : First p (l1 ++ l2) v := by
  obtain ⟨a, b, rfl, ha, hv⟩ := h
  refine ⟨l1 ++ a, b, by simp, fun u hu => ?_, hv⟩
  rcases List.mem_append.mp hu with q | q
  · exact h1 u q
  · exact ha u q
theorem dup_last {a : Str} : ∀ {U s : List Str}, (s ++ U).Nodup → firstDup s (U ++ [a]) = if a ∈ s ++ U then some a else none
  | [], s, _ => by
    show (if a ∈ s then some a else firstDup (s ++ [a]) []) = _
    simp [firstDup]
  | x :: U, s, nd => by
    have hx : x ∉ s := fun h => by
      have := (List.nodup_append.mp nd).2.2 x h x (by simp)
      exact this rfl
    show (if x ∈ s then some x else firstDup (s ++ [x]) (U ++ [a])) = _
    rw [if_neg hx, dup_last (by rw [List.append_assoc]; exact nd), List.append_assoc]; rfl
section
variable {L L1 L2 : List (Str × V)} {B B1 B2 : List BR} {r : BR}
theorem Right.front (h : Right L (B ++ [r])) : Right L B := by
  refine ⟨⟨⟨⟨⟨⟨⟨⟨⟨fun z hz => h.nm z ?_⟩, fun v hv => h.num v ?_⟩, fun q hq => h.sp q (List.mem_append_left _ hq)⟩, h.dl⟩, ?_⟩, fun q hq => h.sf q (List.mem_append_left _ hq)⟩, fun z hz => h.unk z ?_⟩, h.l1, h.l10⟩, ?_⟩
  · rcases List.mem_append.mp hz with q | q
    · exact List.mem_append_left _ q
    · exact List.mem_append_right _ (by unfold bondNs at *; rw [List.map_append]; exact List.mem_append_left _ q)
  · unfold numsOf at *
    rcases List.mem_append.mp hv with q | q
    · exact List.mem_append_left _ q
    · exact List.mem_append_right _ (by rw [List.flatMap_append]; exact List.mem_append_left _ q)
  · have := h.db
    unfold bondNs at *
    rw [List.map_append] at this
    exact (List.nodup_append.mp this).1
  · unfold endsOf at *
    rw [List.flatMap_append]; exact List.mem_append_left _ hz
  · have := h.l16
    rw [List.length_append] at this
    omega
theorem bn_last : bondNs (B ++ [r]) = bondNs B ++ [r.n] := by unfold bondNs; rw [List.map_append]; rfl
theorem en_last : endsOf (B ++ [r]) = endsOf B ++ [r.x, r.y] := by unfold endsOf; rw [List.flatMap_append]; simp
theorem nm_last : numsOf L (B ++ [r]) = numsOf L B ++ [r.l, r.h] := by unfold numsOf; rw [List.flatMap_append, ← List.append_assoc]; simp
theorem of1 (h : Right L B) (a : isNm r.n = true) : Right1 L (B ++ [r]) := ⟨fun z hz => by
  rw [bn_last, ← List.append_assoc] at hz
  rcases List.mem_append.mp hz with q | q
  · exact h.nm z q
  · rw [List.mem_singleton.mp q]; exact a⟩
theorem to1 (h : Right1 L (B ++ [r])) : isNm r.n = true := h.nm _ (List.mem_append.mpr (.inr (by rw [bn_last]; simp)))
theorem of2 (h : Right L B) (a : Right1 L (B ++ [r])) (bl : isOpen r.l = true) (bh : isOpen r.h = true) : Right2 L (B ++ [r]) := ⟨a, fun v hv => by
  rw [nm_last] at hv
  rcases List.mem_append.mp hv with q | q
  · exact h.num v q
  · simp at q
    rcases q with rfl | rfl
    · exact bl
    · exact bh⟩
theorem to2 (h : Right2 L (B ++ [r])) : isOpen r.l = true ∧ isOpen r.h = true := ⟨h.num _ (by rw [nm_last]; simp), h.num _ (by rw [nm_last]; simp)⟩
theorem of3 (h : Right L B) (a : Right2 L (B ++ [r])) (b : crossed r.l r.h = false) : Right3 L (B ++ [r]) := ⟨a, fun q hq => by
  rcases List.mem_append.mp hq with q1 | q1
  · exact h.sp q q1
  · rw [List.mem_singleton.mp q1]; exact b⟩
theorem to3 (h : Right3 L (B ++ [r])) : crossed r.l r.h = false := h.sp r (by simp)
theorem of5 (h : Right L B) (a : Right3 L (B ++ [r])) (b : r.n ∉ bondNs B) : Right5 L (B ++ [r]) := ⟨⟨a, h.dl⟩, by
  rw [bn_last]
  exact List.nodup_append.mpr ⟨h.db, by simp, fun x hx y hy e => b (by rw [← List.mem_singleton.mp hy, ← e]; exact hx)⟩⟩
theorem to5 (h : Right5 L (B ++ [r])) : r.n ∉ bondNs B := fun hx => by
  have := h.db
  rw [bn_last] at this
  exact (List.nodup_append.mp this).2.2 r.n hx r.n (by simp) rfl
theorem of6 (h : Right L B) (a : Right5 L (B ++ [r])) (b : r.x ≠ r.y) : Right6 L (B ++ [r]) := ⟨a, fun q hq => by
  rcases List.mem_append.mp hq with q1 | q1
  · exact h.sf q q1
  · rw [List.mem_singleton.mp q1]; exact b⟩
theorem to6 (h : Right6 L (B ++ [r])) : r.x ≠ r.y := h.sf r (by simp)
theorem of7 (h : Right L B) (a : Right6 L (B ++ [r])) (b : r.x ∈ lampNs L) (c : r.y ∈ lampNs L) : Right7 L (B ++ [r]) := ⟨a, fun z hz => by
  rw [en_last] at hz
  rcases List.mem_append.mp hz with q | q
  · exact h.unk z q
  · simp at q
    rcases q with rfl | rfl
    · exact b
    · exact c⟩
theorem to7 (h : Right7 L (B ++ [r])) : r.x ∈ lampNs L ∧ r.y ∈ lampNs L := ⟨h.unk _ (by rw [en_last]; simp), h.unk _ (by rw [en_last]; simp)⟩
section
variable (h1 : Right L1 B1) (h2 : Right L2 B2) (hl : ∀ z, z ∈ lampNs L1 ↔ z ∈ lampNs L2) (hb : ∀ z, z ∈ bondNs B1 ↔ z ∈ bondNs B2) (lb : B1.length = B2.length)
theorem tr1 (h2 : Right L2 B2) (h : Right1 L1 (B1 ++ [r])) : Right1 L2 (B2 ++ [r]) := of1 h2 (to1 h)
theorem tr2 (h2 : Right L2 B2) (h : Right2 L1 (B1 ++ [r])) : Right2 L2 (B2 ++ [r]) := of2 h2 (tr1 h2 h.toRight1) (to2 h).1 (to2 h).2
theorem tr3 (h2 : Right L2 B2) (h : Right3 L1 (B1 ++ [r])) : Right3 L2 (B2 ++ [r]) := of3 h2 (tr2 h2 h.toRight2) (to3 h)
theorem tr5 (h2 : Right L2 B2) (hb : ∀ z, z ∈ bondNs B1 ↔ z ∈ bondNs B2) (h : Right5 L1 (B1 ++ [r])) : Right5 L2 (B2 ++ [r]) := of5 h2 (tr3 h2 h.toRight3) fun c => to5 h ((hb _).mpr c)
theorem tr6 (h2 : Right L2 B2) (hb : ∀ z, z ∈ bondNs B1 ↔ z ∈ bondNs B2) (h : Right6 L1 (B1 ++ [r])) : Right6 L2 (B2 ++ [r]) := of6 h2 (tr5 h2 hb h.toRight5) (to6 h)
theorem tr8 (h2 : Right L2 B2) (hl : ∀ z, z ∈ lampNs L1 ↔ z ∈ lampNs L2) (hb : ∀ z, z ∈ bondNs B1 ↔ z ∈ bondNs B2) (h : Right8 L1 (B1 ++ [r])) : Right8 L2 (B2 ++ [r]) :=
  ⟨of7 h2 (tr6 h2 hb h.toRight6) ((hl _).mp (to7 h.toRight7).1) ((hl _).mp (to7 h.toRight7).2), h2.l1, h2.l10⟩
include h1 h2 hl hb lb
theorem right_last (h : Right L1 (B1 ++ [r])) : Right L2 (B2 ++ [r]) := ⟨tr8 h2 hl hb h.toRight8, by have := h.l16; rw [List.length_append] at this ⊢; omega⟩
theorem wrong_last {e : PErr} (h : Wrong L1 (B1 ++ [r]) e) : Wrong L2 (B2 ++ [r]) e := by
  cases h with
  | name f =>
    refine .name ?_
    rw [bn_last, ← List.append_assoc] at f ⊢
    exact first_app (fun u hu => by simp [h2.nm u hu]) (first_only f fun u hu => by simp [h1.nm u hu])
  | num a f =>
    refine .num (tr1 h2 a) ?_
    rw [nm_last] at f ⊢
    exact first_app (fun u hu => by simp [h2.num u hu]) (first_only f fun u hu => by simp [h1.num u hu])
  | span a f =>
    refine .span (tr2 h2 a) ?_
    exact first_app (fun u hu => by simp [h2.sp u hu]) (first_only f fun u hu => by simp [h1.sp u hu])
  | dblL a f => rw [dup_none'.mpr h1.dl] at f; cases f
  | dblB a f =>
    refine .dblB ⟨tr3 h2 a.toRight3, h2.dl⟩ ?_
    rw [bn_last, dup_last (by simpa using h1.db)] at f
    rw [bn_last, dup_last (by simpa using h2.db)]
    simp only [List.nil_append] at f ⊢
    by_cases c : r.n ∈ bondNs B1
    · rw [if_pos c] at f; rw [if_pos ((hb _).mp c)]; exact f
    · rw [if_neg c] at f; cases f
  | self a f =>
    refine .self (tr5 h2 hb a) ?_
    exact first_app (fun u hu => h2.sf u hu) (first_only f fun u hu => h1.sf u hu)
  | unk a f =>
    refine .unk (tr6 h2 hb a) ?_
    have ep : (fun z => z ∉ lampNs L1) = (fun z => z ∉ lampNs L2) := by funext z; rw [hl z]
    rw [ep, en_last] at f
    rw [en_last]
    exact first_app (fun u hu => by simpa using h2.unk u hu) (first_only f fun u hu => by have := (hl u).mp (h1.unk u hu); simpa using this)
  | lamps a f => exact absurd ⟨by have := h1.l1; omega, by have := h1.l10; omega⟩ f
  | bonds a f =>
    have e : (B1 ++ [r]).length = (B2 ++ [r]).length := by rw [List.length_append, List.length_append, lb]
    rw [e] at f ⊢
    exact .bonds (tr8 h2 hl hb a) f
end
end
set_option maxHeartbeats 1000000
abbrev s_law_asked : Stmt := topS 67
theorem sc_law_asked : FnScope ["k", "nodes", "edges", "web", "row", "e", "more"] ["k", "nodes", "edges"] (defScope s_law_asked) := ⟨rfl, rfl, rfl, by decide +kernel, rfl, by decide +kernel, by decide +kernel⟩
/-- what _law_asked asks of its errors -/
structure Errs7 (K : PySem.W.Frag) (mg : Str → Option Value) (c : ECs) (cO : Addr) : Prop where
  g_OutshinerError : mg "OutshinerError" = some (.ref cO)
  g_BadName : mg "BadName" = some (.ref c.nm)
  g_BadNumber : mg "BadNumber" = some (.ref c.num)
  g_BadSpan : mg "BadSpan" = some (.ref c.sp)
  g_Doubled : mg "Doubled" = some (.ref c.dbl)
  g_SelfBond : mg "SelfBond" = some (.ref c.self)
  g_Unknown : mg "Unknown" = some (.ref c.unk)
  g_OutOfRange : mg "OutOfRange" = some (.ref c.rng)
  o0 : PySem.W.kitOne K (.ref c.nm) (.ref cO) = some true
  o1 : PySem.W.kitOne K (.ref c.num) (.ref cO) = some true
  o2 : PySem.W.kitOne K (.ref c.sp) (.ref cO) = some true
  o3 : PySem.W.kitOne K (.ref c.dbl) (.ref cO) = some true
  o4 : PySem.W.kitOne K (.ref c.self) (.ref cO) = some true
  o5 : PySem.W.kitOne K (.ref c.unk) (.ref cO) = some true
  o6 : PySem.W.kitOne K (.ref c.rng) (.ref cO) = some true
  i01 : PySem.W.kitOne K (.ref c.nm) (.ref c.num) = some false
  i03 : PySem.W.kitOne K (.ref c.nm) (.ref c.dbl) = some false
  i05 : PySem.W.kitOne K (.ref c.nm) (.ref c.unk) = some false
  i12 : PySem.W.kitOne K (.ref c.num) (.ref c.sp) = some false
  i16 : PySem.W.kitOne K (.ref c.num) (.ref c.rng) = some false
  i26 : PySem.W.kitOne K (.ref c.sp) (.ref c.rng) = some false
  i21 : PySem.W.kitOne K (.ref c.sp) (.ref c.num) = some false
  i30 : PySem.W.kitOne K (.ref c.dbl) (.ref c.nm) = some false
  i34 : PySem.W.kitOne K (.ref c.dbl) (.ref c.self) = some false
  i35 : PySem.W.kitOne K (.ref c.dbl) (.ref c.unk) = some false
  i43 : PySem.W.kitOne K (.ref c.self) (.ref c.dbl) = some false
  i40 : PySem.W.kitOne K (.ref c.self) (.ref c.nm) = some false
  i45 : PySem.W.kitOne K (.ref c.self) (.ref c.unk) = some false
  i50 : PySem.W.kitOne K (.ref c.unk) (.ref c.nm) = some false
  i53 : PySem.W.kitOne K (.ref c.unk) (.ref c.dbl) = some false
  i54 : PySem.W.kitOne K (.ref c.unk) (.ref c.self) = some false
  i61 : PySem.W.kitOne K (.ref c.rng) (.ref c.num) = some false
  i62 : PySem.W.kitOne K (.ref c.rng) (.ref c.sp) = some false
  i63 : PySem.W.kitOne K (.ref c.rng) (.ref c.dbl) = some false
  x10 : PySem.W.exmOne K (.ref c.num) (.ref c.nm) = some false
  x20 : PySem.W.exmOne K (.ref c.sp) (.ref c.nm) = some false
  x21 : PySem.W.exmOne K (.ref c.sp) (.ref c.num) = some false
  x30 : PySem.W.exmOne K (.ref c.dbl) (.ref c.nm) = some false
  x31 : PySem.W.exmOne K (.ref c.dbl) (.ref c.num) = some false
  x32 : PySem.W.exmOne K (.ref c.dbl) (.ref c.sp) = some false
  x40 : PySem.W.exmOne K (.ref c.self) (.ref c.nm) = some false
  x41 : PySem.W.exmOne K (.ref c.self) (.ref c.num) = some false
  x42 : PySem.W.exmOne K (.ref c.self) (.ref c.sp) = some false
  x43 : PySem.W.exmOne K (.ref c.self) (.ref c.dbl) = some false
  x50 : PySem.W.exmOne K (.ref c.unk) (.ref c.nm) = some false
  x51 : PySem.W.exmOne K (.ref c.unk) (.ref c.num) = some false
  x52 : PySem.W.exmOne K (.ref c.unk) (.ref c.sp) = some false
  x53 : PySem.W.exmOne K (.ref c.unk) (.ref c.dbl) = some false
  x54 : PySem.W.exmOne K (.ref c.unk) (.ref c.self) = some false
  x60 : PySem.W.exmOne K (.ref c.rng) (.ref c.nm) = some false
  x61 : PySem.W.exmOne K (.ref c.rng) (.ref c.num) = some false
  x62 : PySem.W.exmOne K (.ref c.rng) (.ref c.sp) = some false
  x63 : PySem.W.exmOne K (.ref c.rng) (.ref c.dbl) = some false
  x64 : PySem.W.exmOne K (.ref c.rng) (.ref c.self) = some false
  x65 : PySem.W.exmOne K (.ref c.rng) (.ref c.unk) = some false
section
variable {P : Program} {w : World} {K : PySem.W.Frag} {mg : Str → Option Value} {base : Heap} {C CS CE CB CU cO : Addr}
def errFull (e : PErr) : PyData := .tuple (errL e ++ [.bool true, .bool false])
/-- values that an error may have -/
def ScE : PErr → Prop
  | .num v => Sc v
  | .span l h => Sc l ∧ Sc h
  | _ => True
theorem nLH : (("low" : Str) == ("high" : Str)) = false := by decide
theorem nNH : (("number" : Str) == ("high" : Str)) = false := by decide
theorem nNL : (("number" : Str) == ("low" : Str)) = false := by decide
def spAsk7 (C CS : Addr) : Sp := fun vs H Q _ => ∃ (k : Int) (nv ev : V) (dl db : PyData) (L : List (Str × V)) (B : List BR), vs = [.int k, nv, ev] ∧ R H nv dl ∧ R H ev db ∧ RowsD LampRow dl L ∧ RowsD BondRow db B ∧ L.length ≤ 1000 ∧ B.length ≤ 1000 ∧
  (k = 0 ∨ ∃ B' r, B = B' ++ [r] ∧ db = .list (B.map BR.d) ∧ dl = .list (L.map lampD) ∧ ((k = 1 ∧ Right L B') ∨ (k = 2 ∧ Right L (B' ++ [⟨r.n, r.x, r.y, .non, .non⟩])))) ∧
  (Right L B → ∀ v H', Same H H' → R H' v (.list [.list ((sortL L).map lampD), .list ((sortB B).map BR.d)]) → Q v H') ∧ (∀ e, Wrong L B e → ∀ v H', Same H H' → R H' v (errFull e) → Q v H')
theorem sc_nums {L : List (Str × V)} {B : List BR} (h1 : ∀ r ∈ L, Sc r.2) (h2 : ∀ r ∈ B, Sc r.l ∧ Sc r.h) : ∀ v ∈ numsOf L B, Sc v := fun v hv => by
  rcases List.mem_append.mp hv with q | q
  · obtain ⟨r, hr, rfl⟩ := List.mem_map.mp q
    exact h1 r hr
  · obtain ⟨r, hr, hv⟩ := List.mem_flatMap.mp q
    simp at hv
    rcases hv with rfl | rfl
    · exact (h2 r hr).1
    · exact (h2 r hr).2
theorem Wrong.sc {L : List (Str × V)} {B : List BR} {e : PErr} (h : Wrong L B e) (h1 : ∀ r ∈ L, Sc r.2) (h2 : ∀ r ∈ B, Sc r.l ∧ Sc r.h) : ScE e := by
  cases h with
  | num _ f => exact sc_nums h1 h2 _ f.mem
  | span _ f => exact h2 _ f.mem
  | _ => trivial
theorem ok_asked7 {k j : Nat} {f : Addr} {fd : FuncData} {c : ECs} (F : Fun K "_law_asked" "_law_asked" s_law_asked f fd) (T : Blt mg) (TE : Errs7 K mg c cO) (cl_Web : Cls K C)
    (E_BadName : ErrC K mg "BadName" c.nm) (E_BadNumber : ErrC K mg "BadNumber" c.num) (E_BadSpan : ErrC K mg "BadSpan" c.sp) (E_Doubled : ErrC K mg "Doubled" c.dbl) (E_SelfBond : ErrC K mg "SelfBond" c.self) (E_Unknown : ErrC K mg "Unknown" c.unk) (E_OutOfRange : ErrC K mg "OutOfRange" c.rng)
    (N_BadName_name : PySem.W.findIn K (.ref c.nm) "name" = some none) (N_BadNumber_number : PySem.W.findIn K (.ref c.num) "number" = some none) (N_BadSpan_low : PySem.W.findIn K (.ref c.sp) "low" = some none) (N_BadSpan_high : PySem.W.findIn K (.ref c.sp) "high" = some none) (N_Doubled_name : PySem.W.findIn K (.ref c.dbl) "name" = some none) (N_SelfBond_bond : PySem.W.findIn K (.ref c.self) "bond" = some none) (N_Unknown_name : PySem.W.findIn K (.ref c.unk) "name" = some none) (N_OutOfRange_number : PySem.W.findIn K (.ref c.rng) "number" = some none) (N_OutOfRange_low : PySem.W.findIn K (.ref c.rng) "low" = some none) (N_OutOfRange_high : PySem.W.findIn K (.ref c.rng) "high" = some none)
    (HM_Web_2 : HasMk P w K mg base (L2.CX P w) C "Web" j ["self", "lamps", "bonds"] [] (spWebI K C CS c)) (HP_Web_lamp_rows : HasPr P w K mg base CX0 C "lamp_rows" j ["self"] (spWLampRows C CS)) (HP_Web_bond_rows : HasPr P w K mg base CX0 C "bond_rows" j ["self"] (spWBondRows C CS))
    (HT_Web_with_span : HasMt P w K mg base (L2.CX P w) C "with_span" k ["self", "bond", "low", "high"] (spWithSpan C CS c.num c.sp c.unk)) (HT_Web_with_bond_low_high : HasMtN P w K mg base (L2.CX P w) C "with_bond" k 3 ["self", "name", "first", "second", "low", "high"] ["low", "high"] gApp (spWithBond C CS c)) (hk : j + 1 ≤ k) : FnOk P w K mg base CX0 (k + 1) f fd ["k", "nodes", "edges"] (spAsk7 C CS) := by
  refine F.ok sc_law_asked (fun vs H Q E h => ?_) (fun cdv A outer s H vs Q E hr h => ?_)
  · obtain ⟨k, nv, ev, dl, db, L, B, rfl, _⟩ := h; rfl
  · obtain ⟨k, nv, ev, dl, db, L, B, rfl, hn, he, rl, rb, lL, lB, hkind, hgood, hbad⟩ := h
    refine ⟨_, (pss_cons (ps_try_asV (Wout := fun _ _ _ _ => False) rfl rfl sc_law_asked.nd takes0 (fun W pn xe tk _ => (pss_one (ps_if (pt_cmpR op_eq (pv 0) pe_int (nomark _)) (pss_one (ps_set (i := 3) sc_law_asked.nd rfl (.inl rfl) (pe_makeHS HM_Web_2 (hr.mono (by omega)) (by rfl) (fun σ => passAt tk σ) (pa_cons (pv 1) (pa_cons (pv 2) pa_nil))))) (pss_cons (ps_set (i := 4) sc_law_asked.nd rfl (.inl rfl) (pe_ix (ix_seqR (K := K) rfl) (pv 2) (pe_op op_sub (pe_callB (call_lenR (K := K) rfl) (by rfl) T.len (by decide +kernel) (pa_cons (pv 2) pa_nil)) pe_int) (fun _ _ => rfl)))
 (pss_cons (ps_set (i := 3) sc_law_asked.nd rfl (.inl rfl) (pe_makeHS HM_Web_2 (hr.mono (by omega)) (by rfl) (fun σ => passAt tk σ) (pa_cons (pv 1) (pa_cons (pe_op op_cat (pe_slice (sl_listR (K := K) rfl) (pv 2) po_none (po_some (pe_op op_sub (pe_callB (call_lenR (K := K) rfl) (by rfl) T.len (by decide +kernel) (pa_cons (pv 2) pa_nil)) pe_int))) (pe_slice (sl_listR (K := K) rfl) (pe_lst (pa_cons (pe_tup (pa_cons (pe_ix (ix_seqR (K := K) rfl) (pv 4) pe_int (fun _ _ => rfl)) (pa_cons (pe_ix (ix_seqR (K := K) rfl) (pv 4) pe_int (fun _ _ => rfl)) (pa_cons (pe_ix (ix_seqR (K := K) rfl) (pv 4) pe_int (fun _ _ => rfl)) (pa_cons pe_non (pa_cons pe_non pa_nil)))))) pa_nil)) po_none (po_some (pe_op op_sub (pv 0) pe_int)))) pa_nil))))
 (pss_one (ps_if (pt_cmpR op_eq (pv 0) pe_int (nomark _)) (pss_one (ps_set (i := 3) sc_law_asked.nd rfl (.inl rfl) (pe_mtN (ks := ["low", "high"]) HT_Web_with_bond_low_high cl_Web (pv 3) hr (fun σ => passAt tk σ) (pa_cons (pe_ix (ix_seqR (K := K) rfl) (pv 4) pe_int (fun _ _ => rfl)) (pa_cons (pe_ix (ix_seqR (K := K) rfl) (pv 4) pe_int (fun _ _ => rfl)) (pa_cons (pe_ix (ix_seqR (K := K) rfl) (pv 4) pe_int (fun _ _ => rfl)) pa_nil))) (pk_cons (pe_ix (ix_seqR (K := K) rfl) (pv 4) pe_int (fun _ _ => rfl)) (pk_cons (pe_ix (ix_seqR (K := K) rfl) (pv 4) pe_int (fun _ _ => rfl)) pk_nil))))) (pss_one (ps_set (i := 3) sc_law_asked.nd rfl (.inl rfl) (pe_mt HT_Web_with_span cl_Web (pv 3) hr (fun σ => passAt tk σ) (pa_cons (pe_ix (ix_seqR (K := K) rfl) (pv 4) pe_int (fun _ _ => rfl)) (pa_cons (pe_ix (ix_seqR (K := K) rfl) (pv 4) pe_int (fun _ _ => rfl)) (pa_cons (pe_ix (ix_seqR (K := K) rfl) (pv 4) pe_int (fun _ _ => rfl)) pa_nil))))))))))))) (.cons (i := 5) rfl rfl ⟨rfl, by decide, Or.inl E_BadName.gC⟩ (fun a oe cls d pn hz hf => (pss_one (ps_ret (pe_tup (pa_cons pe_str (pa_cons (pe_xf E_BadName.xf N_BadName_name hz hf (pv 5)) (pa_cons (pe_callB (call_isX (K := K) rfl hz hf) (by rfl) T.isinstance (by decide +kernel) (pa_cons (pv 5) (pa_cons (pe_globC rfl TE.g_OutshinerError) pa_nil))) (pa_cons (pe_callB (call_isXT (K := K) rfl hz hf) (by rfl) T.isinstance (by decide +kernel) (pa_cons (pv 5) (pa_cons (pe_tup (pa_cons (pe_globC rfl TE.g_BadNumber) (pa_cons (pe_globC rfl TE.g_Doubled) (pa_cons (pe_globC rfl TE.g_Unknown) pa_nil)))) pa_nil))) pa_nil)))))))) (.cons (i := 5) rfl rfl ⟨rfl, by decide, Or.inl E_BadNumber.gC⟩ (fun a oe cls d pn hz hf => (pss_one (ps_ret (pe_tup (pa_cons pe_str (pa_cons (pe_xf E_BadNumber.xf N_BadNumber_number hz hf (pv 5)) (pa_cons (pe_callB (call_isX (K := K) rfl hz hf) (by rfl) T.isinstance (by decide +kernel) (pa_cons (pv 5) (pa_cons (pe_globC rfl TE.g_OutshinerError) pa_nil))) (pa_cons (pe_callB (call_isXT (K := K) rfl hz hf) (by rfl) T.isinstance (by decide +kernel) (pa_cons (pv 5) (pa_cons (pe_tup (pa_cons (pe_globC rfl TE.g_BadSpan) (pa_cons (pe_globC rfl TE.g_OutOfRange) pa_nil))) pa_nil))) pa_nil)))))))) (.cons (i := 5) rfl rfl ⟨rfl, by decide, Or.inl E_BadSpan.gC⟩ (fun a oe cls d pn hz hf => (pss_one (ps_ret (pe_tup (pa_cons pe_str (pa_cons (pe_xf E_BadSpan.xf N_BadSpan_low hz hf (pv 5)) (pa_cons (pe_xf E_BadSpan.xf N_BadSpan_high hz hf (pv 5)) (pa_cons (pe_callB (call_isX (K := K) rfl hz hf) (by rfl) T.isinstance (by decide +kernel) (pa_cons (pv 5) (pa_cons (pe_globC rfl TE.g_OutshinerError) pa_nil))) (pa_cons (pe_callB (call_isXT (K := K) rfl hz hf) (by rfl) T.isinstance (by decide +kernel) (pa_cons (pv 5) (pa_cons (pe_tup (pa_cons (pe_globC rfl TE.g_OutOfRange) (pa_cons (pe_globC rfl TE.g_BadNumber) pa_nil))) pa_nil))) pa_nil))))))))) (.cons (i := 5) rfl rfl ⟨rfl, by decide, Or.inl E_Doubled.gC⟩ (fun a oe cls d pn hz hf => (pss_one (ps_ret (pe_tup (pa_cons pe_str (pa_cons (pe_xf E_Doubled.xf N_Doubled_name hz hf (pv 5)) (pa_cons (pe_callB (call_isX (K := K) rfl hz hf) (by rfl) T.isinstance (by decide +kernel) (pa_cons (pv 5) (pa_cons (pe_globC rfl TE.g_OutshinerError) pa_nil))) (pa_cons (pe_callB (call_isXT (K := K) rfl hz hf) (by rfl) T.isinstance (by decide +kernel) (pa_cons (pv 5) (pa_cons (pe_tup (pa_cons (pe_globC rfl TE.g_BadName) (pa_cons (pe_globC rfl TE.g_SelfBond) (pa_cons (pe_globC rfl TE.g_Unknown) pa_nil)))) pa_nil))) pa_nil)))))))) (.cons (i := 5) rfl rfl ⟨rfl, by decide, Or.inl E_SelfBond.gC⟩ (fun a oe cls d pn hz hf => (pss_one (ps_ret (pe_tup (pa_cons pe_str (pa_cons (pe_xf E_SelfBond.xf N_SelfBond_bond hz hf (pv 5)) (pa_cons (pe_callB (call_isX (K := K) rfl hz hf) (by rfl) T.isinstance (by decide +kernel) (pa_cons (pv 5) (pa_cons (pe_globC rfl TE.g_OutshinerError) pa_nil))) (pa_cons (pe_callB (call_isXT (K := K) rfl hz hf) (by rfl) T.isinstance (by decide +kernel) (pa_cons (pv 5) (pa_cons (pe_tup (pa_cons (pe_globC rfl TE.g_Doubled) (pa_cons (pe_globC rfl TE.g_BadName) (pa_cons (pe_globC rfl TE.g_Unknown) pa_nil)))) pa_nil))) pa_nil)))))))) (.cons (i := 5) rfl rfl ⟨rfl, by decide, Or.inl E_Unknown.gC⟩ (fun a oe cls d pn hz hf => (pss_one (ps_ret (pe_tup (pa_cons pe_str (pa_cons (pe_xf E_Unknown.xf N_Unknown_name hz hf (pv 5)) (pa_cons (pe_callB (call_isX (K := K) rfl hz hf) (by rfl) T.isinstance (by decide +kernel) (pa_cons (pv 5) (pa_cons (pe_globC rfl TE.g_OutshinerError) pa_nil))) (pa_cons (pe_callB (call_isXT (K := K) rfl hz hf) (by rfl) T.isinstance (by decide +kernel) (pa_cons (pv 5) (pa_cons (pe_tup (pa_cons (pe_globC rfl TE.g_BadName) (pa_cons (pe_globC rfl TE.g_Doubled) (pa_cons (pe_globC rfl TE.g_SelfBond) pa_nil)))) pa_nil))) pa_nil)))))))) (.cons (i := 5) rfl rfl ⟨rfl, by decide, Or.inl E_OutOfRange.gC⟩ (fun a oe cls d pn hz hf => (pss_cons (ps_set (i := 6) sc_law_asked.nd rfl (.inl rfl) (pe_callB (call_isXT (K := K) rfl hz hf) (by rfl) T.isinstance (by decide +kernel) (pa_cons (pv 5) (pa_cons (pe_tup (pa_cons (pe_globC rfl TE.g_BadNumber) (pa_cons (pe_globC rfl TE.g_BadSpan) (pa_cons (pe_globC rfl TE.g_Doubled) pa_nil)))) pa_nil))))
 (pss_one (ps_ret (pe_tup (pa_cons pe_str (pa_cons (pe_xf E_OutOfRange.xf N_OutOfRange_number hz hf (pv 5)) (pa_cons (pe_xf E_OutOfRange.xf N_OutOfRange_low hz hf (pv 5)) (pa_cons (pe_xf E_OutOfRange.xf N_OutOfRange_high hz hf (pv 5)) (pa_cons (pe_callB (call_isX (K := K) rfl hz hf) (by rfl) T.isinstance (by decide +kernel) (pa_cons (pv 5) (pa_cons (pe_globC rfl TE.g_OutshinerError) pa_nil))) (pa_cons (pv 6) pa_nil))))))))))) .nil))))))))
 (pss_one (ps_ret (pe_lst (pa_cons (pe_propH HP_Web_lamp_rows cl_Web (pv 3) (hr.mono (by omega)) pass0) (pa_cons (pe_propH HP_Web_bond_rows cl_Web (pv 3) (hr.mono (by omega)) pass0) pa_nil)))))), ?_⟩
    walk_at "rdF"
    have k0 : PySem.W.kitAny K (.ref c.nm) [.ref c.num, .ref c.dbl, .ref c.unk] = some false := kitAny_cons TE.i01 (fun _ => kitAny_cons TE.i03 (fun _ => kitAny_cons TE.i05 (fun _ => rfl) (fun h => by cases h)) (fun h => by cases h)) (fun h => by cases h)
    have k1 : PySem.W.kitAny K (.ref c.num) [.ref c.sp, .ref c.rng] = some false := kitAny_cons TE.i12 (fun _ => kitAny_cons TE.i16 (fun _ => rfl) (fun h => by cases h)) (fun h => by cases h)
    have k2 : PySem.W.kitAny K (.ref c.sp) [.ref c.rng, .ref c.num] = some false := kitAny_cons TE.i26 (fun _ => kitAny_cons TE.i21 (fun _ => rfl) (fun h => by cases h)) (fun h => by cases h)
    have k3 : PySem.W.kitAny K (.ref c.dbl) [.ref c.nm, .ref c.self, .ref c.unk] = some false := kitAny_cons TE.i30 (fun _ => kitAny_cons TE.i34 (fun _ => kitAny_cons TE.i35 (fun _ => rfl) (fun h => by cases h)) (fun h => by cases h)) (fun h => by cases h)
    have k4 : PySem.W.kitAny K (.ref c.self) [.ref c.dbl, .ref c.nm, .ref c.unk] = some false := kitAny_cons TE.i43 (fun _ => kitAny_cons TE.i40 (fun _ => kitAny_cons TE.i45 (fun _ => rfl) (fun h => by cases h)) (fun h => by cases h)) (fun h => by cases h)
    have k5 : PySem.W.kitAny K (.ref c.unk) [.ref c.nm, .ref c.dbl, .ref c.self] = some false := kitAny_cons TE.i50 (fun _ => kitAny_cons TE.i53 (fun _ => kitAny_cons TE.i54 (fun _ => rfl) (fun h => by cases h)) (fun h => by cases h)) (fun h => by cases h)
    have k6 : PySem.W.kitAny K (.ref c.rng) [.ref c.num, .ref c.sp, .ref c.dbl] = some false := kitAny_cons TE.i61 (fun _ => kitAny_cons TE.i62 (fun _ => kitAny_cons TE.i63 (fun _ => rfl) (fun h => by cases h)) (fun h => by cases h)) (fun h => by cases h)
    intro W hW
    have hand : ∀ (y3 y4 : Option V) (ee : PErr) (H1 : Hp), ScE ee → (∀ v H', Same H1 H' → R H' v (errFull ee) → Q v H') → ∀ d H', Same H1 H' → H' d = some (.xd ee.flds) → W (.ref (c.of ee)) (some d) [some (.int k), some nv, some ev, y3, y4, none, none] H' := by
      intro y3 y4 ee H1 hs hh d H' sm e
      rw [hW]
      cases ee with
      | name z =>
        have e : H' d = some (.xd [("name", .str z)]) := e
        refine ⟨true, E_BadName.self, fun _ xx na => ?_, fun q => Bool.noConfusion q⟩
        walk_at "rdF"
        refine ⟨rfl, rfl, d, _, .str z, rfl, e, (by simp [List.lookup, nLH, nNH, nNL]), ?_⟩
        walk_at "rdF"
        refine ⟨c.nm, d, _, .ref cO, .ref cO, true, rfl, rfl, e, E_BadName.ec, rfl, fun _ r => r, TE.o0, ?_⟩
        walk_at "rdF"
        refine ⟨sz (by simp), fun tp ntp => ?_⟩
        walk_at "rdF"
        refine ⟨c.nm, d, _, tp, _, _, false, rfl, rfl, same_new ntp _ _ e, E_BadName.ec, rfl, upd_same, .cons (.own _) (.cons (.own _) (.cons (.own _) (.nil))), k0, ?_⟩
        walk_at "rdF"
        refine ⟨sz (by simp), fun p np => ?_⟩
        exact hh _ _ ((sm.trans (same_new ntp)).trans (same_new np)) (.tup trivial upd_same (.cons (.str _) (.cons (.str _) (.cons (.bl _) (.cons (.bl _) .nil)))))
      | num v =>
        have e : H' d = some (.xd [("number", v)]) := e
        have sl : Sc v := hs
        refine ⟨false, TE.x10, fun q => Bool.noConfusion q, fun _ => ⟨true, E_BadNumber.self, fun _ xx na => ?_, fun q => Bool.noConfusion q⟩⟩
        walk_at "rdF"
        refine ⟨rfl, rfl, d, _, v, rfl, e, (by simp [List.lookup, nLH, nNH, nNL]), ?_⟩
        walk_at "rdF"
        refine ⟨c.num, d, _, .ref cO, .ref cO, true, rfl, rfl, e, E_BadNumber.ec, rfl, fun _ r => r, TE.o1, ?_⟩
        walk_at "rdF"
        refine ⟨sz (by simp), fun tp ntp => ?_⟩
        walk_at "rdF"
        refine ⟨c.num, d, _, tp, _, _, false, rfl, rfl, same_new ntp _ _ e, E_BadNumber.ec, rfl, upd_same, .cons (.own _) (.cons (.own _) (.nil)), k1, ?_⟩
        walk_at "rdF"
        refine ⟨sz (by simp), fun p np => ?_⟩
        exact hh _ _ ((sm.trans (same_new ntp)).trans (same_new np)) (.tup trivial upd_same (.cons (.str _) (.cons (.sc sl) (.cons (.bl _) (.cons (.bl _) .nil)))))
      | span l h =>
        have e : H' d = some (.xd [("high", h), ("low", l)]) := e
        obtain ⟨sl, sh⟩ := hs
        refine ⟨false, TE.x20, fun q => Bool.noConfusion q, fun _ => ⟨false, TE.x21, fun q => Bool.noConfusion q, fun _ => ⟨true, E_BadSpan.self, fun _ xx na => ?_, fun q => Bool.noConfusion q⟩⟩⟩
        walk_at "rdF"
        refine ⟨rfl, rfl, d, _, l, rfl, e, (by simp [List.lookup, nLH, nNH, nNL]), ?_⟩
        walk_at "rdF"
        refine ⟨rfl, rfl, d, _, h, rfl, e, (by simp [List.lookup, nLH, nNH, nNL]), ?_⟩
        walk_at "rdF"
        refine ⟨c.sp, d, _, .ref cO, .ref cO, true, rfl, rfl, e, E_BadSpan.ec, rfl, fun _ r => r, TE.o2, ?_⟩
        walk_at "rdF"
        refine ⟨sz (by simp), fun tp ntp => ?_⟩
        walk_at "rdF"
        refine ⟨c.sp, d, _, tp, _, _, false, rfl, rfl, same_new ntp _ _ e, E_BadSpan.ec, rfl, upd_same, .cons (.own _) (.cons (.own _) (.nil)), k2, ?_⟩
        walk_at "rdF"
        refine ⟨sz (by simp), fun p np => ?_⟩
        exact hh _ _ ((sm.trans (same_new ntp)).trans (same_new np)) (.tup trivial upd_same (.cons (.str _) (.cons (.sc sl) (.cons (.sc sh) (.cons (.bl _) (.cons (.bl _) .nil))))))
      | dbl z =>
        have e : H' d = some (.xd [("name", .str z)]) := e
        refine ⟨false, TE.x30, fun q => Bool.noConfusion q, fun _ => ⟨false, TE.x31, fun q => Bool.noConfusion q, fun _ => ⟨false, TE.x32, fun q => Bool.noConfusion q, fun _ => ⟨true, E_Doubled.self, fun _ xx na => ?_, fun q => Bool.noConfusion q⟩⟩⟩⟩
        walk_at "rdF"
        refine ⟨rfl, rfl, d, _, .str z, rfl, e, (by simp [List.lookup, nLH, nNH, nNL]), ?_⟩
        walk_at "rdF"
        refine ⟨c.dbl, d, _, .ref cO, .ref cO, true, rfl, rfl, e, E_Doubled.ec, rfl, fun _ r => r, TE.o3, ?_⟩
        walk_at "rdF"
        refine ⟨sz (by simp), fun tp ntp => ?_⟩
        walk_at "rdF"
        refine ⟨c.dbl, d, _, tp, _, _, false, rfl, rfl, same_new ntp _ _ e, E_Doubled.ec, rfl, upd_same, .cons (.own _) (.cons (.own _) (.cons (.own _) (.nil))), k3, ?_⟩
        walk_at "rdF"
        refine ⟨sz (by simp), fun p np => ?_⟩
        exact hh _ _ ((sm.trans (same_new ntp)).trans (same_new np)) (.tup trivial upd_same (.cons (.str _) (.cons (.str _) (.cons (.bl _) (.cons (.bl _) .nil)))))
      | self z =>
        have e : H' d = some (.xd [("bond", .str z)]) := e
        refine ⟨false, TE.x40, fun q => Bool.noConfusion q, fun _ => ⟨false, TE.x41, fun q => Bool.noConfusion q, fun _ => ⟨false, TE.x42, fun q => Bool.noConfusion q, fun _ => ⟨false, TE.x43, fun q => Bool.noConfusion q, fun _ => ⟨true, E_SelfBond.self, fun _ xx na => ?_, fun q => Bool.noConfusion q⟩⟩⟩⟩⟩
        walk_at "rdF"
        refine ⟨rfl, rfl, d, _, .str z, rfl, e, (by simp [List.lookup, nLH, nNH, nNL]), ?_⟩
        walk_at "rdF"
        refine ⟨c.self, d, _, .ref cO, .ref cO, true, rfl, rfl, e, E_SelfBond.ec, rfl, fun _ r => r, TE.o4, ?_⟩
        walk_at "rdF"
        refine ⟨sz (by simp), fun tp ntp => ?_⟩
        walk_at "rdF"
        refine ⟨c.self, d, _, tp, _, _, false, rfl, rfl, same_new ntp _ _ e, E_SelfBond.ec, rfl, upd_same, .cons (.own _) (.cons (.own _) (.cons (.own _) (.nil))), k4, ?_⟩
        walk_at "rdF"
        refine ⟨sz (by simp), fun p np => ?_⟩
        exact hh _ _ ((sm.trans (same_new ntp)).trans (same_new np)) (.tup trivial upd_same (.cons (.str _) (.cons (.str _) (.cons (.bl _) (.cons (.bl _) .nil)))))
      | unk z =>
        have e : H' d = some (.xd [("name", .str z)]) := e
        refine ⟨false, TE.x50, fun q => Bool.noConfusion q, fun _ => ⟨false, TE.x51, fun q => Bool.noConfusion q, fun _ => ⟨false, TE.x52, fun q => Bool.noConfusion q, fun _ => ⟨false, TE.x53, fun q => Bool.noConfusion q, fun _ => ⟨false, TE.x54, fun q => Bool.noConfusion q, fun _ => ⟨true, E_Unknown.self, fun _ xx na => ?_, fun q => Bool.noConfusion q⟩⟩⟩⟩⟩⟩
        walk_at "rdF"
        refine ⟨rfl, rfl, d, _, .str z, rfl, e, (by simp [List.lookup, nLH, nNH, nNL]), ?_⟩
        walk_at "rdF"
        refine ⟨c.unk, d, _, .ref cO, .ref cO, true, rfl, rfl, e, E_Unknown.ec, rfl, fun _ r => r, TE.o5, ?_⟩
        walk_at "rdF"
        refine ⟨sz (by simp), fun tp ntp => ?_⟩
        walk_at "rdF"
        refine ⟨c.unk, d, _, tp, _, _, false, rfl, rfl, same_new ntp _ _ e, E_Unknown.ec, rfl, upd_same, .cons (.own _) (.cons (.own _) (.cons (.own _) (.nil))), k5, ?_⟩
        walk_at "rdF"
        refine ⟨sz (by simp), fun p np => ?_⟩
        exact hh _ _ ((sm.trans (same_new ntp)).trans (same_new np)) (.tup trivial upd_same (.cons (.str _) (.cons (.str _) (.cons (.bl _) (.cons (.bl _) .nil)))))
      | range n l h =>
        have e : H' d = some (.xd [("high", .int h), ("low", .int l), ("number", .int n)]) := e
        refine ⟨false, TE.x60, fun q => Bool.noConfusion q, fun _ => ⟨false, TE.x61, fun q => Bool.noConfusion q, fun _ => ⟨false, TE.x62, fun q => Bool.noConfusion q, fun _ => ⟨false, TE.x63, fun q => Bool.noConfusion q, fun _ => ⟨false, TE.x64, fun q => Bool.noConfusion q, fun _ => ⟨false, TE.x65, fun q => Bool.noConfusion q, fun _ => ⟨true, E_OutOfRange.self, fun _ xx na => ?_, fun q => Bool.noConfusion q⟩⟩⟩⟩⟩⟩⟩
        walk_at "rdF"
        refine ⟨sz (by simp), fun tp ntp => ?_⟩
        walk_at "rdF"
        refine ⟨c.rng, d, _, tp, _, _, false, rfl, rfl, same_new ntp _ _ e, E_OutOfRange.ec, rfl, upd_same, .cons (.own _) (.cons (.own _) (.cons (.own _) (.nil))), k6, ?_⟩
        walk_at "rdF"
        refine ⟨rfl, rfl, d, _, .int n, rfl, (same_new ntp _ _ e), (by simp [List.lookup, nLH, nNH, nNL]), ?_⟩
        walk_at "rdF"
        refine ⟨rfl, rfl, d, _, .int l, rfl, (same_new ntp _ _ e), (by simp [List.lookup, nLH, nNH, nNL]), ?_⟩
        walk_at "rdF"
        refine ⟨rfl, rfl, d, _, .int h, rfl, (same_new ntp _ _ e), (by simp [List.lookup, nLH, nNH, nNL]), ?_⟩
        walk_at "rdF"
        refine ⟨c.rng, d, _, .ref cO, .ref cO, true, rfl, rfl, (same_new ntp _ _ e), E_OutOfRange.ec, rfl, fun _ r => r, TE.o6, ?_⟩
        walk_at "rdF"
        refine ⟨sz (by simp), fun p np => ?_⟩
        exact hh _ _ ((sm.trans (same_new ntp)).trans (same_new np)) (.tup trivial upd_same (.cons (.str _) (.cons (.int _) (.cons (.int _) (.cons (.int _) (.cons (.bl _) (.cons (.bl _) .nil)))))))
    clear hW k0 k1 k2 k3 k4 k5 k6
    have sL : ∀ r ∈ L, Sc r.2 := lamp_sc rl
    have sB : ∀ r ∈ B, Sc r.l ∧ Sc r.h := fun r hr => by
      obtain ⟨i, hi⟩ := List.mem_iff_getElem?.mp hr
      have hk : i < (kids db).length := by rw [rb.len]; exact (List.getElem?_eq_some_iff.mp hi).1
      obtain ⟨r', h1, h2, _⟩ := rb.row (List.getElem?_eq_getElem hk)
      rw [hi] at h1; cases h1
      exact ⟨h2.2.2.2.1, h2.2.2.2.2⟩
    -- the end: the rows of a web
    rcases hkind with rfl | ⟨B', r, rfl, rfl, rfl, hk12⟩
    · walk_at "rdF"
      refine if_dec (fun _ => ?_) (fun hx => absurd rfl hx)
      walk_at "rdF"
      refine rd_webA (.inl hn) (.inl he) rl rb lL lB (fun R9 wa H1 s1 nwa hwa => ?_) fun e hw => fun d H' sm ed => hand _ _ e H (hw.sc sL sB) (fun v H' s r => hbad e hw v H' s r) d H' sm ed
      obtain ⟨dx, c0, b0, f0, t0, oc, oe', os, gg, qq, ua, ha, _⟩ := (hwa).at_.ex
      walk_at "rdF"
      refine ⟨_, dx, _, rfl, ha, _, _, _, _, rfl, hwa, fun p0 xs H5 s5 n0 hp hx => ?_⟩
      have hl1 : R H5 (.ref p0) (.list ((sortL L).map lampD)) := .lst trivial hp (hx.less fun _ _ => trivial)
      walk_at "rdF"
      refine ⟨_, dx, _, rfl, s5 _ _ ha, _, _, _, _, rfl, (hwa).same s5, fun p1 ys n1 hy => ?_⟩
      have s6 := same_new (o := .lst ys) n1
      have hl2 : R (upd H5 p1 (.lst ys)) (.ref p1) (.list ((sortB B).map BR.d)) := .lst trivial upd_same ((hy.same s6).less fun _ _ => trivial)
      generalize upd H5 p1 (.lst ys) = H6 at *
      walk_at "rdF"
      refine ⟨sz (by simp), fun p2 n2 => ?_⟩
      have s7 := same_new (o := .lst [.ref p0, .ref p1]) n2
      exact hgood R9 _ _ (((s1).trans (s5.trans s6)).trans s7) (.lst trivial upd_same (.cons (hl1.same (s6.trans s7)) (.cons (hl2.same s7) .nil)))
    · have lB1 : B'.length + 1 ≤ 1000 := by rw [List.length_append] at lB; exact lB
      have kk : k = 1 ∨ k = 2 := hk12.elim (fun h => .inl h.1) (fun h => .inr h.1)
      walk_at "rdF"
      refine if_dec (fun hx => by omega) (fun _ => ?_)
      walk_at "rdF"
      refine rep_len he rfl fun xs rx => ?_
      have lx : xs.length = B'.length + 1 := by rw [rx.len]; show ((B' ++ [r]).map BR.d).length = _; rw [List.length_map, List.length_append]; rfl
      walk_at "rdF"
      rw [lx, show (((B'.length + 1 : Nat) : Int) - 1) = (B'.length : Int) by omega]
      have hlast : ((B' ++ [r]).map BR.d)[B'.length]? = some r.d := by rw [List.map_append, List.getElem?_append_right (by rw [List.length_map]; omega), List.length_map, Nat.sub_self]; rfl
      refine he.ixL hlast fun u hu => ?_
      obtain ⟨sl, sh⟩ := sB r (by simp)
      walk_at "rdF"
      refine rep_len he rfl fun xs rx => ?_
      have lx : xs.length = B'.length + 1 := by rw [rx.len]; show ((B' ++ [r]).map BR.d).length = _; rw [List.length_map, List.length_append]; rfl
      walk_at "rdF"
      rw [lx, show (((B'.length + 1 : Nat) : Int) - 1) = (B'.length : Int) by omega]
      refine rd_take he (fun _ _ => trivial) fun p1 H1 s1 np1 k1 => ?_
      rw [List.map_append, List.take_append_of_le_length (by rw [List.length_map]; omega), List.take_of_length_le (by rw [List.length_map]; omega)] at k1
      walk_at "rdF"
      refine rep_ix (hu.same s1) rfl (by decide) rfl fun u0 h0 => ?_
      cases h0.strI
      walk_at "rdF"
      refine rep_ix (hu.same s1) rfl (by decide) rfl fun u0 h0 => ?_
      cases h0.strI
      walk_at "rdF"
      refine rep_ix (hu.same s1) rfl (by decide) rfl fun u0 h0 => ?_
      cases h0.strI
      walk_at "rdF"
      refine ⟨sz (by simp), fun p2 np2 => ?_⟩
      obtain ⟨s2, k2⟩ := new_tup (U := fun _ => True) (vs := [.str r.n, .str r.x, .str r.y, .non, .non]) (ds := [.str r.n, .str r.x, .str r.y, .none, .none]) np2 trivial (.cons (.str _) (.cons (.str _) (.cons (.str _) (.cons .non (.cons .non .nil)))))
      generalize upd H1 p2 (.tup [.str r.n, .str r.x, .str r.y, .non, .non]) = H2 at *
      walk_at "rdF"
      refine ⟨sz (by simp), fun p3 np3 => ?_⟩
      obtain ⟨s3, k3⟩ := new_lst (U := fun _ => True) (vs := [.ref p2]) (ds := [BR.d ⟨r.n, r.x, r.y, .non, .non⟩]) np3 trivial (.cons k2 .nil)
      generalize upd H2 p3 (.lst [.ref p2]) = H3 at *
      walk_at "rdF"
      rcases hk12 with ⟨rfl, R0⟩ | ⟨rfl, R0⟩
      · refine rd_take (k := 0) k3 (fun _ _ => trivial) fun p4 H4 s4 np4 k4 => ?_
        refine rd_cat (k1.same ((s2.trans s3).trans s4)) k4 (by rw [List.length_map]; simp; omega) (fun _ _ => trivial) fun p5 H5 s5 np5 k5 => ?_
        have s15 := (((s1.trans s2).trans s3).trans s4).trans s5
        have k5 : R H5 (.ref p5) (.list (B'.map BR.d)) := by simpa using k5
        walk_at "rdF"
        refine rd_webA (.inl (hn.same s15)) (.inl k5) (rowsL R0.okL) (rowsB R0.okB) (by have := R0.l10; omega) (by omega) (fun _ wa H6 s6 nwa hwa => ?_) fun e hw => (R0.notWrong hw).elim
        walk_at "rdF"
        refine if_dec (fun _ => ?_) (fun hx => absurd rfl hx)
        have s16 := s15.trans s6
        have hL : ∀ z, z ∈ lampNs (sortL L) ↔ z ∈ lampNs L := fun z => ((srt_perm (f := fun r : Str × V => r.1) L).map _).mem_iff
        have hB : ∀ z, z ∈ bondNs (sortB B') ↔ z ∈ bondNs B' := fun z => by
          have := ((srt_perm (f := BR.n) (B'.map keptBR)).map BR.n).mem_iff (a := z)
          rw [List.map_map] at this; exact this
        have lS : (sortB B').length = B'.length := by rw [srt_len, List.length_map]
        obtain ⟨dx, c0, b0, f0, t0, oc, oe', os, gg, qq, ua, ha, _⟩ := hwa.at_.ex
        walk_at "rdF"
        refine ⟨wa, dx, _, rfl, ha, by rfl, ?_⟩
        have hu6 := hu.same s16
        walk_at "rdF"
        refine rep_ix hu6 rfl (by decide) rfl fun u0 h0 => ?_
        cases h0.strI
        walk_at "rdF"
        refine rep_ix hu6 rfl (by decide) rfl fun u0 h0 => ?_
        cases h0.strI
        walk_at "rdF"
        refine rep_ix hu6 rfl (by decide) rfl fun u0 h0 => ?_
        cases h0.strI
        walk_at "rdF"
        refine rep_ix hu6 rfl (by decide) rfl fun u0 h0 => ?_
        cases h0.scI sl
        walk_at "rdF"
        refine rep_ix hu6 rfl (by decide) rfl fun u0 h0 => ?_
        cases h0.scI sh
        walk_at "rdF"
        have nR : r.n.length ≤ 1000 := by
          obtain ⟨i, hi⟩ := List.mem_iff_getElem?.mp (show r ∈ B' ++ [r] by simp)
          have hk : i < (kids (.list ((B' ++ [r]).map BR.d))).length := by rw [rb.len]; exact (List.getElem?_eq_some_iff.mp hi).1
          obtain ⟨r', h1, h2, _⟩ := rb.row (List.getElem?_eq_getElem hk)
          rw [hi] at h1; cases h1
          exact h2.2.2.1
        refine ⟨rfl, rfl, _, wa, _, _, r, rfl, hwa, nR, sl, sh, fun e hw => ?_, fun R9 wb H7 s7 nwb hwb => ?_⟩
        · have hw' := wrong_last hwa.ok.rt R0 hL hB lS hw
          exact fun d H' sm ed => hand _ _ e H6 (hw'.sc sL sB) (fun v H' s r => hbad e hw' v H' (s16.trans s) r) d H' sm ed
        · have R10 : Right L (B' ++ [r]) := right_last hwa.ok.rt R0 hL hB lS R9
          rw [sortB_new (q := r) (q' := r) rfl R10.db] at hwb
          have sH7 := s16.trans s7
          obtain ⟨dx, c0, b0, f0, t0, oc, oe', os, gg, qq, ua, ha, _⟩ := (hwb).at_.ex
          walk_at "rdF"
          refine ⟨_, dx, _, rfl, ha, _, _, _, _, rfl, hwb, fun p0 xs H5 s5 n0 hp hx => ?_⟩
          have hl1 : R H5 (.ref p0) (.list ((sortL L).map lampD)) := .lst trivial hp (hx.less fun _ _ => trivial)
          walk_at "rdF"
          refine ⟨_, dx, _, rfl, s5 _ _ ha, _, _, _, _, rfl, (hwb).same s5, fun p1 ys n1 hy => ?_⟩
          have s6 := same_new (o := .lst ys) n1
          have hl2 : R (upd H5 p1 (.lst ys)) (.ref p1) (.list ((sortB (B' ++ [r])).map BR.d)) := .lst trivial upd_same ((hy.same s6).less fun _ _ => trivial)
          generalize upd H5 p1 (.lst ys) = H6 at *
          walk_at "rdF"
          refine ⟨sz (by simp), fun p2 n2 => ?_⟩
          have s7 := same_new (o := .lst [.ref p0, .ref p1]) n2
          exact hgood R10 _ _ (((sH7).trans (s5.trans s6)).trans s7) (.lst trivial upd_same (.cons (hl1.same (s6.trans s7)) (.cons (hl2.same s7) .nil)))
      · refine rd_take (k := 1) k3 (fun _ _ => trivial) fun p4 H4 s4 np4 k4 => ?_
        refine rd_cat (k1.same ((s2.trans s3).trans s4)) k4 (by rw [List.length_map]; simp; omega) (fun _ _ => trivial) fun p5 H5 s5 np5 k5 => ?_
        have s15 := (((s1.trans s2).trans s3).trans s4).trans s5
        have k5 : R H5 (.ref p5) (.list ((B' ++ [(⟨r.n, r.x, r.y, .non, .non⟩ : BR)]).map BR.d)) := by rw [List.map_append]; exact k5
        walk_at "rdF"
        refine rd_webA (.inl (hn.same s15)) (.inl k5) (rowsL R0.okL) (rowsB R0.okB) (by have := R0.l10; omega) (by rw [List.length_append]; simp; omega) (fun _ wa H6 s6 nwa hwa => ?_) fun e hw => (R0.notWrong hw).elim
        walk_at "rdF"
        refine if_dec (fun hx => absurd hx (by decide)) (fun _ => ?_)
        have s16 := s15.trans s6
        obtain ⟨dx, c0, b0, f0, t0, oc, oe', os, gg, qq, ua, ha, _⟩ := hwa.at_.ex
        walk_at "rdF"
        refine ⟨wa, dx, _, rfl, ha, by rfl, ?_⟩
        have hu6 := hu.same s16
        walk_at "rdF"
        refine rep_ix hu6 rfl (by decide) rfl fun u0 h0 => ?_
        cases h0.strI
        walk_at "rdF"
        refine rep_ix hu6 rfl (by decide) rfl fun u0 h0 => ?_
        cases h0.scI sl
        walk_at "rdF"
        refine rep_ix hu6 rfl (by decide) rfl fun u0 h0 => ?_
        cases h0.scI sh
        walk_at "rdF"
        have dn : (bondNs B').Nodup ∧ r.n ∉ bondNs B' := by
          have := R0.db
          rw [bn_last] at this
          exact ⟨(List.nodup_append.mp this).1, fun hx => (List.nodup_append.mp this).2.2 r.n hx r.n (by simp) rfl⟩
        have R0' : Right L B' := R0.front
        have r1 : Right1 L (B' ++ [r]) := of1 R0' (show isNm r.n = true from to1 (r := ⟨r.n, r.x, r.y, .non, .non⟩) R0.toRight1)
        have zin : r.n ∈ bondNs (sortB (B' ++ [(⟨r.n, r.x, r.y, .non, .non⟩ : BR)])) := by
          have := ((srt_perm (f := BR.n) ((B' ++ [(⟨r.n, r.x, r.y, .non, .non⟩ : BR)]).map keptBR)).map BR.n).mem_iff (a := r.n)
          refine this.mpr ?_
          rw [List.map_map]; simp [keptBR]
        refine ⟨_, wa, _, _, r.n, r.l, r.h, rfl, hwa, sl, sh, fun ol => ?_, fun ol oh => ?_, fun ol oh cr => ?_, fun _ _ _ hx => absurd zin hx, fun ol oh cr _ wb H7 s7 nwb hwb => ?_⟩
        · have hw : Wrong L (B' ++ [r]) (.num r.l) := .num r1 (by rw [nm_last]; exact first_app (fun u hu => by simp [R0'.num u hu]) ⟨[], [r.h], rfl, by simp, ol⟩)
          exact fun d H' sm ed => hand _ _ (.num r.l) H6 sl (fun v H' s r => hbad _ hw v H' (s16.trans s) r) d H' sm ed
        · have hw : Wrong L (B' ++ [r]) (.num r.h) := .num r1 (by rw [nm_last]; exact first_app (fun u hu => by simp [R0'.num u hu]) ⟨[r.l], [], rfl, by simp [ol], oh⟩)
          exact fun d H' sm ed => hand _ _ (.num r.h) H6 sh (fun v H' s r => hbad _ hw v H' (s16.trans s) r) d H' sm ed
        · have hw : Wrong L (B' ++ [r]) (.span r.l r.h) := .span (of2 R0' r1 ol oh) (first_app (fun u hu => by simp [R0'.sp u hu]) ⟨[], [], rfl, by simp, cr⟩)
          exact fun d H' sm ed => hand _ _ (.span r.l r.h) H6 ⟨sl, sh⟩ (fun v H' s r => hbad _ hw v H' (s16.trans s) r) d H' sm ed
        · have r3 : Right3 L (B' ++ [r]) := of3 R0' (of2 R0' r1 ol oh) cr
          have r6 : Right6 L (B' ++ [r]) := of6 R0' (of5 R0' r3 dn.2) (show r.x ≠ r.y from to6 (r := ⟨r.n, r.x, r.y, .non, .non⟩) R0.toRight6)
          obtain ⟨x7, y7⟩ : r.x ∈ lampNs L ∧ r.y ∈ lampNs L := to7 (r := ⟨r.n, r.x, r.y, .non, .non⟩) R0.toRight7
          have R10 : Right L (B' ++ [r]) := ⟨⟨of7 R0' r6 x7 y7, R0'.l1, R0'.l10⟩, by have := R0.l16; rw [List.length_append] at this ⊢; exact this⟩
          have e : setSpan (B' ++ [(⟨r.n, r.x, r.y, .non, .non⟩ : BR)]) r.n r.l r.h = B' ++ [r] := by
            unfold setSpan
            rw [List.map_append]
            congr 1
            · conv => rhs; rw [← List.map_id B']
              exact List.map_congr_left fun q hq => by rw [if_neg (fun c : q.n = r.n => dn.2 (by rw [← c]; exact List.mem_map_of_mem hq))]; rfl
            · simp
          rw [← sortB_setSpan R0.db, e] at hwb
          have sH7 := s16.trans s7
          obtain ⟨dx, c0, b0, f0, t0, oc, oe', os, gg, qq, ua, ha, _⟩ := (hwb).at_.ex
          walk_at "rdF"
          refine ⟨_, dx, _, rfl, ha, _, _, _, _, rfl, hwb, fun p0 xs H5 s5 n0 hp hx => ?_⟩
          have hl1 : R H5 (.ref p0) (.list ((sortL L).map lampD)) := .lst trivial hp (hx.less fun _ _ => trivial)
          walk_at "rdF"
          refine ⟨_, dx, _, rfl, s5 _ _ ha, _, _, _, _, rfl, (hwb).same s5, fun p1 ys n1 hy => ?_⟩
          have s6 := same_new (o := .lst ys) n1
          have hl2 : R (upd H5 p1 (.lst ys)) (.ref p1) (.list ((sortB (B' ++ [r])).map BR.d)) := .lst trivial upd_same ((hy.same s6).less fun _ _ => trivial)
          generalize upd H5 p1 (.lst ys) = H6 at *
          walk_at "rdF"
          refine ⟨sz (by simp), fun p2 n2 => ?_⟩
          have s7 := same_new (o := .lst [.ref p0, .ref p1]) n2
          exact hgood R10 _ _ (((sH7).trans (s5.trans s6)).trans s7) (.lst trivial upd_same (.cons (hl1.same (s6.trans s7)) (.cons (hl2.same s7) .nil)))
end
set_option maxHeartbeats 1000000
abbrev s_law_holds : Stmt := topS 68
theorem sc_law_holds : FnScope ["k", "nodes", "edges", "due", "handed", "node", "edge"] ["k", "nodes", "edges"] (defScope s_law_holds) := ⟨rfl, rfl, rfl, by decide +kernel, rfl, by decide +kernel, by decide +kernel⟩
theorem First.prop {α : Type} {p : α → Prop} {l : List α} {v : α} (h : First p l v) : p v := by
  obtain ⟨_, _, _, _, q⟩ := h; exact q
theorem First.one {α : Type} {p : α → Prop} {l : List α} {u v : α} (hu : First p l u) (hv : First p l v) : u = v := by
  obtain ⟨a, b, e, ha, pu⟩ := hu
  obtain ⟨c, d, e2, hc, pv⟩ := hv
  rw [e] at e2
  rcases List.append_eq_append_iff.mp e2 with ⟨x, rfl, ex⟩ | ⟨x, rfl, ex⟩
  · cases x with
    | nil => injection ex
    | cons y x =>
      injection ex with e1 _
      exact absurd pu (hc u (by rw [e1]; simp))
  · cases x with
    | nil => injection ex with e1 _; exact e1.symm
    | cons y x =>
      injection ex with e1 _
      exact absurd pv (ha v (by rw [e1]; simp))
section
variable {L : List (Str × V)} {B : List BR}
theorem c1 {z : Str} (f : First (fun z => isNm z = false) (lampNs L ++ bondNs B) z) (r : Right1 L B) : False := by
  have := r.nm _ f.mem
  rw [f.prop] at this; cases this
theorem c2 {v : V} (f : First (fun v => isOpen v = false) (numsOf L B) v) (r : Right2 L B) : False := by
  have := r.num _ f.mem
  rw [f.prop] at this; cases this
theorem c3 {q : BR} (f : First (fun r : BR => crossed r.l r.h = true) B q) (r : Right3 L B) : False := by
  have := r.sp _ f.mem
  rw [f.prop] at this; cases this
theorem c4 {z : Str} (f : firstDup [] (lampNs L) = some z) (r : Right4 L B) : False := by rw [dup_none'.mpr r.dl] at f; cases f
theorem c5 {z : Str} (f : firstDup [] (bondNs B) = some z) (r : Right5 L B) : False := by rw [dup_none'.mpr r.db] at f; cases f
theorem c6 {q : BR} (f : First (fun r : BR => r.x = r.y) B q) (r : Right6 L B) : False := r.sf _ f.mem f.prop
theorem c7 {z : Str} (f : First (fun z => z ∉ lampNs L) (endsOf B) z) (r : Right7 L B) : False := f.prop (r.unk _ f.mem)
theorem c8 (f : ¬ ((1 : Int) ≤ L.length ∧ (L.length : Int) ≤ 10)) (r : Right8 L B) : False := f ⟨by have := r.l1; omega, by have := r.l10; omega⟩
theorem Wrong.one {e e' : PErr} (h1 : Wrong L B e) (h2 : Wrong L B e') : e = e' := by
  cases h1 with
  | name f => cases h2 with
    | name g => rw [First.one f g]
    | num b g => exact (c1 f b).elim
    | span b g => exact (c1 f b.toRight1).elim
    | dblL b g => exact (c1 f b.toRight1).elim
    | dblB b g => exact (c1 f b.toRight1).elim
    | self b g => exact (c1 f b.toRight1).elim
    | unk b g => exact (c1 f b.toRight1).elim
    | lamps b g => exact (c1 f b.toRight1).elim
    | bonds b g => exact (c1 f b.toRight1).elim
  | num a f => cases h2 with
    | name g => exact (c1 g a).elim
    | num b g => rw [First.one f g]
    | span b g => exact (c2 f b).elim
    | dblL b g => exact (c2 f b.toRight2).elim
    | dblB b g => exact (c2 f b.toRight2).elim
    | self b g => exact (c2 f b.toRight2).elim
    | unk b g => exact (c2 f b.toRight2).elim
    | lamps b g => exact (c2 f b.toRight2).elim
    | bonds b g => exact (c2 f b.toRight2).elim
  | span a f => cases h2 with
    | name g => exact (c1 g a.toRight1).elim
    | num b g => exact (c2 g a).elim
    | span b g => rw [First.one f g]
    | dblL b g => exact (c3 f b).elim
    | dblB b g => exact (c3 f b.toRight3).elim
    | self b g => exact (c3 f b.toRight3).elim
    | unk b g => exact (c3 f b.toRight3).elim
    | lamps b g => exact (c3 f b.toRight3).elim
    | bonds b g => exact (c3 f b.toRight3).elim
  | dblL a f => cases h2 with
    | name g => exact (c1 g a.toRight1).elim
    | num b g => exact (c2 g a.toRight2).elim
    | span b g => exact (c3 g a).elim
    | dblL b g => rw [f] at g; cases g; rfl
    | dblB b g => exact (c4 f b).elim
    | self b g => exact (c4 f b.toRight4).elim
    | unk b g => exact (c4 f b.toRight4).elim
    | lamps b g => exact (c4 f b.toRight4).elim
    | bonds b g => exact (c4 f b.toRight4).elim
  | dblB a f => cases h2 with
    | name g => exact (c1 g a.toRight1).elim
    | num b g => exact (c2 g a.toRight2).elim
    | span b g => exact (c3 g a.toRight3).elim
    | dblL b g => exact (c4 g a).elim
    | dblB b g => rw [f] at g; cases g; rfl
    | self b g => exact (c5 f b).elim
    | unk b g => exact (c5 f b.toRight5).elim
    | lamps b g => exact (c5 f b.toRight5).elim
    | bonds b g => exact (c5 f b.toRight5).elim
  | self a f => cases h2 with
    | name g => exact (c1 g a.toRight1).elim
    | num b g => exact (c2 g a.toRight2).elim
    | span b g => exact (c3 g a.toRight3).elim
    | dblL b g => exact (c4 g a.toRight4).elim
    | dblB b g => exact (c5 g a).elim
    | self b g => rw [First.one f g]
    | unk b g => exact (c6 f b).elim
    | lamps b g => exact (c6 f b.toRight6).elim
    | bonds b g => exact (c6 f b.toRight6).elim
  | unk a f => cases h2 with
    | name g => exact (c1 g a.toRight1).elim
    | num b g => exact (c2 g a.toRight2).elim
    | span b g => exact (c3 g a.toRight3).elim
    | dblL b g => exact (c4 g a.toRight4).elim
    | dblB b g => exact (c5 g a.toRight5).elim
    | self b g => exact (c6 g a).elim
    | unk b g => rw [First.one f g]
    | lamps b g => exact (c7 f b).elim
    | bonds b g => exact (c7 f b.toRight7).elim
  | lamps a f => cases h2 with
    | name g => exact (c1 g a.toRight1).elim
    | num b g => exact (c2 g a.toRight2).elim
    | span b g => exact (c3 g a.toRight3).elim
    | dblL b g => exact (c4 g a.toRight4).elim
    | dblB b g => exact (c5 g a.toRight5).elim
    | self b g => exact (c6 g a.toRight6).elim
    | unk b g => exact (c7 g a).elim
    | lamps b g => rfl
    | bonds b g => exact (c8 f b).elim
  | bonds a f => cases h2 with
    | name g => exact (c1 g a.toRight1).elim
    | num b g => exact (c2 g a.toRight2).elim
    | span b g => exact (c3 g a.toRight3).elim
    | dblL b g => exact (c4 g a.toRight4).elim
    | dblB b g => exact (c5 g a.toRight5).elim
    | self b g => exact (c6 g a.toRight6).elim
    | unk b g => exact (c7 g a.toRight7).elim
    | lamps b g => exact (c8 g a).elim
    | bonds b g => rfl
end
section
variable {P : Program} {w : World} {K : PySem.W.Frag} {mg : Str → Option Value} {base : Heap} {C CS : Addr}
def rowLd (r : BR) : PyData := .list [.str r.n, .str r.x, .str r.y, vD r.l, vD r.h]
theorem rowsLdT {L : List (Str × V)} (h : ∀ r ∈ L, r.1.length ≤ 1000 ∧ Sc r.2) : RowsD LampRow (.tuple (L.map lampLd)) L := rowsLd h
theorem rowsBdT {B : List BR} (h : ∀ r ∈ B, r.n.length ≤ 1000 ∧ Sc r.l ∧ Sc r.h) : RowsD BondRow (.tuple (B.map rowLd)) B := by
  refine ⟨rfl, by show (B.map rowLd).length = _; rw [List.length_map], fun i e he => ?_⟩
  have he : (B.map rowLd)[i]? = some e := he
  rw [List.getElem?_map] at he
  cases q : B[i]? with
  | none => rw [q] at he; cases he
  | some r =>
    rw [q] at he
    cases he
    obtain ⟨h1, h2, h3⟩ := h r (List.mem_of_getElem? q)
    exact ⟨r, rfl, rfl, rfl, h1, h2, h3⟩
theorem eqv_sc {v : V} (h : Sc v) : PyData.eqv (vD v) (vD v) = true := by
  cases v <;> first | exact h.elim | simp [vD, PyData.eqv]
theorem eqvAll_self {ds : List PyData} (h : ∀ e ∈ ds, PyData.eqv e e = true) : PyData.eqvAll ds ds = true := by
  induction ds with
  | nil => rfl
  | cons d ds ih =>
    simp only [PyData.eqvAll, Bool.and_eq_true]
    exact ⟨h d List.mem_cons_self, ih fun e he => h e (List.mem_cons_of_mem _ he)⟩
theorem eqv_list {ds : List PyData} (h : ∀ e ∈ ds, PyData.eqv e e = true) : PyData.eqv (.list ds) (.list ds) = true := by simp only [PyData.eqv]; exact eqvAll_self h
theorem eqv_tuple {ds : List PyData} (h : ∀ e ∈ ds, PyData.eqv e e = true) : PyData.eqv (.tuple ds) (.tuple ds) = true := by simp only [PyData.eqv]; exact eqvAll_self h
theorem NB.shp {n : Nat} {v : V} (h : NB v) : Shp n (vD v) := by
  rcases h with h | ⟨b, rfl⟩
  · exact .ni h
  · exact .bool
def rowsD (L : List (Str × V)) (B : List BR) : PyData := .list [.list (L.map lampD), .list (B.map BR.d)]
theorem rows_shp {m : Nat} {L : List (Str × V)} {B : List BR} (h1 : ∀ q ∈ L, LsL m q) (h2 : ∀ q ∈ B, LsB m q) : Shp 3 (rowsD L B) := .list fun e he => by
  simp at he
  rcases he with rfl | rfl
  · refine .list fun e he => ?_
    obtain ⟨r, hr, rfl⟩ := List.mem_map.mp he
    refine .tuple fun e he => ?_
    simp at he
    rcases he with rfl | rfl
    · exact .str (h1 r hr).n
    · exact (h1 r hr).v.shp
  · refine .list fun e he => ?_
    obtain ⟨r, hr, rfl⟩ := List.mem_map.mp he
    refine .tuple fun e he => ?_
    simp at he
    rcases he with rfl | rfl | rfl | rfl | rfl
    · exact .str (h2 r hr).n
    · exact .str (h2 r hr).x
    · exact .str (h2 r hr).y
    · exact (h2 r hr).l.shp
    · exact (h2 r hr).h.shp
theorem rows_eqv {m : Nat} {L : List (Str × V)} {B : List BR} (h1 : ∀ q ∈ L, LsL m q) (h2 : ∀ q ∈ B, LsB m q) : PyData.eqv (rowsD L B) (rowsD L B) = true := by
  have es : ∀ z : Str, PyData.eqv (.str z) (.str z) = true := fun z => eqv_sc (v := .str z) trivial
  refine eqv_list fun e he => ?_
  simp at he
  rcases he with rfl | rfl
  · refine eqv_list fun e he => ?_
    obtain ⟨r, hr, rfl⟩ := List.mem_map.mp he
    refine eqv_tuple fun e he => ?_
    simp at he
    rcases he with rfl | rfl
    · exact es _
    · exact eqv_sc (h1 r hr).v.sc
  · refine eqv_list fun e he => ?_
    obtain ⟨r, hr, rfl⟩ := List.mem_map.mp he
    refine eqv_tuple fun e he => ?_
    simp at he
    rcases he with rfl | rfl | rfl | rfl | rfl
    · exact es _
    · exact es _
    · exact es _
    · exact eqv_sc (h2 r hr).l.sc
    · exact eqv_sc (h2 r hr).h.sc
/-- what is due -/
def DueD (L : List (Str × V)) (B : List BR) (d : PyData) : Prop := (Right L B ∧ d = rowsD (sortL L) (sortB B)) ∨ ∃ e, Wrong L B e ∧ d = errFull e
theorem errFull_okd (e : PErr) : Okd 3 (errFull e) := by
  refine ⟨by cases e <;> simp [errL], fun d hd => ?_⟩
  have : ∀ d ∈ errL e ++ [.bool true, .bool false], (∃ z, d = .str z) ∨ (∃ v, d = vD v) := fun d hd => by
    cases e <;> simp [errL] at hd <;> rcases hd with rfl | hd
    all_goals first
      | exact .inl ⟨_, rfl⟩
      | (rcases hd with rfl | rfl | rfl
         · first | exact .inl ⟨_, rfl⟩ | exact .inr ⟨_, rfl⟩
         · exact .inr ⟨.bl true, rfl⟩
         · exact .inr ⟨.bl false, rfl⟩)
      | (rcases hd with rfl | rfl | rfl | rfl
         · exact .inr ⟨_, rfl⟩
         · exact .inr ⟨_, rfl⟩
         · exact .inr ⟨.bl true, rfl⟩
         · exact .inr ⟨.bl false, rfl⟩)
      | (rcases hd with rfl | rfl | rfl | rfl | rfl
         · exact .inr ⟨.int _, rfl⟩
         · exact .inr ⟨.int _, rfl⟩
         · exact .inr ⟨.int _, rfl⟩
         · exact .inr ⟨.bl true, rfl⟩
         · exact .inr ⟨.bl false, rfl⟩)
  rcases this d hd with ⟨z, rfl⟩ | ⟨v, rfl⟩
  · exact okd_str
  · exact okd_sc
theorem rows_okd {L : List (Str × V)} {B : List BR} (h1 : L.length ≤ 100000) (h2 : B.length ≤ 100000) : Okd 3 (rowsD L B) := by
  refine ⟨by simp, fun e he => ?_⟩
  simp at he
  rcases he with rfl | rfl
  · exact okd_map h1 fun r _ => okd_lamp
  · exact okd_map h2 fun r _ => okd_bond
theorem DueD.okd {L : List (Str × V)} {B : List BR} {d : PyData} (h : DueD L B d) : Okd 3 d := by
  rcases h with ⟨r, rfl⟩ | ⟨e, _, rfl⟩
  · exact rows_okd (by rw [srt_len]; have := r.l10; omega) (by rw [srt_len, List.length_map]; have := r.l16; omega)
  · exact errFull_okd e
def spHolds : Sp := fun vs H Q _ => ∃ (k : Int) (nv ev : V) (L : List (Str × V)) (B : List BR) (m : Nat), vs = [.int k, nv, ev] ∧ R H nv (.list (L.map lampD)) ∧ R H ev (.list (B.map BR.d)) ∧ m ≤ 900 ∧ (∀ q ∈ L, LsL m q) ∧ (∀ q ∈ B, LsB m q) ∧ L.length ≤ 100 ∧ B.length ≤ 100 ∧
  (k = 0 ∨ ∃ B' r, B = B' ++ [r] ∧ ((k = 1 ∧ Right L B') ∨ (k = 2 ∧ Right L (B' ++ [⟨r.n, r.x, r.y, .non, .non⟩])))) ∧ ∀ H', Same H H' → Q (.bl true) H'
theorem ok_holds {k : Nat} {f : Addr} {fd : FuncData} (F : Fun K "_law_holds" "_law_holds" s_law_holds f fd) (T : Blt mg) (H_law_web_due : Has P w K mg base "_law_web_due" k ["nodes", "edges"] spDueW) (H_law_kept_rows : Has P w K mg base "_law_kept_rows" k ["plan"] spKeptRows) (H_law_alike : Has P w K mg base "_law_alike" k ["left", "right"] (spAlike 3)) (H_law_asked : Has P w K mg base "_law_asked" k ["k", "nodes", "edges"] (spAsk7 C CS)) : FnOk P w K mg base CX0 (k + 1) f fd ["k", "nodes", "edges"] spHolds := by
  refine F.ok sc_law_holds (fun vs H Q E h => ?_) (fun cdv A outer s H vs Q E hr h => ?_)
  · obtain ⟨k, nv, ev, L, B, m, rfl, _⟩ := h; rfl
  · obtain ⟨k, nv, ev, L, B, m, rfl, hn, he, m9, okL, okB, lL, lB, hkind, h⟩ := h
    refine ⟨_, (C8.pss_cut (ps_set (i := 3) sc_law_holds.nd rfl (.inl rfl) (pe_callH H_law_web_due hr (by rfl) (pa_cons (pv 1) (pa_cons (pv 2) pa_nil))))
 (C8.pss_cut (ps_if (pt_cmpR op_isN (pv 3) pe_non (nomark _)) (pss_one (ps_set (i := 3) sc_law_holds.nd rfl (.inl rfl) (pe_callH H_law_kept_rows hr (by rfl) (pa_cons (pe_lst (pa_cons (pv 1) (pa_cons (pv 2) pa_nil))) pa_nil)))) (pss_one (ps_set (i := 3) sc_law_holds.nd rfl (.inl rfl) (pe_op op_catT (pv 3) (pe_tup (pa_cons pe_bl (pa_cons pe_bl pa_nil)))))))
 (pss_cons (ps_set (i := 4) sc_law_holds.nd rfl (.inl rfl) (pe_lst (pa_cons (pe_callTy call_list_of (by rfl) T.list' (by decide +kernel) (pa_cons (pv 1) pa_nil)) (pa_cons (pe_callTy call_list_of (by rfl) T.list' (by decide +kernel) (pa_cons (pv 2) pa_nil)) pa_nil))))
 (pss_cons (ps_if (PW.pt (pw_or (pt_not (pt_val (pe_callH H_law_alike hr (by rfl) (pa_cons (pe_callH H_law_asked hr (by rfl) (pa_cons (pv 0) (pa_cons (pe_ix (ix_seqR (K := K) rfl) (pv 4) pe_int (fun _ _ => rfl)) (pa_cons (pe_ix (ix_seqR (K := K) rfl) (pv 4) pe_int (fun _ _ => rfl)) pa_nil)))) (pa_cons (pv 3) pa_nil))))) (pw_or1 (pt_cmpR (op_neD hr.units) (pv 4) (pe_lst (pa_cons (pv 1) (pa_cons (pv 2) pa_nil))) (by rfl))))) (pss_one (ps_ret pe_bl)) pss_nil)
 (pss_cons (ps_if (pt_cmpR op_gt (pv 0) pe_int (nomark _)) (pss_one (ps_ret pe_bl)) pss_nil)
 (pss_cons (ps_set (i := 4) sc_law_holds.nd rfl (.inl rfl) (pe_lst (pa_cons (pe_callTy call_tuple_of (by rfl) T.tuple (by decide +kernel) (pa_cons (pe_lc (own := [("node", 5)]) (g := (gName 5)) (by rfl) sc_law_holds.nd (pi_seq (pv 1)) (blkOk_by (own := [("node", 5)]) (N := ["k", "nodes", "edges", "due", "handed", "node", "edge"]) (sc := defScope s_law_holds) (by decide +kernel)) (fun _ _ _ _ _ => (pg_name (i := 5) sc_law_holds.nd rfl (.inl rfl))) (fun _ _ _ _ _ => pts_nil) (fun _ _ _ _ _ => (pe_callTy (call_list_ofR (K := K) rfl) (by rfl) T.list' (by decide +kernel) (pa_cons (pv 5) pa_nil)))) pa_nil)) (pa_cons (pe_callTy call_tuple_of (by rfl) T.tuple (by decide +kernel) (pa_cons (pe_lc (own := [("edge", 6)]) (g := (gName 6)) (by rfl) sc_law_holds.nd (pi_seq (pv 2)) (blkOk_by (own := [("edge", 6)]) (N := ["k", "nodes", "edges", "due", "handed", "node", "edge"]) (sc := defScope s_law_holds) (by decide +kernel)) (fun _ _ _ _ _ => (pg_name (i := 6) sc_law_holds.nd rfl (.inl rfl))) (fun _ _ _ _ _ => pts_nil) (fun _ _ _ _ _ => (pe_callTy (call_list_ofR (K := K) rfl) (by rfl) T.list' (by decide +kernel) (pa_cons (pv 6) pa_nil)))) pa_nil)) pa_nil))))
 (pss_one (ps_ret (pe_callH H_law_alike hr (by rfl) (pa_cons (pe_callH H_law_asked hr (by rfl) (pa_cons (pv 0) (pa_cons (pe_ix (ix_seqR (K := K) rfl) (pv 4) pe_int (fun _ _ => rfl)) (pa_cons (pe_ix (ix_seqR (K := K) rfl) (pv 4) pe_int (fun _ _ => rfl)) pa_nil)))) (pa_cons (pv 3) pa_nil))))))))))), ?_⟩
    walk_at "rdF"
    refine rd_cut (fun σ' H' => ∃ dv, σ' = [some (.int k), some nv, some ev, some dv, none, none, none] ∧ Same H H' ∧ ((Right L B ∧ dv = .non) ∨ ∃ e, Wrong L B e ∧ R H' dv (.tuple (errL e)))) ?_ ?_
    · walk_at "rdF"
      refine ⟨nv, ev, L, B, m, rfl, hn, he, m9, okL, okB, lL, lB, fun R0 H1 s1 => ?_, fun e v H1 hw s1 hv => ?_⟩
      · walk_at "rdF"
        exact ⟨_, rfl, s1, .inl ⟨R0, rfl⟩⟩
      · walk_at "rdF"
        exact ⟨_, rfl, s1, .inr ⟨e, hw, hv⟩⟩
    rintro σ1 H1 ⟨dv, rfl, s1, hdv⟩
    walk_at "rdF"
    refine rd_cut (fun σ' H' => ∃ dv d, σ' = [some (.int k), some nv, some ev, some dv, none, none, none] ∧ Same H H' ∧ R H' dv d ∧ DueD L B d) ?_ ?_
    · rcases hdv with ⟨R0, rfl⟩ | ⟨e, hw, hd⟩
      · walk_at "rdF"
        refine ⟨sz (by simp), fun p np => ?_⟩
        have sp := same_new (o := .lst [nv, ev]) np
        have hp : R (upd H1 p (.lst [nv, ev])) (.ref p) (.list [.list (L.map lampD), .list (B.map BR.d)]) := .lst trivial upd_same (.cons (hn.same (s1.trans sp)) (.cons (he.same (s1.trans sp)) .nil))
        generalize upd H1 p (.lst [nv, ev]) = H2 at *
        walk_at "rdF"
        refine ⟨_, L, B, [], rfl, hp, R0.dl, R0.db, by omega, fun r hr => (R0.okB r hr).2, fun q H3 s3 nq hq => ?_⟩
        walk_at "rdF"
        exact ⟨_, _, rfl, (s1.trans sp).trans s3, hq, .inl ⟨R0, rfl⟩⟩
      · obtain ⟨p, xs, rfl, _, hp, rx⟩ := hd.tupI
        walk_at "rdF"
        refine ⟨sz (by simp), fun q nq => ?_⟩
        have sq := same_new (o := .tup [V.bl true, .bl false]) nq
        have hq := @upd_same H1 q (.tup [V.bl true, .bl false])
        generalize upd H1 q (.tup [V.bl true, .bl false]) = H2 at *
        have lxs : xs.length ≤ 10 ∧ xs ≠ [] := by
          have l := rx.len
          constructor
          · cases e <;> simp [errL] at l <;> omega
          · rintro rfl; cases e <;> simp [errL] at l
        refine ⟨p, q, xs, _, rfl, rfl, st_of (sq _ _ hp), st_of hq, lxs.2, Nat.le_trans (by simp; omega : _ ≤ 100) (by decide), (fun c => by cases c), fun _ p2 np2 => ?_⟩
        have s3 := same_new (o := .tup (xs ++ [V.bl true, .bl false])) np2
        walk_at "rdF"
        exact ⟨_, _, rfl, (s1.trans sq).trans s3, .tup trivial upd_same (((rx.same sq).same s3).app (.cons (.bl _) (.cons (.bl _) .nil))), .inr ⟨e, hw, rfl⟩⟩
    rintro σ2 H2 ⟨dv, d, rfl, s2, hd, dd⟩
    clear hdv s1
    have hn2 := hn.same s2
    have he2 := he.same s2
    have okd := dd.okd
    -- what the asking tells is what is due
    have tell : ∀ {QQ : VK} {H1 : Hp}, (∀ v H', Same H1 H' → R H' v d → QQ v H') → (Right L B → ∀ v H', Same H1 H' → R H' v (.list [.list ((sortL L).map lampD), .list ((sortB B).map BR.d)]) → QQ v H') ∧ (∀ e, Wrong L B e → ∀ v H', Same H1 H' → R H' v (errFull e) → QQ v H') := fun g => by
      rcases dd with ⟨R0, rfl⟩ | ⟨e, hw, rfl⟩
      · exact ⟨fun _ => g, fun e he => (R0.notWrong he).elim⟩
      · exact ⟨fun R0 => (R0.notWrong hw).elim, fun e' he' => by rw [he'.one hw]; exact g⟩
    have okL' : ∀ r ∈ L, r.1.length ≤ 1000 ∧ Sc r.2 := fun r hr => ⟨by have := (okL r hr).n.len; omega, (okL r hr).v.sc⟩
    have okB' : ∀ r ∈ B, r.n.length ≤ 1000 ∧ Sc r.l ∧ Sc r.h := fun r hr => ⟨by have := (okB r hr).n.len; omega, (okB r hr).l.sc, (okB r hr).h.sc⟩
    walk_at "rdF"
    refine rep_len hn2 rfl fun xs rx => ?_
    intro p1 np1
    obtain ⟨t1, q1⟩ := new_lst (U := fun _ => True) np1 trivial rx
    have q1 : R (upd H2 p1 (.lst xs)) (.ref p1) (.list (L.map lampD)) := q1
    generalize upd H2 p1 (.lst xs) = H3 at *
    walk_at "rdF"
    refine rep_len (he2.same t1) rfl fun ys ry => ?_
    intro p2 np2
    obtain ⟨t2, q2⟩ := new_lst (U := fun _ => True) np2 trivial ry
    have q2 : R (upd H3 p2 (.lst ys)) (.ref p2) (.list (B.map BR.d)) := q2
    generalize upd H3 p2 (.lst ys) = H4 at *
    walk_at "rdF"
    refine ⟨sz (by simp), fun p3 np3 => ?_⟩
    obtain ⟨t3, q3⟩ := new_lst (U := fun _ => True) (vs := [.ref p1, .ref p2]) (ds := [.list (L.map lampD), .list (B.map BR.d)]) np3 trivial (.cons (q1.same t2) (.cons q2 .nil))
    generalize upd H4 p3 (.lst [.ref p1, .ref p2]) = H5 at *
    have t13 := (t1.trans t2).trans t3
    walk_at "rdF"
    refine q3.ixL (i := 0) rfl fun u1 g1 => ?_
    walk_at "rdF"
    refine q3.ixL (i := 1) rfl fun u2 g2 => ?_
    walk_at "rdF"
    refine ⟨k, u1, u2, _, _, L, B, rfl, g1, g2, rowsL okL', rowsB okB', by omega, by omega, ?_, tell fun v H6 t6 hv => ?_⟩
    · rcases hkind with rfl | ⟨B', r, rfl, hk⟩
      · exact .inl rfl
      · exact .inr ⟨B', r, rfl, rfl, rfl, hk⟩
    walk_at "rdF"
    refine ⟨_, _, d, rfl, hv, hd.same (t13.trans t6), okd, fun H7 t7 => ?_⟩
    have t17 := (t13.trans t6).trans t7
    walk_at "rdF"
    refine ⟨sz (by simp), fun p4 np4 => ?_⟩
    have t8 := same_new (o := .lst [nv, ev]) np4
    have q4 : R (upd H7 p4 (.lst [nv, ev])) (.ref p4) (rowsD L B) := .lst trivial upd_same (.cons (hn2.same (t17.trans t8)) (.cons (he2.same (t17.trans t8)) .nil))
    generalize upd H7 p4 (.lst [nv, ev]) = H8 at *
    have sh := (rows_shp okL okB).shaped (by omega)
    refine ⟨_, _, (q3.same ((t6.trans t7).trans t8)).dp, q4.dp, sh, sh, ?_⟩
    rw [show PyData.eqv (.list [.list (L.map lampD), .list (B.map BR.d)]) (rowsD L B) = true from rows_eqv okL okB]
    have t18 := t17.trans t8
    walk_at "rdF"
    refine if_dec (fun hk => ?_) (fun hk => ?_)
    · walk_at "rdF"
      exact h _ (s2.trans t18)
    · have k0 : k = 0 := by
        rcases hkind with e | ⟨_, _, _, ⟨e, _⟩ | ⟨e, _⟩⟩ <;> omega
      subst k0
      walk_at "rdF"
      refine lc_seq (U := fun _ => True) (fun ds => ds.map asList) (fun _ => True) (.inl (hn2.same t18)) rfl (fun _ _ => trivial) rfl (fun _ _ => trivial) (fun D j x e H' uD nD he hx hI => ?_) ?_
      · have he' : (L.map lampD)[j]? = some e := he
        rw [List.getElem?_map] at he'
        cases qi : L[j]? with
        | none => rw [qi] at he'; cases he'
        | some b =>
          rw [qi] at he'
          cases he'
          refine ⟨by walk_at "wiped", ?_⟩
          walk_at "rdF"
          refine rep_len hx rfl fun zs rz => ?_
          intro l nl
          have sl := same_new (o := .lst zs) nl
          refine hI.put (e := asList (lampD b)) (.new nl) trivial nD (fun _ => trivial) (.lst ⟨trivial, hI.ne nl⟩ upd_same (RepL.same sl rz)) ?_ ?_ (fun _ _ => trivial)
          · rw [List.length_map, List.length_take]
            show min j (L.map lampD).length < _
            rw [List.length_map]; omega
          · rw [take_succ he, List.map_append]; rfl
      rintro p5 acc5 H9 e9 _ np5 hp5 hacc5 _
      rw [show (kids (PyData.list (L.map lampD))).map asList = L.map lampLd by
        show (L.map lampD).map asList = _
        rw [List.map_map]; rfl] at hacc5
      have t9 := t18.trans e9.toSame
      walk_at "rdF"
      refine ⟨p5, acc5, rfl, .inl ⟨sl_of hp5, fun p6 np6 => ?_⟩⟩
      have s10 := same_new (o := .tup acc5) np6
      have q6 : R (upd H9 p6 (.tup acc5)) (.ref p6) (.tuple (L.map lampLd)) := .tup trivial upd_same ((hacc5.same s10).less fun _ _ => trivial)
      generalize upd H9 p6 (.tup acc5) = H10 at *
      have t10 := t9.trans s10
      walk_at "rdF"
      refine lc_seq (U := fun _ => True) (fun ds => ds.map asList) (fun _ => True) (.inl (he2.same t10)) rfl (fun _ _ => trivial) rfl (fun _ _ => trivial) (fun D j x e H' uD nD he hx hI => ?_) ?_
      · have he' : (B.map BR.d)[j]? = some e := he
        rw [List.getElem?_map] at he'
        cases qi : B[j]? with
        | none => rw [qi] at he'; cases he'
        | some b =>
          rw [qi] at he'
          cases he'
          refine ⟨by walk_at "wiped", ?_⟩
          walk_at "rdF"
          refine rep_len hx rfl fun zs rz => ?_
          intro l nl
          have sl := same_new (o := .lst zs) nl
          refine hI.put (e := asList (BR.d b)) (.new nl) trivial nD (fun _ => trivial) (.lst ⟨trivial, hI.ne nl⟩ upd_same (RepL.same sl rz)) ?_ ?_ (fun _ _ => trivial)
          · rw [List.length_map, List.length_take]
            show min j (B.map BR.d).length < _
            rw [List.length_map]; omega
          · rw [take_succ he, List.map_append]; rfl
      rintro p7 acc7 H11 e11 _ np7 hp7 hacc7 _
      rw [show (kids (PyData.list (B.map BR.d))).map asList = B.map rowLd by
        show (B.map BR.d).map asList = _
        rw [List.map_map]; rfl] at hacc7
      have t11 := t10.trans e11.toSame
      walk_at "rdF"
      refine ⟨p7, acc7, rfl, .inl ⟨sl_of hp7, fun p8 np8 => ?_⟩⟩
      have s12 := same_new (o := .tup acc7) np8
      have q8 : R (upd H11 p8 (.tup acc7)) (.ref p8) (.tuple (B.map rowLd)) := .tup trivial upd_same ((hacc7.same s12).less fun _ _ => trivial)
      generalize upd H11 p8 (.tup acc7) = H12 at *
      have t12 := t11.trans s12
      walk_at "rdF"
      refine ⟨sz (by simp), fun p9 np9 => ?_⟩
      obtain ⟨s13, q9⟩ := new_lst (U := fun _ => True) (vs := [.ref p6, .ref p8]) (ds := [.tuple (L.map lampLd), .tuple (B.map rowLd)]) np9 trivial (.cons (q6.same (e11.toSame.trans s12)) (.cons q8 .nil))
      generalize upd H12 p9 (.lst [.ref p6, .ref p8]) = H13 at *
      have t13' := t12.trans s13
      walk_at "rdF"
      refine q9.ixL (i := 0) rfl fun u1 g1 => ?_
      walk_at "rdF"
      refine q9.ixL (i := 1) rfl fun u2 g2 => ?_
      walk_at "rdF"
      refine ⟨0, u1, u2, _, _, L, B, rfl, g1, g2, rowsLdT okL', rowsBdT okB', by omega, by omega, .inl rfl, tell fun v H14 t14 hv => ?_⟩
      walk_at "rdF"
      refine ⟨_, _, d, rfl, hv, hd.same (t13'.trans t14), okd, fun H15 t15 => ?_⟩
      exact h _ (s2.trans ((t13'.trans t14).trans t15))
end
set_option maxHeartbeats 1000000
abbrev s_law_rows : Stmt := topS 69
theorem sc_law_rows : FnScope ["store", "pool", "posts", "labels", "post"] ["store"] (defScope s_law_rows) := ⟨rfl, rfl, rfl, by decide +kernel, rfl, by decide +kernel, by decide +kernel⟩
structure Nod where
  a : Addr
  n : Str
  b : V
def Nod.row (e : Nod) : List V := [.str e.n, e.b]
section
variable {P : Program} {w : World} {K : PySem.W.Frag} {mg : Str → Option Value} {base : Heap}
def bondsOfE (Es : List Edg) : List BR := Es.map fun e => ⟨e.n, e.x, e.y, e.l, e.h⟩
theorem rows_right {Ns : List Nod} {Es : List Edg} (dn : (Ns.map (·.n)).Nodup) (gn : ∀ e ∈ Ns, isNm e.n = true ∧ Bar e.b) (l1 : 1 ≤ Ns.length) (l10 : Ns.length ≤ 10) (ee : ∀ e ∈ Es, EdOk (Ns.map (·.n)) e ∧ isNm e.n = true) (de : (Es.map (·.n)).Nodup) (l16 : Es.length ≤ 16) : Right (Ns.map fun e => (e.n, e.b)) (bondsOfE Es) := by
  have eL : lampNs (Ns.map fun e => (e.n, e.b)) = Ns.map (·.n) := by unfold lampNs; rw [List.map_map]; rfl
  have eB : bondNs (bondsOfE Es) = Es.map (·.n) := by unfold bondsOfE bondNs; rw [List.map_map]; rfl
  refine ⟨⟨⟨⟨⟨⟨⟨⟨⟨fun z hz => ?_⟩, fun v hv => ?_⟩, fun r hr => ?_⟩, by rw [eL]; exact dn⟩, by rw [eB]; exact de⟩, fun r hr => ?_⟩, fun z hz => ?_⟩, by rw [List.length_map]; exact l1, by rw [List.length_map]; exact l10⟩, by unfold bondsOfE; rw [List.length_map]; exact l16⟩
  · rw [eL, eB] at hz
    rcases List.mem_append.mp hz with h | h
    · obtain ⟨e, he, rfl⟩ := List.mem_map.mp h
      exact (gn e he).1
    · obtain ⟨e, he, rfl⟩ := List.mem_map.mp h
      exact (ee e he).2
  · rcases List.mem_append.mp hv with h | h
    · obtain ⟨r, hr, rfl⟩ := List.mem_map.mp h
      obtain ⟨e, he, rfl⟩ := List.mem_map.mp hr
      exact (gn e he).2.op.2
    · obtain ⟨r, hr, hv⟩ := List.mem_flatMap.mp h
      obtain ⟨e, he, rfl⟩ := List.mem_map.mp hr
      simp at hv
      rcases hv with rfl | rfl
      · exact (ee e he).1.bl.op.2
      · exact (ee e he).1.bh.op.2
  · obtain ⟨e, he, rfl⟩ := List.mem_map.mp hr
    exact (ee e he).1.nc
  · obtain ⟨e, he, rfl⟩ := List.mem_map.mp hr
    exact (ee e he).1.ne dn
  · rw [eL]
    obtain ⟨r, hr, hz⟩ := List.mem_flatMap.mp hz
    obtain ⟨e, he, rfl⟩ := List.mem_map.mp hr
    simp at hz
    rcases hz with rfl | rfl
    · exact (ee e he).1.x
    · exact (ee e he).1.y
def spRows : Sp := fun vs H Q _ => ∃ S : Sto, vs = [.ref S.1] ∧ StoreOk S H ∧ ∀ (p : Addr) (L : List (Str × V)) (B : List BR) (ns : List Int) (H' : Hp), Right L B → RS S H' (.ref p) (planD L B [.list (ns.map PyData.int)]) → (∀ n ∈ ns, InR n) → 0 < ns.length → ns.length < 1000 → StoreOk S H' → ExS S H H' → Q (.ref p) H'
theorem ok_rows {k : Nat} {f : Addr} {fd : FuncData} (F : Fun K "_law_rows" "_law_rows" s_law_rows f fd) (T : Blt mg) (H_law_take : Has P w K mg base "_law_take" k ["store", "many"] spTake) (H_law_pick : Has P w K mg base "_law_pick" k ["store", "items"] spPick) (H_law_names : Has P w K mg base "_law_names" k ["store", "many"] spNames)
    (H_law_bar : Has P w K mg base "_law_bar" k ["store", "pool"] spBar) (H_law_edges : Has P w K mg base "_law_edges" k ["store", "posts", "labels", "pool"] spEdges) : FnOk P w K mg base CX0 (k + 1) f fd ["store"] spRows := by
  refine F.ok sc_law_rows (fun vs H Q E h => ?_) (fun cdv A outer s H vs Q E hr h => ?_)
  · obtain ⟨S, rfl, _⟩ := h; rfl
  · obtain ⟨S, rfl, hS, h⟩ := h
    refine ⟨_, (pss_cons (ps_set (i := 1) sc_law_rows.nd rfl (.inr rfl) (pe_callH H_law_pick hr (by rfl) (pa_cons (pv 0) (pa_cons (pe_lst (pa_cons (pe_lst (pa_cons (pe_un un_neg pe_int) (pa_cons pe_int (pa_cons pe_int pa_nil)))) (pa_cons (pe_lst (pa_cons (pe_un un_neg (pe_op op_pow pe_int pe_int)) (pa_cons pe_int (pa_cons (pe_op op_pow pe_int pe_int) pa_nil)))) (pa_cons (pe_lst (pa_cons (pe_un un_neg pe_int) (pa_cons pe_int (pa_cons pe_int (pa_cons pe_int pa_nil))))) pa_nil)))) pa_nil))))
 (pss_cons (ps_set (i := 2) sc_law_rows.nd rfl (.inl rfl) (pe_callH H_law_names hr (by rfl) (pa_cons (pv 0) (pa_cons (pe_ix ix_list (pe_lst (pa_cons pe_int (pa_cons pe_int (pa_cons pe_int (pa_cons pe_int (pa_cons pe_int (pa_cons pe_int pa_nil))))))) (pe_callH H_law_take hr (by rfl) (pa_cons (pv 0) (pa_cons pe_int pa_nil))) (fun _ _ => rfl)) pa_nil))))
 (pss_cons (ps_set (i := 3) sc_law_rows.nd rfl (.inl rfl) (pe_callH H_law_names hr (by rfl) (pa_cons (pv 0) (pa_cons (pe_ix ix_list (pe_lst (pa_cons pe_int (pa_cons pe_int (pa_cons pe_int (pa_cons pe_int (pa_cons pe_int (pa_cons pe_int pa_nil))))))) (pe_callH H_law_take hr (by rfl) (pa_cons (pv 0) (pa_cons pe_int pa_nil))) (fun _ _ => rfl)) pa_nil))))
 (pss_one (ps_ret (pe_lst (pa_cons (pe_lc (own := [("post", 4)]) (g := (gName 4)) (by rfl) sc_law_rows.nd (pi_list (pv 2)) (blkOk_by (own := [("post", 4)]) (N := ["store", "pool", "posts", "labels", "post"]) (sc := defScope s_law_rows) (by decide +kernel)) (fun _ _ _ _ _ => (pg_name (i := 4) sc_law_rows.nd rfl (.inl rfl))) (fun _ _ _ _ _ => pts_nil) (fun _ _ _ _ _ => (pe_tup (pa_cons (pv 4) (pa_cons (pe_callH H_law_bar hr (by rfl) (pa_cons (pv 0) (pa_cons (pv 1) pa_nil))) pa_nil))))) (pa_cons (pe_callH H_law_edges hr (by rfl) (pa_cons (pv 0) (pa_cons (pv 2) (pa_cons (pv 3) (pa_cons (pv 1) pa_nil))))) (pa_cons (pv 1) pa_nil))))))))), ?_⟩
    walk_at "rdE"
    refine ⟨sz (by simp), fun a1 n1 => ?_⟩
    have h1 := @upd_same H a1 (.lst [V.int (-2), .int 0, .int 3])
    have s1 := same_new (o := .lst [V.int (-2), .int 0, .int 3]) n1
    generalize upd H a1 (.lst [V.int (-2), .int 0, .int 3]) = H1 at *
    walk_at "rdE"
    refine ⟨sz (by simp), fun a2 n2 => ?_⟩
    have h2 := @upd_same H1 a2 (.lst [V.int (-1000000000000), .int 7, .int 1000000000000])
    have s2 := same_new (o := .lst [V.int (-1000000000000), .int 7, .int 1000000000000]) n2
    show tCons _ _ _ (upd H1 a2 (.lst [V.int (-1000000000000), .int 7, .int 1000000000000])) _
    generalize upd H1 a2 (.lst [V.int (-1000000000000), .int 7, .int 1000000000000]) = H2 at *
    walk_at "rdE"
    refine ⟨sz (by simp), fun a3 n3 => ?_⟩
    have h3 := @upd_same H2 a3 (.lst [V.int (-40), .int 5, .int 6, .int 90000])
    have s3 := same_new (o := .lst [V.int (-40), .int 5, .int 6, .int 90000]) n3
    generalize upd H2 a3 (.lst [V.int (-40), .int 5, .int 6, .int 90000]) = H3 at *
    walk_at "rdE"
    refine ⟨sz (by simp), fun a4 n4 => ?_⟩
    have h4 := @upd_same H3 a4 (.lst [V.ref a1, .ref a2, .ref a3])
    have s4 := same_new (o := .lst [V.ref a1, .ref a2, .ref a3]) n4
    generalize upd H3 a4 (.lst [V.ref a1, .ref a2, .ref a3]) = H4 at *
    walk_at "rdE"
    have s14 := (s1.trans (s2.trans s3)).trans s4
    have hS3 := hS.same (s1.trans (s2.trans s3))
    refine ⟨S, _, rfl, hS.same s14, .inl ⟨a4, _, rfl, ⟨hS3.ne1 n4, h4⟩, by simp, by simp, fun v H5 hv hS5 e5 => ?_⟩⟩
    obtain ⟨qa, ns, rfl, hq5, hns, n0, n1000⟩ : ∃ (qa : Addr) (ns : List Int), v = .ref qa ∧ At S H5 qa (.lst (ns.map V.int)) ∧ (∀ n ∈ ns, InR n) ∧ 0 < ns.length ∧ ns.length < 1000 := by
      have st : ∀ {a : Addr} {o : HO}, H4 a = some o → a ≠ S.1 → At S H5 a o := fun h1 ne => ⟨ne, e5 _ _ ne h1⟩
      simp at hv
      rcases hv with rfl | rfl | rfl
      · exact ⟨_, [-2, 0, 3], rfl, st ((s2.trans (s3.trans s4)) _ _ h1) (hS.ne1 n1), by simp [InR], by simp, by simp⟩
      · exact ⟨_, [-1000000000000, 7, 1000000000000], rfl, st ((s3.trans s4) _ _ h2) ((hS.same s1).ne1 n2), by simp [InR], by simp, by simp⟩
      · exact ⟨_, [-40, 5, 6, 90000], rfl, st (s4 _ _ h3) ((hS.same (s1.trans s2)).ne1 n3), by simp [InR], by simp, by simp⟩
    have e5' := (same_ex (S := S) s14).trans e5
    walk_at "rdE"
    refine ⟨sz (by simp), fun b1 nb1 => ?_⟩
    walk_at "rdE"
    refine ⟨S, 6, rfl, by omega, hS5.new nb1, fun t H6 t0 t1 hS6 e6 => ?_⟩
    have hb1 := e6 _ _ (hS5.ne1 nb1) upd_same
    have e6' := (ExS.new nb1).trans e6
    obtain ⟨hb, en⟩ := atI_get (xs := [V.int 2, .int 3, .int 4, .int 1, .int 6, .int 10]) (i := t) t0 (by simp; omega)
    refine rd_ixL hb1 en ?_
    obtain ⟨m, hm, m1, m10⟩ : ∃ m : Nat, [V.int 2, .int 3, .int 4, .int 1, .int 6, .int 10][t.toNat] = .int m ∧ 1 ≤ m ∧ m ≤ 10 := by
      have : t.toNat = 0 ∨ t.toNat = 1 ∨ t.toNat = 2 ∨ t.toNat = 3 ∨ t.toNat = 4 ∨ t.toNat = 5 := by omega
      rcases this with e | e | e | e | e | e <;> simp only [e]
      · exact ⟨2, rfl, by omega, by omega⟩
      · exact ⟨3, rfl, by omega, by omega⟩
      · exact ⟨4, rfl, by omega, by omega⟩
      · exact ⟨1, rfl, by omega, by omega⟩
      · exact ⟨6, rfl, by omega, by omega⟩
      · exact ⟨10, rfl, by omega, by omega⟩
    rw [hm]
    walk_at "rdE"
    refine ⟨S, m, rfl, by omega, hS6, fun pa U H7 gU dU lU _ hpa hS7 e7 => ?_⟩
    walk_at "rdE"
    refine ⟨sz (by simp), fun b2 nb2 => ?_⟩
    walk_at "rdE"
    refine ⟨S, 6, rfl, by omega, hS7.new nb2, fun t2 H8 t20 t21 hS8 e8 => ?_⟩
    have hb2 := e8 _ _ (hS7.ne1 nb2) upd_same
    have e8' := (ExS.new nb2).trans e8
    obtain ⟨hb', en2⟩ := atI_get (xs := [V.int 3, .int 1, .int 4, .int 0, .int 7, .int 16]) (i := t2) t20 (by simp; omega)
    refine rd_ixL hb2 en2 ?_
    obtain ⟨m2, hm2, m16⟩ : ∃ m : Nat, [V.int 3, .int 1, .int 4, .int 0, .int 7, .int 16][t2.toNat] = .int m ∧ m ≤ 16 := by
      have : t2.toNat = 0 ∨ t2.toNat = 1 ∨ t2.toNat = 2 ∨ t2.toNat = 3 ∨ t2.toNat = 4 ∨ t2.toNat = 5 := by omega
      rcases this with e | e | e | e | e | e <;> simp only [e]
      · exact ⟨3, rfl, by omega⟩
      · exact ⟨1, rfl, by omega⟩
      · exact ⟨4, rfl, by omega⟩
      · exact ⟨0, rfl, by omega⟩
      · exact ⟨7, rfl, by omega⟩
      · exact ⟨16, rfl, by omega⟩
    rw [hm2]
    walk_at "rdE"
    refine ⟨S, m2, rfl, by omega, hS8, fun la W H12 gW dW lW _ hla hS12 e9 => ?_⟩
    have e78 := e8'.trans e9
    have hpa12 := hpa.back e78
    have hq12 : At S H12 qa (.lst (ns.map V.int)) := (hq5.back (e6'.trans e7)).back e78
    have eA := (e5'.trans (e6'.trans e7)).trans e78
    walk_at "rdE"
    refine ⟨pa, rfl, ⟨_, sl_of hpa12.2⟩, ?_⟩
    refine fun D nD => lc_list (xs := U.map V.str) (fun i H' => ∃ Ns : List Nod, Ns.map (·.n) = U.take i ∧ H' D = some (.lst (Ns.map fun e => V.ref e.a)) ∧ (∀ e ∈ Ns, At S H' e.a (.tup e.row) ∧ Bar e.b) ∧ StoreOk S H' ∧ ExS S H12 H' ∧ D ≠ S.1 ∧ D ≠ S.2) ⟨[], rfl, upd_same, by simp, hS12.new nD, ExS.new nD, hS12.ne1 nD, hS12.ne2 nD⟩ (fun i H' _ hp => ?_) ?_ ?_
    · obtain ⟨Ns, _, _, _, _, e6, _⟩ := hp
      exact sl_of (hpa12.back e6).2
    · rintro i x H13 hx ⟨Ns, hn, hD, hA, hS13, e13, d1, d2⟩
      obtain ⟨z, hz, rfl⟩ := get_strs hx
      refine ⟨rfl, ?_⟩
      walk_at "rdE"
      refine ⟨S, qa, ns, rfl, hS13, hq12.back e13, hns, by omega, by omega, fun v H14 bv hS14 e14 => ?_⟩
      have hD14 := e14 _ _ d1 hD
      walk_at "rdE"
      refine ⟨sz (by simp), fun ta nta => ?_⟩
      have hD15 := same_new (o := .tup [.str z, v]) nta _ _ hD14
      have lN : Ns.length ≤ 10 := by
        have := congrArg List.length hn
        rw [List.length_map, List.length_take] at this
        omega
      have nte : ta ≠ D := (ne_of_none hD14 nta).symm
      refine ⟨_, hD15, by rw [List.length_map]; exact Nat.lt_of_le_of_lt lN (by decide), Ns ++ [⟨ta, z, v⟩], ?_, by rw [upd_same, List.map_append]; rfl, fun e he => ?_, store_upd (hS14.new nta) d1 d2, ((e13.trans e14).trans (ExS.new nta)).mut nD, d1, d2⟩
      · rw [List.map_append, hn, List.take_add_one, hz]; rfl
      · rcases List.mem_append.mp he with q1 | q1
        · obtain ⟨ha, hb⟩ := hA e q1
          have hx := (ha.back e14).back (ExS.new (o := .tup [.str z, v]) nta)
          have ne2 : e.a ≠ D := fun q2 => by have := hx.2; rw [q2, hD15] at this; cases this
          exact ⟨⟨hx.1, by rw [upd_ne ne2]; exact hx.2⟩, hb⟩
        · rw [List.mem_singleton.mp q1]
          exact ⟨⟨hS14.ne1 nta, by rw [upd_ne nte]; exact upd_same⟩, bv⟩
    · rintro H13 ⟨Ns, hn, hD, hA, hS13, e13, d1, d2⟩
      have hn : Ns.map (·.n) = U := by rw [hn, List.length_map, List.take_length]
      have lN : Ns.length = m := by rw [← lU, ← hn, List.length_map]
      walk_at "rdE"
      refine ⟨S, pa, la, qa, U, W, ns, rfl, hS13, hpa12.back e13, hla.back e13, hq12.back e13, by omega, by omega, n0, n1000, fun ea Es H14 hE hW _ hea hEA hS14 e14 => ?_⟩
      walk_at "rdE"
      refine ⟨sz (by simp), fun lp nlp => ?_⟩
      have eB := (eA.trans e13).trans e14
      have eN := ExS.new (S := S) (o := .lst [.ref D, .ref ea, .ref qa]) nlp
      have sN := same_new (o := .lst [.ref D, .ref ea, .ref qa]) nlp
      have hD14 := e14 _ _ d1 hD
      have rt : Right (Ns.map fun e => (e.n, e.b)) (bondsOfE Es) := by
        refine rows_right (by rw [hn]; exact dU) (fun e he => ⟨gU _ (by rw [← hn]; exact List.mem_map_of_mem he), (hA e he).2⟩) (by omega) (by omega) (fun e he => ⟨by rw [hn]; exact hE e he, ?_⟩) ?_ ?_
        · rcases hW with rfl | hW
          · cases he
          · exact gW _ (by rw [← hW]; exact List.mem_map_of_mem he)
        · rcases hW with rfl | hW
          · exact List.nodup_nil
          · rw [hW]; exact dW
        · rcases hW with rfl | hW
          · exact Nat.zero_le _
          · have := congrArg List.length hW
            rw [List.length_map] at this
            omega
      refine h lp _ _ ns _ rt (.lst (hS14.ne1 nlp) upd_same (.cons (.lst d1 (sN _ _ hD14) ?_) (.cons ((edges_rep hE hea hEA).same sN) (.cons (.lst (hq12.back (e13.trans e14)).1 (sN _ _ (hq12.back (e13.trans e14)).2) .ints) .nil)))) hns n0 n1000 (hS14.new nlp) (eB.trans eN)
      rw [List.map_map]
      exact RepL.mapI fun e he => .tup ((hA e he).1.back e14).1 (sN _ _ ((hA e he).1.back e14).2) (.cons (.str _) (.cons (.sc (hA e he).2.op.sc) .nil))
end
set_option maxHeartbeats 1000000
abbrev s_law_one_more : Stmt := topS 70
theorem sc_law_one_more : FnScope ["store", "plan", "posts", "label", "ends", "edges", "kind", "node", "edge"] ["store", "plan"] (defScope s_law_one_more) := ⟨rfl, rfl, rfl, by decide +kernel, rfl, by decide +kernel, by decide +kernel⟩
abbrev slaw : Stmt := topS 71
theorem sclaw : FnScope ["script", "store", "plan", "rows", "turn", "many", "edge", "right", "fine"] ["script"] (defScope slaw) := ⟨rfl, rfl, rfl, by decide +kernel, rfl, by decide +kernel, by decide +kernel⟩
section
variable {P : Program} {w : World} {K : PySem.W.Frag} {mg : Str → Option Value} {base : Heap} {C CS : Addr}
theorem Right.lsL {L : List (Str × V)} {B : List BR} (r : Right L B) : ∀ q ∈ L, LsL 20 q := fun q hq =>
  ⟨(OkS.nm (r.nm _ (List.mem_append.mpr (.inl (List.mem_map_of_mem hq))))).mono (by omega), .inl (r.niL q hq)⟩
theorem Right.lsB {L : List (Str × V)} {B : List BR} (r : Right L B) : ∀ q ∈ B, LsB 20 q := fun q hq => by
  have hx : ∀ z ∈ endsOf B, OkS 20 z := fun z hz => (OkS.nm (r.nm _ (List.mem_append.mpr (.inl (r.unk z hz))))).mono (by omega)
  exact ⟨(OkS.nm (r.nm _ (List.mem_append.mpr (.inr (List.mem_map_of_mem hq))))).mono (by omega), hx _ (List.mem_flatMap.mpr ⟨q, hq, by simp⟩), hx _ (List.mem_flatMap.mpr ⟨q, hq, by simp⟩), .inl (r.niB q hq).1, .inl (r.niB q hq).2⟩
def spOneMore : Sp := fun vs H Q _ => ∃ (S : Sto) (v : V) (L : List (Str × V)) (B : List BR) (ns : List Int), vs = [.ref S.1, v] ∧ StoreOk S H ∧ RS S H v (planD L B [.list (ns.map PyData.int)]) ∧ Right L B ∧ 0 < ns.length ∧ ns.length < 1000 ∧
  ∀ (u : V) (r : BR) (H' : Hp), RS S H' u (.list ((B ++ [r]).map BR.d)) → LsB 22 r → Gd S H H' → Q u H'
theorem ok_one_more {k : Nat} {f : Addr} {fd : FuncData} (F : Fun K "_law_one_more" "_law_one_more" s_law_one_more f fd) (T : Blt mg) (H_law_take : Has P w K mg base "_law_take" k ["store", "many"] spTake) (H_law_pick : Has P w K mg base "_law_pick" k ["store", "items"] spPick) (H_law_fresh_names : Has P w K mg base "_law_fresh_names" k ["store", "many", "used"] spFreshNames) (H_law_ends : Has P w K mg base "_law_ends" k ["store", "pool"] spEnds) (H_law_bent_edge : Has P w K mg base "_law_bent_edge" k ["store", "edges", "spot", "pool", "kind"] spBentEdge) : FnOk P w K mg base CX0 (k + 1) f fd ["store", "plan"] spOneMore := by
  refine F.ok sc_law_one_more (fun vs H Q E h => ?_) (fun cdv A outer s H vs Q E hr h => ?_)
  · obtain ⟨S, v, L, B, ns, rfl, _⟩ := h; rfl
  · obtain ⟨S, v, L, B, ns, rfl, hS, hv, rt, n0, n1, h⟩ := h
    have lL1 := rt.l1
    have lL := rt.l10
    have lB := rt.l16
    refine ⟨_, (pss_cons (ps_setLc (i := 2) (own := [("node", 7)]) (g := (gName 7)) (by rfl) sc_law_one_more.nd rfl rfl (sw_true rfl rfl rfl (by decide +kernel)) (pi_seq (pe_ix (ix_seqR (K := K) rfl) (pv 1) pe_int (fun _ _ => rfl))) (blkOk_by (own := [("node", 7)]) (N := ["store", "plan", "posts", "label", "ends", "edges", "kind", "node", "edge"]) (sc := defScope s_law_one_more) (by decide +kernel)) (fun _ _ _ _ _ => (pg_name (i := 7) sc_law_one_more.nd rfl (.inl rfl))) (fun _ _ _ _ _ => pts_nil) (fun _ _ _ _ _ => (pe_ix (ix_seqR (K := K) rfl) (pv 7) pe_int (fun _ _ => rfl))))
 (pss_cons (ps_set (i := 3) sc_law_one_more.nd rfl (.inl rfl) (pe_ix (ix_seqR (K := K) rfl) (pe_callH H_law_fresh_names hr (by rfl) (pa_cons (pv 0) (pa_cons pe_int (pa_cons (pe_lc (own := [("edge", 8)]) (g := (gName 8)) (by rfl) sc_law_one_more.nd (pi_seq (pe_ix (ix_seqR (K := K) rfl) (pv 1) pe_int (fun _ _ => rfl))) (blkOk_by (own := [("edge", 8)]) (N := ["store", "plan", "posts", "label", "ends", "edges", "kind", "node", "edge"]) (sc := defScope s_law_one_more) (by decide +kernel)) (fun _ _ _ _ _ => (pg_name (i := 8) sc_law_one_more.nd rfl (.inl rfl))) (fun _ _ _ _ _ => pts_nil) (fun _ _ _ _ _ => (pe_ix (ix_seqR (K := K) rfl) (pv 8) pe_int (fun _ _ => rfl)))) pa_nil)))) pe_int (fun _ _ => rfl)))
 (pss_cons (ps_set (i := 4) sc_law_one_more.nd rfl (.inl rfl) (pe_callH H_law_ends hr (by rfl) (pa_cons (pv 0) (pa_cons (pe_ix (ix_seqR (K := K) rfl) (pv 1) pe_int (fun _ _ => rfl)) pa_nil))))
 (pss_cons (ps_set (i := 5) sc_law_one_more.nd rfl (.inl rfl) (pe_op op_cat (pe_ix (ix_seqR (K := K) rfl) (pv 1) pe_int (fun _ _ => rfl)) (pe_lst (pa_cons (pe_tup (pa_cons (pv 3) (pa_cons (pe_ix (ix_seqR (K := K) rfl) (pv 2) (pe_op op_sub (pe_callB call_len_seq (by rfl) T.len (by decide +kernel) (pa_cons (pv 2) pa_nil)) pe_int) (fun _ _ => rfl)) (pa_cons (pe_callH H_law_pick hr (by rfl) (pa_cons (pv 0) (pa_cons (pv 2) pa_nil))) (pa_cons (pe_ix (ix_seqR (K := K) rfl) (pv 4) pe_int (fun _ _ => rfl)) (pa_cons (pe_ix (ix_seqR (K := K) rfl) (pv 4) pe_int (fun _ _ => rfl)) pa_nil)))))) pa_nil))))
 (pss_cons (ps_set (i := 6) sc_law_one_more.nd rfl (.inl rfl) (pe_ix (ix_seqR (K := K) rfl) (pe_lst (pa_cons pe_int (pa_cons pe_int (pa_cons pe_int (pa_cons pe_int (pa_cons pe_int (pa_cons pe_int (pa_cons pe_int (pa_cons pe_int (pa_cons pe_int pa_nil)))))))))) (pe_callH H_law_take hr (by rfl) (pa_cons (pv 0) (pa_cons pe_int pa_nil))) (fun _ _ => rfl)))
 (pss_one (ps_ret (pe_op op_cat (pe_ix (ix_seqR (K := K) rfl) (pv 1) pe_int (fun _ _ => rfl)) (pe_lst (pa_cons (pe_callH H_law_bent_edge hr (by rfl) (pa_cons (pv 0) (pa_cons (pv 5) (pa_cons (pe_op op_sub (pe_callB call_len_seq (by rfl) T.len (by decide +kernel) (pa_cons (pv 5) pa_nil)) pe_int) (pa_cons (pe_ix (ix_seqR (K := K) rfl) (pv 1) pe_int (fun _ _ => rfl)) (pa_cons (pv 6) pa_nil)))))) pa_nil)))))))))), ?_⟩
    walk_at "rdF"
    refine hv.ixL (i := 0) rfl fun nv hnv => ?_
    refine lc_seq (U := fun _ => True) (fun ds => ds.map fun e => (kids e).getD 0 .none) (fun _ => True) (.inl (hnv.less fun _ _ => trivial)) rfl (fun _ _ => trivial) rfl (fun _ _ => trivial) (fun D j x e H' uD nD he hx hI => ?_) ?_
    · have he' : (L.map lampD)[j]? = some e := he
      rw [List.getElem?_map] at he'
      cases qi : L[j]? with
      | none => rw [qi] at he'; cases he'
      | some b =>
        rw [qi] at he'
        cases he'
        refine ⟨by walk_at "wiped", ?_⟩
        walk_at "rdF"
        refine rep_ix hx rfl (by decide) rfl fun u hu => ?_
        refine hI.put .refl trivial nD (fun _ => trivial) hu ?_ ?_
        · rw [List.length_map, List.length_take]
          show min j (L.map lampD).length < _
          rw [List.length_map]; omega
        · rw [take_succ he, List.map_append]; rfl
    rintro p1 acc1 H1 e1 _ np1 hp1 hacc1 _
    rw [headsL] at hacc1
    obtain rfl := hacc1.strsI
    have s1 := e1.toSame
    have p1S := hS.ne1 np1
    walk_at "rdF"
    refine (hv.same s1).ixL (i := 1) rfl fun ev hev => ?_
    refine lc_seq (U := fun _ => True) (fun ds => ds.map fun e => (kids e).getD 0 .none) (fun _ => True) (.inl (hev.less fun _ _ => trivial)) rfl (fun _ _ => trivial) rfl (fun _ _ => trivial) (fun D j x e H' uD nD he hx hI => ?_) ?_
    · have he' : (B.map BR.d)[j]? = some e := he
      rw [List.getElem?_map] at he'
      cases qi : B[j]? with
      | none => rw [qi] at he'; cases he'
      | some b =>
        rw [qi] at he'
        cases he'
        refine ⟨by walk_at "wiped", ?_⟩
        walk_at "rdF"
        refine rep_ix hx rfl (by decide) rfl fun u hu => ?_
        refine hI.put .refl trivial nD (fun _ => trivial) hu ?_ ?_
        · rw [List.length_map, List.length_take]
          show min j (B.map BR.d).length < _
          rw [List.length_map]; omega
        · rw [take_succ he, List.map_append]; rfl
    rintro p2 acc2 H2 e2 _ np2 hp2 hacc2 _
    rw [headsB] at hacc2
    obtain rfl := hacc2.strsI
    have s2 := s1.trans e2.toSame
    have hS1 := hS.same s1
    have hS2 := hS.same s2
    have hp1' := e2.toSame _ _ hp1
    have g2 : Gd S H H2 := .same hS s2
    walk_at "rdF"
    refine ⟨S, 1, p2, bondNs B, rfl, by omega, by rw [List.length_map]; omega, hS2, ⟨hS1.ne1 np2, hp2⟩, fun q U H3 hU ndU nU lU nq hq hS3 e3 => ?_⟩
    have g3 := g2.trans (.of hS3 e3)
    obtain ⟨z, rfl⟩ : ∃ z, U = [z] := by
      cases U with
      | nil => cases lU
      | cons z U => cases U with
        | nil => exact ⟨z, rfl⟩
        | cons y U => simp at lU
    have hz := hU z (by simp)
    refine rd_ixQL hq.2 (atI_nat (i := 0) rfl) ?_
    walk_at "rdF"
    refine (hv.ex g3.ex).ixL (i := 2) rfl fun qv hqv => ?_
    obtain ⟨q1, xs1, rfl, q1S, hq1, rq1⟩ := hqv.lstI
    obtain rfl := rq1.intsI
    walk_at "rdF"
    refine ⟨S, q1, ns, rfl, hS3, ⟨q1S, hq1⟩, n0, n1, fun eq el eh H4 bl bh ncr neq heq hS4 e4 => ?_⟩
    have g4 := g3.trans (.of hS4 e4)
    have hp1'' : H4 p1 = some (.lst ((lampNs L).map V.str)) := e4 _ _ p1S (e3 _ _ p1S hp1')
    obtain ⟨zl, hzl⟩ : ∃ z, (lampNs L)[L.length - 1]? = some z := ⟨_, List.getElem?_eq_getElem (by rw [List.length_map]; omega)⟩
    have hzlm := List.mem_of_getElem? hzl
    walk_at "rdF"
    refine (hv.ex g4.ex).ixL (i := 1) rfl fun ev4 hev4 => ?_
    walk_at "rdF"
    refine rd_seqL hp1'' ?_
    walk_at "rdF"
    rw [List.length_map, List.length_map, show (L.length : Int) - 1 = ((L.length - 1 : Nat) : Int) by omega]
    refine rd_ixQL hp1'' (atI_nat (by rw [List.getElem?_map, hzl]; rfl)) ?_
    walk_at "rdF"
    refine ⟨S, _, rfl, hS4, .inl ⟨p1, _, rfl, ⟨p1S, hp1''⟩, by rw [List.length_map, List.length_map]; omega, by rw [List.length_map, List.length_map]; omega, fun v2 H5 hv2 hS5 e5 => ?_⟩⟩
    obtain ⟨zz, hzz, rfl⟩ := List.mem_map.mp hv2
    have g5 := g4.trans (.of hS5 e5)
    have heq5 := e5 _ _ heq.1 heq.2
    walk_at "rdF"
    refine rd_ixQT heq5 (atI_nat (i := 0) rfl) ?_
    walk_at "rdF"
    refine rd_ixQT heq5 (atI_nat (i := 1) rfl) ?_
    walk_at "rdF"
    have u5 : ∀ {H' : Hp}, StoreOk S H' → ∀ p, H' p = none → US S p := fun s p n => s.ne1 n
    refine ⟨sz (by simp), fun p6 np6 => ?_⟩
    obtain ⟨s6, k6⟩ := new_tup (U := US S) (vs := [.str z, .str zl, .str zz, el, eh]) (ds := [.str z, .str zl, .str zz, vD el, vD eh]) np6 (u5 hS5 _ np6) (.cons (.str _) (.cons (.str _) (.cons (.str _) (.cons (.sc bl.op.sc) (.cons (.sc bh.op.sc) .nil)))))
    generalize upd H5 p6 (.tup [.str z, .str zl, .str zz, el, eh]) = H6 at *
    have hS6 := hS5.same s6
    walk_at "rdF"
    refine ⟨sz (by simp), fun p7 np7 => ?_⟩
    obtain ⟨s7, k7⟩ := new_lst (U := US S) (vs := [.ref p6]) (ds := [BR.d ⟨z, zl, zz, el, eh⟩]) np7 (u5 hS6 _ np7) (.cons k6 .nil)
    generalize upd H6 p7 (.lst [.ref p6]) = H7 at *
    have hS7 := hS6.same s7
    have hev7 : RS S H7 ev4 (.list (B.map BR.d)) := (hev4.to fun q o u e => ⟨u, e5 q o u e⟩ : RS S H5 ev4 (.list (B.map BR.d))).same (s6.trans s7)
    refine rd_cat hev7 k7 (by rw [List.length_map]; simp; omega) (u5 hS7) fun p8 H8 s8 np8 k8 => ?_
    have k8 : RS S H8 (.ref p8) (.list ((B ++ [(⟨z, zl, zz, el, eh⟩ : BR)]).map BR.d)) := by rw [List.map_append]; exact k8
    have hS8 := hS7.same s8
    have g8 := g5.trans (.same hS5 ((s6.trans s7).trans s8))
    walk_at "rdF"
    refine ⟨sz (by simp), fun p9 np9 => ?_⟩
    walk_at "rdF"
    refine ⟨S, 9, rfl, by omega, hS8.new np9, fun t H9 t0 t1 hS9 e9 => ?_⟩
    have hp9 := e9 _ _ (hS8.ne1 np9) upd_same
    have e89 := (ExS.new (S := S) np9).trans e9
    have g9 := g8.trans (.of hS9 e89)
    obtain ⟨hb, en⟩ := atI_get (xs := [V.int 6, .int 6, .int 6, .int 7, .int 8, .int 9, .int 10, .int 11, .int 11]) (i := t) t0 (by simp; omega)
    refine rd_ixQL hp9 en ?_
    obtain ⟨kd, hkd⟩ : ∃ kd : Int, [V.int 6, .int 6, .int 6, .int 7, .int 8, .int 9, .int 10, .int 11, .int 11][t.toNat] = .int kd := by
      have : t.toNat = 0 ∨ t.toNat = 1 ∨ t.toNat = 2 ∨ t.toNat = 3 ∨ t.toNat = 4 ∨ t.toNat = 5 ∨ t.toNat = 6 ∨ t.toNat = 7 ∨ t.toNat = 8 := by omega
      rcases this with e | e | e | e | e | e | e | e | e <;> simp only [e] <;> exact ⟨_, rfl⟩
    rw [hkd]
    walk_at "rdF"
    refine (hv.ex g9.ex).ixL (i := 1) rfl fun ev9 hev9 => ?_
    have k9 : RS S H9 (.ref p8) (.list ((B ++ [(⟨z, zl, zz, el, eh⟩ : BR)]).map BR.d)) := k8.to fun q o u e => ⟨u, e89 q o u e⟩
    walk_at "rdF"
    refine rep_len k9 rfl fun xs rx => ?_
    have lx : xs.length = B.length + 1 := by rw [rx.len]; show ((B ++ [_]).map BR.d).length = _; rw [List.length_map, List.length_append]; rfl
    walk_at "rdF"
    rw [lx, show (((B.length + 1 : Nat) : Int) - 1) = (B.length : Int) by omega]
    walk_at "rdF"
    refine (hv.ex g9.ex).ixL (i := 2) rfl fun qv9 hqv9 => ?_
    walk_at "rdF"
    have okz : OkS 20 z := (OkS.nm hz).mono (by omega)
    have okl : ∀ y ∈ lampNs L, OkS 20 y := fun y hy => by
      obtain ⟨r, hr, rfl⟩ := List.mem_map.mp hy
      exact (rt.lsL r hr).n
    refine ⟨S, _, _, B ++ [⟨z, zl, zz, el, eh⟩], B.length, ⟨z, zl, zz, el, eh⟩, ns, kd, 20, rfl, hS9, k9, hqv9, by simp, by omega, by omega, fun q hq => ?_, by rw [List.length_append]; simp; omega, n0, n1, fun v3 r' H10 hv3 lr' _ g10 => ?_⟩
    · rcases List.mem_append.mp hq with q2 | q2
      · exact rt.lsB q q2
      · rw [List.mem_singleton.mp q2]
        exact ⟨okz, okl _ hzlm, okl _ hzz, .inl bl.op.1, .inl bh.op.1⟩
    walk_at "rdF"
    refine ⟨sz (by simp), fun p11 np11 => ?_⟩
    obtain ⟨s11, k11⟩ := new_lst (U := US S) (vs := [v3]) (ds := [r'.d]) np11 (u5 g10.ok _ np11) (.cons hv3 .nil)
    generalize upd H10 p11 (.lst [v3]) = H11 at *
    have hS11 := g10.ok.same s11
    refine rd_cat ((hev9.ex g10.ex).same s11) k11 (by rw [List.length_map]; simp; omega) (u5 hS11) fun p12 H12 s12 np12 k12 => ?_
    have k12 : RS S H12 (.ref p12) (.list ((B ++ [r']).map BR.d)) := by rw [List.map_append]; exact k12
    exact h _ r' _ k12 lr' ((g9.trans g10).trans (.same g10.ok (s11.trans s12)))
theorem Right.blank {L : List (Str × V)} {B : List BR} {r : BR} (rt : Right L (B ++ [r])) : Right L (B ++ [⟨r.n, r.x, r.y, .non, .non⟩]) := by
  have R0 := rt.front
  obtain ⟨x7, y7⟩ : r.x ∈ lampNs L ∧ r.y ∈ lampNs L := to7 (r := r) rt.toRight7
  have r1 : Right1 L (B ++ [(⟨r.n, r.x, r.y, .non, .non⟩ : BR)]) := of1 R0 (show isNm r.n = true from to1 (r := r) rt.toRight1)
  have r3 := of3 R0 (of2 R0 r1 rfl rfl) rfl
  exact ⟨⟨of7 R0 (of6 R0 (of5 R0 r3 (show r.n ∉ bondNs B from to5 (r := r) rt.toRight5)) (show r.x ≠ r.y from to6 (r := r) rt.toRight6)) x7 y7, R0.l1, R0.l10⟩, by have := rt.l16; rw [List.length_append] at this ⊢; exact this⟩
def spLaw (K : PySem.W.Frag) : Sp := fun vs H Q _ => ∃ a, ∃ ns : List Int, vs = [.ref a] ∧ SqL K H a (ns.map V.int) ∧ ∀ H', Q (.bl true) H'
theorem ok_law {k : Nat} {f : Addr} {fd : FuncData} (F : Fun K "law" "law" slaw f fd) (T : Blt mg) (H_law_store : Has P w K mg base "_law_store" k ["script"] (spStore K)) (H_law_rows : Has P w K mg base "_law_rows" k ["store"] spRows) (H_law_take : Has P w K mg base "_law_take" k ["store", "many"] spTake) (H_law_bent_web : Has P w K mg base "_law_bent_web" k ["store", "nodes", "edges", "pool"] spBentWeb) (H_law_holds : Has P w K mg base "_law_holds" k ["k", "nodes", "edges"] spHolds) (H_law_one_more : Has P w K mg base "_law_one_more" k ["store", "plan"] spOneMore) (H_law_bent_edge : Has P w K mg base "_law_bent_edge" k ["store", "edges", "spot", "pool", "kind"] spBentEdge) (H_law_ends : Has P w K mg base "_law_ends" k ["store", "pool"] spEnds) : FnOk P w K mg base CX0 (k + 1) f fd ["script"] (spLaw K) := by
  refine F.ok sclaw (fun vs H Q E h => ?_) (fun cdv A outer s H vs Q E hr h => ?_)
  · obtain ⟨a, ns, rfl, _⟩ := h; rfl
  · obtain ⟨sa, cells, rfl, hsa, h⟩ := h
    refine ⟨_, (pss_cons (ps_set (i := 1) sclaw.nd rfl (.inl rfl) (pe_callH H_law_store hr (by rfl) (pa_cons (pv 0) pa_nil)))
 (pss_cons (ps_set (i := 2) sclaw.nd rfl (.inl rfl) (pe_callH H_law_rows hr (by rfl) (pa_cons (pv 1) pa_nil)))
 (pss_cons (ps_set (i := 3) sclaw.nd rfl (.inl rfl) (pe_lst (pa_cons (pe_ix (ix_seqR (K := K) rfl) (pv 2) pe_int (fun _ _ => rfl)) (pa_cons (pe_ix (ix_seqR (K := K) rfl) (pv 2) pe_int (fun _ _ => rfl)) pa_nil))))
 (C8.pss_cut (ps_for PassesOwn.never rfl (pi_range1 rfl T.range (pa_cons (pe_op op_add pe_int (pe_callH H_law_take hr (by rfl) (pa_cons (pv 1) (pa_cons pe_int pa_nil)))) pa_nil)) (pg_name (i := 4) sclaw.nd rfl (.inl rfl)) (pss_one (ps_set (i := 3) sclaw.nd rfl (.inl rfl) (pe_callH H_law_bent_web hr (by rfl) (pa_cons (pv 1) (pa_cons (pe_ix (ix_seqR (K := K) rfl) (pv 3) pe_int (fun _ _ => rfl)) (pa_cons (pe_ix (ix_seqR (K := K) rfl) (pv 3) pe_int (fun _ _ => rfl)) (pa_cons (pe_ix (ix_seqR (K := K) rfl) (pv 2) pe_int (fun _ _ => rfl)) pa_nil))))))))
 (C8.pss_cut (ps_if (PW.pt (pw_or (pt_not (pt_val (pe_callH H_law_holds hr (by rfl) (pa_cons pe_int (pa_cons (pe_ix (ix_seqR (K := K) rfl) (pv 3) pe_int (fun _ _ => rfl)) (pa_cons (pe_ix (ix_seqR (K := K) rfl) (pv 3) pe_int (fun _ _ => rfl)) pa_nil)))))) (pw_or1 (pt_not (pt_val (pe_callH H_law_holds hr (by rfl) (pa_cons pe_int (pa_cons (pe_ix (ix_seqR (K := K) rfl) (pv 2) pe_int (fun _ _ => rfl)) (pa_cons (pe_ix (ix_seqR (K := K) rfl) (pv 2) pe_int (fun _ _ => rfl)) pa_nil))))))))) (pss_one (ps_ret pe_bl)) pss_nil)
 (C8.pss_cut (ps_if (PW.pt (pw_or (pt_not (pt_val (pe_callH H_law_holds hr (by rfl) (pa_cons pe_int (pa_cons (pe_ix (ix_seqR (K := K) rfl) (pv 3) pe_int (fun _ _ => rfl)) (pa_cons (pe_ix (ix_seqR (K := K) rfl) (pv 3) pe_int (fun _ _ => rfl)) pa_nil)))))) (pw_or1 (pt_not (pt_val (pe_callH H_law_holds hr (by rfl) (pa_cons pe_int (pa_cons (pe_ix (ix_seqR (K := K) rfl) (pv 2) pe_int (fun _ _ => rfl)) (pa_cons (pe_callH H_law_one_more hr (by rfl) (pa_cons (pv 1) (pa_cons (pv 2) pa_nil))) pa_nil))))))))) (pss_one (ps_ret pe_bl)) pss_nil)
 (pss_cons (ps_set (i := 5) sclaw.nd rfl (.inl rfl) (pe_callB call_len_seq (by rfl) T.len (by decide +kernel) (pa_cons (pe_ix (ix_seqR (K := K) rfl) (pv 2) pe_int (fun _ _ => rfl)) pa_nil)))
 (pss_cons (ps_if (pt_cmpR op_eq (pv 5) pe_int (nomark _)) (pss_one (ps_ret pe_bl)) pss_nil)
 (pss_cons (ps_set (i := 6) sclaw.nd rfl (.inl rfl) (pe_callH H_law_bent_edge hr (by rfl) (pa_cons (pv 1) (pa_cons (pe_ix (ix_seqR (K := K) rfl) (pv 2) pe_int (fun _ _ => rfl)) (pa_cons (pe_op op_sub (pv 5) pe_int) (pa_cons (pe_ix (ix_seqR (K := K) rfl) (pv 2) pe_int (fun _ _ => rfl)) (pa_cons (pe_op op_add pe_int (pe_callH H_law_take hr (by rfl) (pa_cons (pv 1) (pa_cons pe_int pa_nil)))) pa_nil)))))))
 (pss_cons (ps_set (i := 7) sclaw.nd rfl (.inl rfl) (pe_callH H_law_ends hr (by rfl) (pa_cons (pv 1) (pa_cons (pe_ix (ix_seqR (K := K) rfl) (pv 2) pe_int (fun _ _ => rfl)) pa_nil))))
 (pss_cons (ps_set (i := 8) sclaw.nd rfl (.inl rfl) (pe_tup (pa_cons (pe_ix (ix_seqR (K := K) rfl) (pv 6) pe_int (fun _ _ => rfl)) (pa_cons (pe_ix (ix_seqR (K := K) rfl) (pv 6) pe_int (fun _ _ => rfl)) (pa_cons (pe_ix (ix_seqR (K := K) rfl) (pv 6) pe_int (fun _ _ => rfl)) (pa_cons (pe_ix (ix_seqR (K := K) rfl) (pv 7) pe_int (fun _ _ => rfl)) (pa_cons (pe_ix (ix_seqR (K := K) rfl) (pv 7) pe_int (fun _ _ => rfl)) pa_nil)))))))
 (pss_one (ps_ret (pe_and (pe_callH H_law_holds hr (by rfl) (pa_cons pe_int (pa_cons (pe_ix (ix_seqR (K := K) rfl) (pv 2) pe_int (fun _ _ => rfl)) (pa_cons (pe_op op_cat (pe_slice sl_list (pe_ix (ix_seqR (K := K) rfl) (pv 2) pe_int (fun _ _ => rfl)) po_none (po_some (pe_op op_sub (pv 5) pe_int))) (pe_lst (pa_cons (pv 6) pa_nil))) pa_nil)))) (pe_one (pe_callH H_law_holds hr (by rfl) (pa_cons pe_int (pa_cons (pe_ix (ix_seqR (K := K) rfl) (pv 2) pe_int (fun _ _ => rfl)) (pa_cons (pe_op op_cat (pe_slice sl_list (pe_ix (ix_seqR (K := K) rfl) (pv 2) pe_int (fun _ _ => rfl)) po_none (po_some (pe_op op_sub (pv 5) pe_int))) (pe_lst (pa_cons (pv 8) pa_nil))) pa_nil))))))))))))))))))), ?_⟩
    walk_at "rdF"
    refine ⟨sa, cells, rfl, hsa, fun S H1 hS1 s1 => ?_⟩
    walk_at "rdF"
    refine ⟨S, rfl, hS1, fun p L B ns H2 rt hv hns n0 n1 hS2 e2 => ?_⟩
    have lL1 := rt.l1
    have lL := rt.l10
    have lB := rt.l16
    walk_at "rdF"
    refine hv.ixL (i := 0) rfl fun nv hnv => ?_
    walk_at "rdF"
    refine hv.ixL (i := 1) rfl fun ev hev => ?_
    walk_at "rdF"
    refine ⟨sz (by simp), fun rp nrp => ?_⟩
    obtain ⟨s3, k3⟩ := new_lst (U := US S) (vs := [nv, ev]) (ds := [.list (L.map lampD), .list (B.map BR.d)]) nrp (hS2.ne1 nrp) (.cons hnv (.cons hev .nil))
    generalize upd H2 rp (.lst [nv, ev]) = H3 at *
    have hS3 := hS2.same s3
    have hv3 := hv.same s3
    walk_at "rdF"
    refine rd_cut (fun σ' H' => ∃ (y4 : Option V) (rv : V) (L' : List (Str × V)) (B' : List BR), σ' = [some (.ref sa), some (.ref S.1), some (.ref p), some rv, y4, none, none, none, none] ∧ RS S H' rv (.list [.list (L'.map lampD), .list (B'.map BR.d)]) ∧ (∀ q ∈ L', LsL 24 q) ∧ (∀ q ∈ B', LsB 24 q) ∧ L'.length ≤ 12 ∧ B'.length ≤ 20 ∧ Gd S H3 H') ?_ ?_
    · walk_at "rdF"
      refine ⟨S, 2, rfl, by omega, hS3, fun t H4 t0 t1 hS4 e4 => ?_⟩
      obtain ⟨t, rfl⟩ : ∃ n : Nat, t = n := ⟨t.toNat, by omega⟩
      walk_at "rdF"
      have g4 : Gd S H3 H4 := .of hS4 e4
      refine ⟨by omega, by omega, for_rng (fun i σ H' => ∃ (y4 : Option V) (rv : V) (L' : List (Str × V)) (B' : List BR), σ = [some (.ref sa), some (.ref S.1), some (.ref p), some rv, y4, none, none, none, none] ∧ RS S H' rv (.list [.list (L'.map lampD), .list (B'.map BR.d)]) ∧ (∀ q ∈ L', LsL (20 + 2 * i) q) ∧ (∀ q ∈ B', LsB (20 + 2 * i) q) ∧ L'.length ≤ 10 + i ∧ B'.length ≤ 20 ∧ Gd S H3 H') ⟨_, _, L, B, rfl, k3.ex g4.ex, rt.lsL, rt.lsB, by omega, by omega, g4⟩ ?_ ?_⟩
      · rintro i σ H' hi ⟨y4, rv, L', B', rfl, hrv, okL, okB, lL', lB', g'⟩
        have hi : i ≤ 1 := by omega
        walk_at "rdF"
        refine hrv.ixL (i := 0) rfl fun n1' hn1 => ?_
        walk_at "rdF"
        refine hrv.ixL (i := 1) rfl fun e1' he1 => ?_
        walk_at "rdF"
        refine (hv3.ex g'.ex).ixL (i := 2) rfl fun qv hqv => ?_
        walk_at "rdF"
        refine ⟨S, _, _, _, L', B', ns, 20 + 2 * i, rfl, g'.ok, hn1, he1, hqv, by omega, by omega, okL, okB, by omega, lB', hns, n0, n1, fun v L2 B2 H5 hv2 okL2 okB2 l2 b2 g5 => ?_⟩
        walk_at "rdF"
        exact ⟨_, _, L2, B2, rfl, hv2, fun q hq => (okL2 q hq).mono (by omega), fun q hq => (okB2 q hq).mono (by omega), by rcases l2 with l2 | l2 <;> omega, b2, g'.trans g5⟩
      · rintro σ H' ⟨y4, rv, L', B', rfl, hrv, okL, okB, lL', lB', g'⟩
        have hi : (1 + (t : Int)).toNat ≤ 2 := by omega
        exact ⟨_, _, L', B', rfl, hrv, fun q hq => (okL q hq).mono (by omega), fun q hq => (okB q hq).mono (by omega), by omega, lB', g'⟩
    rintro σ4 H4 ⟨y4, rv, L', B', rfl, hrv, okL, okB, lL', lB', g4⟩
    have hv4 := hv3.ex g4.ex
    have hS4 := g4.ok
    clear hv3 k3 hnv hev hv g4 hS3 s3
    walk_at "rdF"
    refine rd_cut (fun σ' H' => σ' = [some (.ref sa), some (.ref S.1), some (.ref p), some rv, y4, none, none, none, none] ∧ Same H4 H') ?_ ?_
    · walk_at "rdF"
      refine hrv.ixL (i := 0) rfl fun n1' hn1 => ?_
      walk_at "rdF"
      refine hrv.ixL (i := 1) rfl fun e1' he1 => ?_
      walk_at "rdF"
      refine ⟨0, n1', e1', L', B', 24, rfl, hn1.less fun _ _ => trivial, he1.less fun _ _ => trivial, by omega, okL, okB, by omega, by omega, .inl rfl, fun H5 s5 => ?_⟩
      walk_at "rdF"
      refine (hv4.same s5).ixL (i := 0) rfl fun n2' hn2 => ?_
      walk_at "rdF"
      refine (hv4.same s5).ixL (i := 1) rfl fun e2' he2 => ?_
      walk_at "rdF"
      refine ⟨0, n2', e2', L, B, 20, rfl, hn2.less fun _ _ => trivial, he2.less fun _ _ => trivial, by omega, rt.lsL, rt.lsB, by omega, by omega, .inl rfl, fun H6 s6 => ?_⟩
      walk_at "rdF"
      exact ⟨rfl, s5.trans s6⟩
    rintro σ5 H5 ⟨rfl, s5⟩
    replace hv4 := hv4.same s5
    replace hrv := hrv.same s5
    replace hS4 := hS4.same s5
    clear s5
    walk_at "rdF"
    refine rd_cut (fun σ' H' => σ' = [some (.ref sa), some (.ref S.1), some (.ref p), some rv, y4, none, none, none, none] ∧ Gd S H5 H') ?_ ?_
    · walk_at "rdF"
      refine hrv.ixL (i := 0) rfl fun n1' hn1 => ?_
      walk_at "rdF"
      refine hrv.ixL (i := 1) rfl fun e1' he1 => ?_
      walk_at "rdF"
      refine ⟨0, n1', e1', L', B', 24, rfl, hn1.less fun _ _ => trivial, he1.less fun _ _ => trivial, by omega, okL, okB, by omega, by omega, .inl rfl, fun H6 s6 => ?_⟩
      walk_at "rdF"
      refine (hv4.same s6).ixL (i := 0) rfl fun n2' hn2 => ?_
      walk_at "rdF"
      refine ⟨S, _, L, B, ns, rfl, hS4.same s6, hv4.same s6, rt, n0, n1, fun u r H7 hu lr g7 => ?_⟩
      walk_at "rdF"
      refine ⟨1, n2', u, L, B ++ [r], 22, rfl, (hn2.ex g7.ex).less fun _ _ => trivial, hu.less fun _ _ => trivial, by omega, fun q hq => (rt.lsL q hq).mono (by omega), fun q hq => ?_, by omega, by rw [List.length_append]; simp; omega, .inr ⟨B, r, rfl, .inl ⟨rfl, rt⟩⟩, fun H8 s8 => ?_⟩
      · rcases List.mem_append.mp hq with q2 | q2
        · exact (rt.lsB q q2).mono (by omega)
        · rw [List.mem_singleton.mp q2]; exact lr
      walk_at "rdF"
      exact ⟨rfl, (Gd.same hS4 s6).trans (g7.trans (.same g7.ok s8))⟩
    rintro σ6 H6 ⟨rfl, g6⟩
    replace hv4 := hv4.ex g6.ex
    have hS6 := g6.ok
    clear g6 hS4 hrv
    walk_at "rdF"
    refine hv4.ixL (i := 1) rfl fun e3' he3 => ?_
    walk_at "rdF"
    refine rep_len he3 rfl fun xs rx => ?_
    have lx : xs.length = B.length := by rw [rx.len]; exact List.length_map _
    walk_at "rdF"
    rw [lx]
    refine if_dec (fun hz => ?_) (fun hz => ?_)
    · walk_at "rdF"
      exact h _
    have lB1 : 1 ≤ B.length := by omega
    walk_at "rdF"
    refine hv4.ixL (i := 1) rfl fun e4' he4 => ?_
    walk_at "rdF"
    obtain ⟨B0, r0, rfl⟩ : ∃ B0 r0, B = B0 ++ [r0] := by
      exact ⟨B.dropLast, B.getLast (fun e => by rw [e] at lB1; simp at lB1), (List.dropLast_concat_getLast _).symm⟩
    have lBB : (B0 ++ [r0]).length = B0.length + 1 := by rw [List.length_append]; rfl
    refine hv4.ixL (i := 2) rfl fun q4' hq4 => ?_
    walk_at "rdF"
    refine ⟨S, 2, rfl, by omega, hS6, fun t H7 t0 t1 hS7 e7 => ?_⟩
    have g7 : Gd S H6 H7 := .of hS7 e7
    walk_at "rdF"
    rw [lBB, show (((B0.length + 1 : Nat) : Int) - 1) = (B0.length : Int) by omega]
    refine ⟨S, _, _, B0 ++ [r0], B0.length, r0, ns, 8 + t, 20, rfl, hS7, he4.ex g7.ex, hq4.ex g7.ex, by simp, by omega, by omega, rt.lsB, by omega, n0, n1, fun ev r' H8 hev lr' sm8 g8 => ?_⟩
    obtain ⟨en, ex, ey⟩ := sm8 (by omega)
    have g78 := g7.trans g8
    have rtB : Right L (B0 ++ [⟨r'.n, r'.x, r'.y, .non, .non⟩]) := by
      rw [en, ex, ey]; exact rt.blank
    walk_at "rdF"
    refine (hv4.ex g78.ex).ixL (i := 2) rfl fun q5' hq5 => ?_
    obtain ⟨qq, xq, rfl, qS, hqq, rxq⟩ := hq5.lstI
    obtain rfl := rxq.intsI
    walk_at "rdF"
    refine ⟨S, qq, ns, rfl, g8.ok, ⟨qS, hqq⟩, n0, n1, fun eq el eh H9 bl bh ncr neq heq hS9 e9 => ?_⟩
    have g9 := g78.trans (.of hS9 e9)
    have hev9 : RS S H9 ev r'.d := hev.to fun q o u e => ⟨u, e9 q o u e⟩
    walk_at "rdF"
    refine rep_ix hev9 rfl (by decide) rfl fun u0 h0 => ?_
    cases h0.strI
    walk_at "rdF"
    refine rep_ix hev9 rfl (by decide) rfl fun u0 h0 => ?_
    cases h0.strI
    walk_at "rdF"
    refine rep_ix hev9 rfl (by decide) rfl fun u0 h0 => ?_
    cases h0.strI
    walk_at "rdF"
    refine rd_ixQT heq.2 (atI_nat (i := 0) rfl) ?_
    walk_at "rdF"
    refine rd_ixQT heq.2 (atI_nat (i := 1) rfl) ?_
    walk_at "rdF"
    refine ⟨sz (by simp), fun p6 np6 => ?_⟩
    obtain ⟨s6, k6⟩ := new_tup (U := US S) (vs := [.str r'.n, .str r'.x, .str r'.y, el, eh]) (ds := [.str r'.n, .str r'.x, .str r'.y, vD el, vD eh]) np6 (hS9.ne1 np6) (.cons (.str _) (.cons (.str _) (.cons (.str _) (.cons (.sc bl.op.sc) (.cons (.sc bh.op.sc) .nil)))))
    generalize upd H9 p6 (.tup [.str r'.n, .str r'.x, .str r'.y, el, eh]) = H10 at *
    have hv10 := (hv4.ex g9.ex).same s6
    have hev10 := hev9.same s6
    have hS10 := hS9.same s6
    have uS : ∀ {H' : Hp}, StoreOk S H' → ∀ p, H' p = none → US S p := fun s p n => s.ne1 n
    -- both askings
    have ask : ∀ {H' : Hp} {v : V} {r : BR} {QQ : VK}, Same H10 H' → RS S H' v r.d → LsB 22 r → r.n = r'.n → r.x = r'.x → r.y = r'.y → (∀ H2, Same H' H2 → QQ (.bl true) H2) → ∀ nv2 ev2, RS S H' nv2 (.list (L.map lampD)) → RS S H' ev2 (.list ((B0 ++ [r]).map BR.d)) → spHolds [.int 2, nv2, ev2] H' QQ E0 := fun {H'} {v} {r} {QQ} s hr lr e1 e2 e3 hq nv2 ev2 hn2 he2 =>
      ⟨2, nv2, ev2, L, B0 ++ [r], 22, rfl, hn2.less fun _ _ => trivial, he2.less fun _ _ => trivial, by omega, fun q hq => (rt.lsL q hq).mono (by omega), fun q hq => (by
        rcases List.mem_append.mp hq with q2 | q2
        · exact (rt.lsB q (List.mem_append_left _ q2)).mono (by omega)
        · rw [List.mem_singleton.mp q2]; exact lr), by omega, by rw [List.length_append]; simp; omega, .inr ⟨B0, r, rfl, .inr ⟨rfl, by rw [e1, e2, e3]; exact rtB⟩⟩, hq⟩
    walk_at "rdF"
    refine (hv10.same (fun _ _ h => h)).ixL (i := 0) rfl fun nv1 hn1 => ?_
    walk_at "rdF"
    refine (hv10.same (fun _ _ h => h)).ixL (i := 1) rfl fun ev1 he1 => ?_
    walk_at "rdF"
    rw [show (((B0.length + 1 : Nat) : Int) - 1) = (B0.length : Int) by omega]
    refine rd_take he1 (uS (hS10.same (fun _ _ h => h))) fun p7 H11 s7 np7 k7 => ?_
    rw [List.map_append, List.take_append_of_le_length (by rw [List.length_map]; omega), List.take_of_length_le (by rw [List.length_map]; omega)] at k7
    have hS11 := (hS10.same (fun _ _ h => h)).same s7
    walk_at "rdF"
    refine ⟨sz (by simp), fun p8 np8 => ?_⟩
    obtain ⟨s8, k8⟩ := new_lst (U := US S) (vs := [ev]) (ds := [r'.d]) np8 (uS hS11 _ np8) (.cons (hev10.same s7) .nil)
    generalize upd H11 p8 (.lst [ev]) = H12 at *
    have hS12 := hS11.same s8
    refine rd_cat (k7.same s8) k8 (by rw [List.length_map]; simp; omega) (uS hS12) fun p9 H13 s9 np9 k9 => ?_
    have sA := ((show Same H10 _ from (fun _ _ h => h)).trans s7).trans (s8.trans s9)
    have k9 : RS S H13 (.ref p9) (.list ((B0 ++ [r']).map BR.d)) := by rw [List.map_append]; exact k9
    walk_at "rdF"
    refine ask sA (hev10.same sA) lr' rfl rfl rfl (fun H14 s14 => ?_) _ _ (hn1.same (s7.trans (s8.trans s9))) k9
    have sB := sA.trans s14
    clear sA k9 k8 k7 s7 s8 s9 s14 hn1 he1 np7 np8 np9
    walk_at "rdF"
    refine (hv10.same sB).ixL (i := 0) rfl fun nv1 hn1 => ?_
    walk_at "rdF"
    refine (hv10.same sB).ixL (i := 1) rfl fun ev1 he1 => ?_
    walk_at "rdF"
    rw [show (((B0.length + 1 : Nat) : Int) - 1) = (B0.length : Int) by omega]
    refine rd_take he1 (uS (hS10.same sB)) fun p7 H11 s7 np7 k7 => ?_
    rw [List.map_append, List.take_append_of_le_length (by rw [List.length_map]; omega), List.take_of_length_le (by rw [List.length_map]; omega)] at k7
    have hS11 := (hS10.same sB).same s7
    walk_at "rdF"
    refine ⟨sz (by simp), fun p8 np8 => ?_⟩
    obtain ⟨s8, k8⟩ := new_lst (U := US S) (vs := [.ref p6]) (ds := [BR.d ⟨r'.n, r'.x, r'.y, el, eh⟩]) np8 (uS hS11 _ np8) (.cons ((k6.same sB).same s7) .nil)
    generalize upd H11 p8 (.lst [.ref p6]) = H12 at *
    have hS12 := hS11.same s8
    refine rd_cat (k7.same s8) k8 (by rw [List.length_map]; simp; omega) (uS hS12) fun p9 H13 s9 np9 k9 => ?_
    have sA := ((show Same H10 _ from sB).trans s7).trans (s8.trans s9)
    have k9 : RS S H13 (.ref p9) (.list ((B0 ++ [(⟨r'.n, r'.x, r'.y, el, eh⟩ : BR)]).map BR.d)) := by rw [List.map_append]; exact k9
    walk_at "rdF"
    refine ask (r := ⟨r'.n, r'.x, r'.y, el, eh⟩) sA (k6.same sA) ⟨lr'.n, lr'.x, lr'.y, .inl bl.op.1, .inl bh.op.1⟩ rfl rfl rfl (fun H15 s15 => ?_) _ _ (hn1.same (s7.trans (s8.trans s9))) k9
    exact h _
end
theorem fund_mk {K : PySem.W.Frag} {x qual : Str} {st : Stmt} {f T : Addr} {dvs : List V} {its : List Value} {oc oT kV doc pm cdv ct : Value} {od an oD : Option Addr} {osl tsl : Array (Option Value)} {n : Nat} (hne : dvs ≠ []) (l : K.lookup f = some ⟨oc, od, .func (PySem.W.fnOf x qual (defArgs st) (defBody st) (defScope st) (.ref T) kV doc pm an cdv ct), osl⟩)
    (c : PySem.W.codeIn K cdv qual = true) (kp : PySem.W.keepIn K (.ref f) = true) (t : K.lookup T = some ⟨oT, oD, .seq its.toArray n, tsl⟩) (r : Vals dvs its) : FunD K x qual (defArgs st) (defBody st) (defScope st) dvs [] f (PySem.W.fnOf x qual (defArgs st) (defBody st) (defScope st) (.ref T) kV doc pm an cdv ct) :=
  ⟨⟨oc, od, .ref T, kV, doc, pm, an, cdv, ct, osl, rfl, l, c, .inr ⟨hne, T, _, its, n, rfl, t, rfl, r⟩, .inl rfl⟩, kp⟩
theorem kbn_of {K : PySem.W.Frag} {x qual : Str} {st : Stmt} {f : Addr} {fd : FuncData} {ps ks : List Str} {n : Nat} {g : List Value → List Value → List Value} {gV : List V → List V → List V} (F : Fun K x qual st f fd)
    (rel : ∀ {vs : List V} {us : List Value} {zs : List V} {ws : List Value}, Vals vs us → Vals zs ws → Vals (gV vs zs) (g us ws))
    (h : ∀ (kV doc pm : Value) (an : Option Addr) (cdv ct : Value) (us ws : List Value), us.length = n → ws.length = ks.length → bindArgs (PySem.W.fnOf x qual (defArgs st) (defBody st) (defScope st) .none kV doc pm an cdv ct) ⟨us, ks.zip ws⟩ = pure (ps.zip (g us ws))) : KBn K fd ps n ks g gV := by
  obtain ⟨oc, od, kV, doc, pm, an, cdv, ct, osl, rfl, lk, hcd⟩ := F.ex
  exact ⟨fun s us ws X l1 l2 => .of_eq (h kV doc pm an cdv ct us ws l1 l2), rel⟩
theorem fund_kw {K : PySem.W.Frag} {x qual : Str} {st : Stmt} {f D : Addr} {kws : List (Str × V)} {oc doc pm cdv ct : Value} {od an : Option Addr} {osl : Array (Option Value)} (hne : kws ≠ []) (l : K.lookup f = some ⟨oc, od, .func (PySem.W.fnOf x qual (defArgs st) (defBody st) (defScope st) .none (.ref D) doc pm an cdv ct), osl⟩)
    (c : PySem.W.codeIn K cdv qual = true) (kp : PySem.W.keepIn K (.ref f) = true) (h : ∀ q ∈ kws, ∃ u, PySem.W.nsIn K D q.1 = some (some u) ∧ RelV q.2 u) : FunD K x qual (defArgs st) (defBody st) (defScope st) [] kws f (PySem.W.fnOf x qual (defArgs st) (defBody st) (defScope st) .none (.ref D) doc pm an cdv ct) :=
  ⟨⟨oc, od, .none, .ref D, doc, pm, an, cdv, ct, osl, rfl, l, c, .inl ⟨rfl, rfl⟩, .inr ⟨D, rfl, h⟩⟩, kp⟩
set_option maxHeartbeats 0 in
theorem all_mk {l : PySem.W.OpenLaw} {w : World} {K : PySem.W.Frag} {h : Heap} {mg : Str → Option Value} {fa : Addr} {CN fCN : Addr} {nmCN qCN : Str} {NCN : Addr} {bsCN bmCN : List Value} {snCN : List Str} {subCN : List Value} {abCN : Bool} {colCN : Option Bool} {ddCN : Option Addr} {m0CN m1CN m2CN m3CN m5CN : Option Value} {odCN anCN : Option Addr} {slCN : Array (Option Value)} {ocCN kVCN dcCN pmCN cdCN ctCN : Value} {CE fCE : Addr} {nmCE qCE : Str} {NCE : Addr} {bsCE bmCE : List Value} {snCE : List Str} {subCE : List Value} {abCE : Bool} {colCE : Option Bool} {ddCE : Option Addr} {m0CE m1CE m2CE m3CE m5CE : Option Value} {odCE anCE : Option Addr} {slCE : Array (Option Value)} {ocCE kVCE dcCE pmCE cdCE ctCE : Value} {CB fCB : Addr} {nmCB qCB : Str} {NCB : Addr} {bsCB bmCB : List Value} {snCB : List Str} {subCB : List Value} {abCB : Bool} {colCB : Option Bool} {ddCB : Option Addr} {m0CB m1CB m2CB m3CB m5CB : Option Value} {odCB anCB : Option Addr} {slCB : Array (Option Value)} {ocCB kVCB dcCB pmCB cdCB ctCB : Value} {CD fCD : Addr} {nmCD qCD : Str} {NCD : Addr} {bsCD bmCD : List Value} {snCD : List Str} {subCD : List Value} {abCD : Bool} {colCD : Option Bool} {ddCD : Option Addr} {m0CD m1CD m2CD m3CD m5CD : Option Value} {odCD anCD : Option Addr} {slCD : Array (Option Value)} {ocCD kVCD dcCD pmCD cdCD ctCD : Value} {CF fCF : Addr} {nmCF qCF : Str} {NCF : Addr} {bsCF bmCF : List Value} {snCF : List Str} {subCF : List Value} {abCF : Bool} {colCF : Option Bool} {ddCF : Option Addr} {m0CF m1CF m2CF m3CF m5CF : Option Value} {odCF anCF : Option Addr} {slCF : Array (Option Value)} {ocCF kVCF dcCF pmCF cdCF ctCF : Value} {CU fCU : Addr} {nmCU qCU : Str} {NCU : Addr} {bsCU bmCU : List Value} {snCU : List Str} {subCU : List Value} {abCU : Bool} {colCU : Option Bool} {ddCU : Option Addr} {m0CU m1CU m2CU m3CU m5CU : Option Value} {odCU anCU : Option Addr} {slCU : Array (Option Value)} {ocCU kVCU dcCU pmCU cdCU ctCU : Value} {CR fCR : Addr} {nmCR qCR : Str} {NCR : Addr} {bsCR bmCR : List Value} {snCR : List Str} {subCR : List Value} {abCR : Bool} {colCR : Option Bool} {ddCR : Option Addr} {m0CR m1CR m2CR m3CR m5CR : Option Value} {odCR anCR : Option Addr} {slCR : Array (Option Value)} {ocCR kVCR dcCR pmCR cdCR ctCR : Value} {cO : Addr} {f0 : Addr} {od0 an0 : Option Addr} {sl0 : Array (Option Value)} {oc0 kV0 dc0 pm0 cd0 ct0 : Value} {f1 : Addr} {od1 an1 : Option Addr} {sl1 : Array (Option Value)} {oc1 kV1 dc1 pm1 cd1 ct1 : Value} {f2 : Addr} {od2 an2 : Option Addr} {sl2 : Array (Option Value)} {oc2 kV2 dc2 pm2 cd2 ct2 : Value} {f3 : Addr} {od3 an3 : Option Addr} {sl3 : Array (Option Value)} {oc3 kV3 dc3 pm3 cd3 ct3 : Value} {f4 : Addr} {od4 an4 : Option Addr} {sl4 : Array (Option Value)} {oc4 kV4 dc4 pm4 cd4 ct4 : Value} {CS : Addr} {f5 : Addr} {od5 an5 : Option Addr} {sl5 : Array (Option Value)} {oc5 kV5 dc5 pm5 cd5 ct5 : Value} {T5 : Addr} {oT5 : Value} {oD5 : Option Addr} {nT5 : Nat} {tS5 : Array (Option Value)} {f6 : Addr} {od6 an6 : Option Addr} {sl6 : Array (Option Value)} {oc6 kV6 dc6 pm6 cd6 ct6 : Value} {f7 : Addr} {od7 an7 : Option Addr} {sl7 : Array (Option Value)} {oc7 kV7 dc7 pm7 cd7 ct7 : Value} {f8 : Addr} {od8 an8 : Option Addr} {sl8 : Array (Option Value)} {oc8 kV8 dc8 pm8 cd8 ct8 : Value} {f9 : Addr} {od9 an9 : Option Addr} {sl9 : Array (Option Value)} {oc9 kV9 dc9 pm9 cd9 ct9 : Value} {f10 : Addr} {od10 an10 : Option Addr} {sl10 : Array (Option Value)} {oc10 kV10 dc10 pm10 cd10 ct10 : Value} {f11 : Addr} {od11 an11 : Option Addr} {sl11 : Array (Option Value)} {oc11 kV11 dc11 pm11 cd11 ct11 : Value} {f12 : Addr} {od12 an12 : Option Addr} {sl12 : Array (Option Value)} {oc12 kV12 dc12 pm12 cd12 ct12 : Value} {f13 : Addr} {od13 an13 : Option Addr} {sl13 : Array (Option Value)} {oc13 kV13 dc13 pm13 cd13 ct13 : Value} {f14 : Addr} {od14 an14 : Option Addr} {sl14 : Array (Option Value)} {oc14 kV14 dc14 pm14 cd14 ct14 : Value} {CW : Addr} {te : Addr} {oDe : Option Addr} {nTe : Nat} {tSe : Array (Option Value)} {f15 : Addr} {od15 an15 : Option Addr} {sl15 : Array (Option Value)} {oc15 kV15 dc15 pm15 cd15 ct15 : Value} {T15 : Addr} {oT15 : Value} {oD15 : Option Addr} {nT15 : Nat} {tS15 : Array (Option Value)} {pq16 : Addr} {pr16 : List Value} {f16 : Addr} {od16 an16 : Option Addr} {sl16 : Array (Option Value)} {oc16 kV16 dc16 pm16 cd16 ct16 : Value} {pq17 : Addr} {pr17 : List Value} {f17 : Addr} {od17 an17 : Option Addr} {sl17 : Array (Option Value)} {oc17 kV17 dc17 pm17 cd17 ct17 : Value} {f18 : Addr} {od18 an18 : Option Addr} {sl18 : Array (Option Value)} {oc18 kV18 dc18 pm18 cd18 ct18 : Value} {f19 : Addr} {od19 an19 : Option Addr} {sl19 : Array (Option Value)} {oc19 kV19 dc19 pm19 cd19 ct19 : Value} {f20 : Addr} {od20 an20 : Option Addr} {sl20 : Array (Option Value)} {oc20 kV20 dc20 pm20 cd20 ct20 : Value} {f21 D21 : Addr} {od21 an21 : Option Addr} {sl21 : Array (Option Value)} {oc21 dc21 pm21 cd21 ct21 : Value} {f22 : Addr} {od22 an22 : Option Addr} {sl22 : Array (Option Value)} {oc22 kV22 dc22 pm22 cd22 ct22 : Value} {f23 : Addr} {od23 an23 : Option Addr} {sl23 : Array (Option Value)} {oc23 kV23 dc23 pm23 cd23 ct23 : Value} {f24 : Addr} {od24 an24 : Option Addr} {sl24 : Array (Option Value)} {oc24 kV24 dc24 pm24 cd24 ct24 : Value} {f25 : Addr} {od25 an25 : Option Addr} {sl25 : Array (Option Value)} {oc25 kV25 dc25 pm25 cd25 ct25 : Value} {f26 : Addr} {od26 an26 : Option Addr} {sl26 : Array (Option Value)} {oc26 kV26 dc26 pm26 cd26 ct26 : Value} {f27 : Addr} {od27 an27 : Option Addr} {sl27 : Array (Option Value)} {oc27 kV27 dc27 pm27 cd27 ct27 : Value} {f28 : Addr} {od28 an28 : Option Addr} {sl28 : Array (Option Value)} {oc28 kV28 dc28 pm28 cd28 ct28 : Value} {f29 : Addr} {od29 an29 : Option Addr} {sl29 : Array (Option Value)} {oc29 kV29 dc29 pm29 cd29 ct29 : Value} {f30 : Addr} {od30 an30 : Option Addr} {sl30 : Array (Option Value)} {oc30 kV30 dc30 pm30 cd30 ct30 : Value} {f31 : Addr} {od31 an31 : Option Addr} {sl31 : Array (Option Value)} {oc31 kV31 dc31 pm31 cd31 ct31 : Value} {f32 : Addr} {od32 an32 : Option Addr} {sl32 : Array (Option Value)} {oc32 kV32 dc32 pm32 cd32 ct32 : Value} {f33 : Addr} {od33 an33 : Option Addr} {sl33 : Array (Option Value)} {oc33 kV33 dc33 pm33 cd33 ct33 : Value} {f34 : Addr} {od34 an34 : Option Addr} {sl34 : Array (Option Value)} {oc34 kV34 dc34 pm34 cd34 ct34 : Value} {f35 : Addr} {od35 an35 : Option Addr} {sl35 : Array (Option Value)} {oc35 kV35 dc35 pm35 cd35 ct35 : Value} {f36 : Addr} {od36 an36 : Option Addr} {sl36 : Array (Option Value)} {oc36 kV36 dc36 pm36 cd36 ct36 : Value} {f37 : Addr} {od37 an37 : Option Addr} {sl37 : Array (Option Value)} {oc37 kV37 dc37 pm37 cd37 ct37 : Value} {f38 : Addr} {od38 an38 : Option Addr} {sl38 : Array (Option Value)} {oc38 kV38 dc38 pm38 cd38 ct38 : Value} {f39 : Addr} {od39 an39 : Option Addr} {sl39 : Array (Option Value)} {oc39 kV39 dc39 pm39 cd39 ct39 : Value} {f40 : Addr} {od40 an40 : Option Addr} {sl40 : Array (Option Value)} {oc40 kV40 dc40 pm40 cd40 ct40 : Value} {f41 : Addr} {od41 an41 : Option Addr} {sl41 : Array (Option Value)} {oc41 kV41 dc41 pm41 cd41 ct41 : Value} {f42 : Addr} {od42 an42 : Option Addr} {sl42 : Array (Option Value)} {oc42 kV42 dc42 pm42 cd42 ct42 : Value} {f43 : Addr} {od43 an43 : Option Addr} {sl43 : Array (Option Value)} {oc43 kV43 dc43 pm43 cd43 ct43 : Value} {f44 : Addr} {od44 an44 : Option Addr} {sl44 : Array (Option Value)} {oc44 kV44 dc44 pm44 cd44 ct44 : Value} {f45 : Addr} {od45 an45 : Option Addr} {sl45 : Array (Option Value)} {oc45 kV45 dc45 pm45 cd45 ct45 : Value} {f46 : Addr} {od46 an46 : Option Addr} {sl46 : Array (Option Value)} {oc46 kV46 dc46 pm46 cd46 ct46 : Value} {f47 : Addr} {od47 an47 : Option Addr} {sl47 : Array (Option Value)} {oc47 kV47 dc47 pm47 cd47 ct47 : Value} {f48 : Addr} {od48 an48 : Option Addr} {sl48 : Array (Option Value)} {oc48 kV48 dc48 pm48 cd48 ct48 : Value} {f49 : Addr} {od49 an49 : Option Addr} {sl49 : Array (Option Value)} {oc49 kV49 dc49 pm49 cd49 ct49 : Value} {f50 : Addr} {od50 an50 : Option Addr} {sl50 : Array (Option Value)} {oc50 kV50 dc50 pm50 cd50 ct50 : Value} {f51 : Addr} {od51 an51 : Option Addr} {sl51 : Array (Option Value)} {oc51 kV51 dc51 pm51 cd51 ct51 : Value}
    (X : K.In h) (G : h.Ns mainGlobals mg) (hfa : mg "law" = some (.ref fa))
    (gCN : PySem.W.nsIn K mainGlobals "BadName" = some (some (.ref CN)))
    (xCN : K.lookup CN = some (excClassObj nmCN qCN CN NCN bsCN bmCN true snCN subCN abCN colCN ddCN m0CN m1CN m2CN m3CN m5CN "ValueError.__new__"))
    (rCN : PySem.HandSPX.refsVE bmCN = true)
    (saCN : PySem.W.findIn K (.ref CN) "__setattr__" = some (some (.builtin "object.__setattr__")))
    (gaCN : PySem.W.findIn K (.ref CN) "__getattribute__" = some (some (.builtin "BaseException.__getattribute__")))
    (ggCN : PySem.W.findIn K (.ref CN) "__getattr__" = some none)
    (nfCNname : PySem.W.findIn K (.ref CN) "name" = some none)
    (kpCN : PySem.W.keepIn K (.ref CN) = true)
    (exCN : PySem.W.subIn K (.ref CN) (.type "BaseException") = some true)
    (tyCN : PySem.W.typeIn K (.ref CN) = some (.type "type"))
    (hdCN : PySem.W.hasDictIn K CN = true)
    (haCN : PySem.W.findIn K (.ref CN) "__class__" = some (some (.builtin "object.__class__")))
    (hnCN : PySem.W.specialIn K (.builtin "object.__class__") "__get__" = some (some (.builtin "getset_descriptor.__get__")))
    (htCN : PySem.W.takesIn K (.builtin "object.__class__") = some true)
    (hmCN : PySem.W.mroIn K CN (.type "object") = some true)
    (suCN : PySem.W.subIn K (.ref CN) (.ref CN) = some true)
    (iCN : PySem.W.findIn K (.ref CN) "__init__" = some (some (.ref fCN)))
    (tiCN : PySem.W.typeIn K (.ref fCN) = some (.type "function"))
    (lCN : K.lookup fCN = some ⟨ocCN, odCN, .func (PySem.W.fnOf "__init__" "BadName.__init__" (defArgs sBadName___init__) (defBody sBadName___init__) (defScope sBadName___init__) .none kVCN dcCN pmCN anCN cdCN ctCN), slCN⟩)
    (cCN : PySem.W.codeIn K cdCN "BadName.__init__" = true)
    (kCN : PySem.W.keepIn K (.ref fCN) = true)
    (gCE : PySem.W.nsIn K mainGlobals "BadNumber" = some (some (.ref CE)))
    (xCE : K.lookup CE = some (excClassObj nmCE qCE CE NCE bsCE bmCE true snCE subCE abCE colCE ddCE m0CE m1CE m2CE m3CE m5CE "ValueError.__new__"))
    (rCE : PySem.HandSPX.refsVE bmCE = true)
    (saCE : PySem.W.findIn K (.ref CE) "__setattr__" = some (some (.builtin "object.__setattr__")))
    (gaCE : PySem.W.findIn K (.ref CE) "__getattribute__" = some (some (.builtin "BaseException.__getattribute__")))
    (ggCE : PySem.W.findIn K (.ref CE) "__getattr__" = some none)
    (nfCEnumber : PySem.W.findIn K (.ref CE) "number" = some none)
    (kpCE : PySem.W.keepIn K (.ref CE) = true)
    (exCE : PySem.W.subIn K (.ref CE) (.type "BaseException") = some true)
    (tyCE : PySem.W.typeIn K (.ref CE) = some (.type "type"))
    (hdCE : PySem.W.hasDictIn K CE = true)
    (haCE : PySem.W.findIn K (.ref CE) "__class__" = some (some (.builtin "object.__class__")))
    (hnCE : PySem.W.specialIn K (.builtin "object.__class__") "__get__" = some (some (.builtin "getset_descriptor.__get__")))
    (htCE : PySem.W.takesIn K (.builtin "object.__class__") = some true)
    (hmCE : PySem.W.mroIn K CE (.type "object") = some true)
    (suCE : PySem.W.subIn K (.ref CE) (.ref CE) = some true)
    (iCE : PySem.W.findIn K (.ref CE) "__init__" = some (some (.ref fCE)))
    (tiCE : PySem.W.typeIn K (.ref fCE) = some (.type "function"))
    (lCE : K.lookup fCE = some ⟨ocCE, odCE, .func (PySem.W.fnOf "__init__" "BadNumber.__init__" (defArgs sBadNumber___init__) (defBody sBadNumber___init__) (defScope sBadNumber___init__) .none kVCE dcCE pmCE anCE cdCE ctCE), slCE⟩)
    (cCE : PySem.W.codeIn K cdCE "BadNumber.__init__" = true)
    (kCE : PySem.W.keepIn K (.ref fCE) = true)
    (gCB : PySem.W.nsIn K mainGlobals "BadSpan" = some (some (.ref CB)))
    (xCB : K.lookup CB = some (excClassObj nmCB qCB CB NCB bsCB bmCB true snCB subCB abCB colCB ddCB m0CB m1CB m2CB m3CB m5CB "ValueError.__new__"))
    (rCB : PySem.HandSPX.refsVE bmCB = true)
    (saCB : PySem.W.findIn K (.ref CB) "__setattr__" = some (some (.builtin "object.__setattr__")))
    (gaCB : PySem.W.findIn K (.ref CB) "__getattribute__" = some (some (.builtin "BaseException.__getattribute__")))
    (ggCB : PySem.W.findIn K (.ref CB) "__getattr__" = some none)
    (nfCBlow : PySem.W.findIn K (.ref CB) "low" = some none)
    (nfCBhigh : PySem.W.findIn K (.ref CB) "high" = some none)
    (kpCB : PySem.W.keepIn K (.ref CB) = true)
    (exCB : PySem.W.subIn K (.ref CB) (.type "BaseException") = some true)
    (tyCB : PySem.W.typeIn K (.ref CB) = some (.type "type"))
    (hdCB : PySem.W.hasDictIn K CB = true)
    (haCB : PySem.W.findIn K (.ref CB) "__class__" = some (some (.builtin "object.__class__")))
    (hnCB : PySem.W.specialIn K (.builtin "object.__class__") "__get__" = some (some (.builtin "getset_descriptor.__get__")))
    (htCB : PySem.W.takesIn K (.builtin "object.__class__") = some true)
    (hmCB : PySem.W.mroIn K CB (.type "object") = some true)
    (suCB : PySem.W.subIn K (.ref CB) (.ref CB) = some true)
    (iCB : PySem.W.findIn K (.ref CB) "__init__" = some (some (.ref fCB)))
    (tiCB : PySem.W.typeIn K (.ref fCB) = some (.type "function"))
    (lCB : K.lookup fCB = some ⟨ocCB, odCB, .func (PySem.W.fnOf "__init__" "BadSpan.__init__" (defArgs sBadSpan___init__) (defBody sBadSpan___init__) (defScope sBadSpan___init__) .none kVCB dcCB pmCB anCB cdCB ctCB), slCB⟩)
    (cCB : PySem.W.codeIn K cdCB "BadSpan.__init__" = true)
    (kCB : PySem.W.keepIn K (.ref fCB) = true)
    (gCD : PySem.W.nsIn K mainGlobals "Doubled" = some (some (.ref CD)))
    (xCD : K.lookup CD = some (excClassObj nmCD qCD CD NCD bsCD bmCD true snCD subCD abCD colCD ddCD m0CD m1CD m2CD m3CD m5CD "ValueError.__new__"))
    (rCD : PySem.HandSPX.refsVE bmCD = true)
    (saCD : PySem.W.findIn K (.ref CD) "__setattr__" = some (some (.builtin "object.__setattr__")))
    (gaCD : PySem.W.findIn K (.ref CD) "__getattribute__" = some (some (.builtin "BaseException.__getattribute__")))
    (ggCD : PySem.W.findIn K (.ref CD) "__getattr__" = some none)
    (nfCDname : PySem.W.findIn K (.ref CD) "name" = some none)
    (kpCD : PySem.W.keepIn K (.ref CD) = true)
    (exCD : PySem.W.subIn K (.ref CD) (.type "BaseException") = some true)
    (tyCD : PySem.W.typeIn K (.ref CD) = some (.type "type"))
    (hdCD : PySem.W.hasDictIn K CD = true)
    (haCD : PySem.W.findIn K (.ref CD) "__class__" = some (some (.builtin "object.__class__")))
    (hnCD : PySem.W.specialIn K (.builtin "object.__class__") "__get__" = some (some (.builtin "getset_descriptor.__get__")))
    (htCD : PySem.W.takesIn K (.builtin "object.__class__") = some true)
    (hmCD : PySem.W.mroIn K CD (.type "object") = some true)
    (suCD : PySem.W.subIn K (.ref CD) (.ref CD) = some true)
    (iCD : PySem.W.findIn K (.ref CD) "__init__" = some (some (.ref fCD)))
    (tiCD : PySem.W.typeIn K (.ref fCD) = some (.type "function"))
    (lCD : K.lookup fCD = some ⟨ocCD, odCD, .func (PySem.W.fnOf "__init__" "Doubled.__init__" (defArgs sDoubled___init__) (defBody sDoubled___init__) (defScope sDoubled___init__) .none kVCD dcCD pmCD anCD cdCD ctCD), slCD⟩)
    (cCD : PySem.W.codeIn K cdCD "Doubled.__init__" = true)
    (kCD : PySem.W.keepIn K (.ref fCD) = true)
    (gCF : PySem.W.nsIn K mainGlobals "SelfBond" = some (some (.ref CF)))
    (xCF : K.lookup CF = some (excClassObj nmCF qCF CF NCF bsCF bmCF true snCF subCF abCF colCF ddCF m0CF m1CF m2CF m3CF m5CF "ValueError.__new__"))
    (rCF : PySem.HandSPX.refsVE bmCF = true)
    (saCF : PySem.W.findIn K (.ref CF) "__setattr__" = some (some (.builtin "object.__setattr__")))
    (gaCF : PySem.W.findIn K (.ref CF) "__getattribute__" = some (some (.builtin "BaseException.__getattribute__")))
    (ggCF : PySem.W.findIn K (.ref CF) "__getattr__" = some none)
    (nfCFbond : PySem.W.findIn K (.ref CF) "bond" = some none)
    (kpCF : PySem.W.keepIn K (.ref CF) = true)
    (exCF : PySem.W.subIn K (.ref CF) (.type "BaseException") = some true)
    (tyCF : PySem.W.typeIn K (.ref CF) = some (.type "type"))
    (hdCF : PySem.W.hasDictIn K CF = true)
    (haCF : PySem.W.findIn K (.ref CF) "__class__" = some (some (.builtin "object.__class__")))
    (hnCF : PySem.W.specialIn K (.builtin "object.__class__") "__get__" = some (some (.builtin "getset_descriptor.__get__")))
    (htCF : PySem.W.takesIn K (.builtin "object.__class__") = some true)
    (hmCF : PySem.W.mroIn K CF (.type "object") = some true)
    (suCF : PySem.W.subIn K (.ref CF) (.ref CF) = some true)
    (iCF : PySem.W.findIn K (.ref CF) "__init__" = some (some (.ref fCF)))
    (tiCF : PySem.W.typeIn K (.ref fCF) = some (.type "function"))
    (lCF : K.lookup fCF = some ⟨ocCF, odCF, .func (PySem.W.fnOf "__init__" "SelfBond.__init__" (defArgs sSelfBond___init__) (defBody sSelfBond___init__) (defScope sSelfBond___init__) .none kVCF dcCF pmCF anCF cdCF ctCF), slCF⟩)
    (cCF : PySem.W.codeIn K cdCF "SelfBond.__init__" = true)
    (kCF : PySem.W.keepIn K (.ref fCF) = true)
    (gCU : PySem.W.nsIn K mainGlobals "Unknown" = some (some (.ref CU)))
    (xCU : K.lookup CU = some (excClassObj nmCU qCU CU NCU bsCU bmCU true snCU subCU abCU colCU ddCU m0CU m1CU m2CU m3CU m5CU "ValueError.__new__"))
    (rCU : PySem.HandSPX.refsVE bmCU = true)
    (saCU : PySem.W.findIn K (.ref CU) "__setattr__" = some (some (.builtin "object.__setattr__")))
    (gaCU : PySem.W.findIn K (.ref CU) "__getattribute__" = some (some (.builtin "BaseException.__getattribute__")))
    (ggCU : PySem.W.findIn K (.ref CU) "__getattr__" = some none)
    (nfCUname : PySem.W.findIn K (.ref CU) "name" = some none)
    (kpCU : PySem.W.keepIn K (.ref CU) = true)
    (exCU : PySem.W.subIn K (.ref CU) (.type "BaseException") = some true)
    (tyCU : PySem.W.typeIn K (.ref CU) = some (.type "type"))
    (hdCU : PySem.W.hasDictIn K CU = true)
    (haCU : PySem.W.findIn K (.ref CU) "__class__" = some (some (.builtin "object.__class__")))
    (hnCU : PySem.W.specialIn K (.builtin "object.__class__") "__get__" = some (some (.builtin "getset_descriptor.__get__")))
    (htCU : PySem.W.takesIn K (.builtin "object.__class__") = some true)
    (hmCU : PySem.W.mroIn K CU (.type "object") = some true)
    (suCU : PySem.W.subIn K (.ref CU) (.ref CU) = some true)
    (iCU : PySem.W.findIn K (.ref CU) "__init__" = some (some (.ref fCU)))
    (tiCU : PySem.W.typeIn K (.ref fCU) = some (.type "function"))
    (lCU : K.lookup fCU = some ⟨ocCU, odCU, .func (PySem.W.fnOf "__init__" "Unknown.__init__" (defArgs sUnknown___init__) (defBody sUnknown___init__) (defScope sUnknown___init__) .none kVCU dcCU pmCU anCU cdCU ctCU), slCU⟩)
    (cCU : PySem.W.codeIn K cdCU "Unknown.__init__" = true)
    (kCU : PySem.W.keepIn K (.ref fCU) = true)
    (gCR : PySem.W.nsIn K mainGlobals "OutOfRange" = some (some (.ref CR)))
    (xCR : K.lookup CR = some (excClassObj nmCR qCR CR NCR bsCR bmCR true snCR subCR abCR colCR ddCR m0CR m1CR m2CR m3CR m5CR "ValueError.__new__"))
    (rCR : PySem.HandSPX.refsVE bmCR = true)
    (saCR : PySem.W.findIn K (.ref CR) "__setattr__" = some (some (.builtin "object.__setattr__")))
    (gaCR : PySem.W.findIn K (.ref CR) "__getattribute__" = some (some (.builtin "BaseException.__getattribute__")))
    (ggCR : PySem.W.findIn K (.ref CR) "__getattr__" = some none)
    (nfCRnumber : PySem.W.findIn K (.ref CR) "number" = some none)
    (nfCRlow : PySem.W.findIn K (.ref CR) "low" = some none)
    (nfCRhigh : PySem.W.findIn K (.ref CR) "high" = some none)
    (kpCR : PySem.W.keepIn K (.ref CR) = true)
    (exCR : PySem.W.subIn K (.ref CR) (.type "BaseException") = some true)
    (tyCR : PySem.W.typeIn K (.ref CR) = some (.type "type"))
    (hdCR : PySem.W.hasDictIn K CR = true)
    (haCR : PySem.W.findIn K (.ref CR) "__class__" = some (some (.builtin "object.__class__")))
    (hnCR : PySem.W.specialIn K (.builtin "object.__class__") "__get__" = some (some (.builtin "getset_descriptor.__get__")))
    (htCR : PySem.W.takesIn K (.builtin "object.__class__") = some true)
    (hmCR : PySem.W.mroIn K CR (.type "object") = some true)
    (suCR : PySem.W.subIn K (.ref CR) (.ref CR) = some true)
    (iCR : PySem.W.findIn K (.ref CR) "__init__" = some (some (.ref fCR)))
    (tiCR : PySem.W.typeIn K (.ref fCR) = some (.type "function"))
    (lCR : K.lookup fCR = some ⟨ocCR, odCR, .func (PySem.W.fnOf "__init__" "OutOfRange.__init__" (defArgs sOutOfRange___init__) (defBody sOutOfRange___init__) (defScope sOutOfRange___init__) .none kVCR dcCR pmCR anCR cdCR ctCR), slCR⟩)
    (cCR : PySem.W.codeIn K cdCR "OutOfRange.__init__" = true)
    (kCR : PySem.W.keepIn K (.ref fCR) = true)
    (gcO : PySem.W.nsIn K mainGlobals "OutshinerError" = some (some (.ref cO)))
    (eo0 : PySem.W.kitOne K (.ref CN) (.ref cO) = some true)
    (eo1 : PySem.W.kitOne K (.ref CE) (.ref cO) = some true)
    (eo2 : PySem.W.kitOne K (.ref CB) (.ref cO) = some true)
    (eo3 : PySem.W.kitOne K (.ref CD) (.ref cO) = some true)
    (eo4 : PySem.W.kitOne K (.ref CF) (.ref cO) = some true)
    (eo5 : PySem.W.kitOne K (.ref CU) (.ref cO) = some true)
    (eo6 : PySem.W.kitOne K (.ref CR) (.ref cO) = some true)
    (ei01 : PySem.W.kitOne K (.ref CN) (.ref CE) = some false)
    (ei03 : PySem.W.kitOne K (.ref CN) (.ref CD) = some false)
    (ei05 : PySem.W.kitOne K (.ref CN) (.ref CU) = some false)
    (ei12 : PySem.W.kitOne K (.ref CE) (.ref CB) = some false)
    (ei16 : PySem.W.kitOne K (.ref CE) (.ref CR) = some false)
    (ei26 : PySem.W.kitOne K (.ref CB) (.ref CR) = some false)
    (ei21 : PySem.W.kitOne K (.ref CB) (.ref CE) = some false)
    (ei30 : PySem.W.kitOne K (.ref CD) (.ref CN) = some false)
    (ei34 : PySem.W.kitOne K (.ref CD) (.ref CF) = some false)
    (ei35 : PySem.W.kitOne K (.ref CD) (.ref CU) = some false)
    (ei43 : PySem.W.kitOne K (.ref CF) (.ref CD) = some false)
    (ei40 : PySem.W.kitOne K (.ref CF) (.ref CN) = some false)
    (ei45 : PySem.W.kitOne K (.ref CF) (.ref CU) = some false)
    (ei50 : PySem.W.kitOne K (.ref CU) (.ref CN) = some false)
    (ei53 : PySem.W.kitOne K (.ref CU) (.ref CD) = some false)
    (ei54 : PySem.W.kitOne K (.ref CU) (.ref CF) = some false)
    (ei61 : PySem.W.kitOne K (.ref CR) (.ref CE) = some false)
    (ei62 : PySem.W.kitOne K (.ref CR) (.ref CB) = some false)
    (ei63 : PySem.W.kitOne K (.ref CR) (.ref CD) = some false)
    (sb10 : PySem.W.subIn K (.ref CE) (.ref CN) = some false)
    (sb20 : PySem.W.subIn K (.ref CB) (.ref CN) = some false)
    (sb21 : PySem.W.subIn K (.ref CB) (.ref CE) = some false)
    (sb30 : PySem.W.subIn K (.ref CD) (.ref CN) = some false)
    (sb31 : PySem.W.subIn K (.ref CD) (.ref CE) = some false)
    (sb32 : PySem.W.subIn K (.ref CD) (.ref CB) = some false)
    (sb40 : PySem.W.subIn K (.ref CF) (.ref CN) = some false)
    (sb41 : PySem.W.subIn K (.ref CF) (.ref CE) = some false)
    (sb42 : PySem.W.subIn K (.ref CF) (.ref CB) = some false)
    (sb43 : PySem.W.subIn K (.ref CF) (.ref CD) = some false)
    (sb50 : PySem.W.subIn K (.ref CU) (.ref CN) = some false)
    (sb51 : PySem.W.subIn K (.ref CU) (.ref CE) = some false)
    (sb52 : PySem.W.subIn K (.ref CU) (.ref CB) = some false)
    (sb53 : PySem.W.subIn K (.ref CU) (.ref CD) = some false)
    (sb54 : PySem.W.subIn K (.ref CU) (.ref CF) = some false)
    (sb60 : PySem.W.subIn K (.ref CR) (.ref CN) = some false)
    (sb61 : PySem.W.subIn K (.ref CR) (.ref CE) = some false)
    (sb62 : PySem.W.subIn K (.ref CR) (.ref CB) = some false)
    (sb63 : PySem.W.subIn K (.ref CR) (.ref CD) = some false)
    (sb64 : PySem.W.subIn K (.ref CR) (.ref CF) = some false)
    (sb65 : PySem.W.subIn K (.ref CR) (.ref CU) = some false)
    (a0 : PySem.W.nsIn K mainGlobals "is_number" = some (some (.ref f0)))
    (l0 : K.lookup f0 = some ⟨oc0, od0, .func (PySem.W.fnOf "is_number" "is_number" (defArgs sis_number) (defBody sis_number) (defScope sis_number) .none kV0 dc0 pm0 an0 cd0 ct0), sl0⟩)
    (c0 : PySem.W.codeIn K cd0 "is_number" = true)
    (k0 : PySem.W.keepIn K (.ref f0) = true)
    (a1 : PySem.W.nsIn K mainGlobals "check_number" = some (some (.ref f1)))
    (l1 : K.lookup f1 = some ⟨oc1, od1, .func (PySem.W.fnOf "check_number" "check_number" (defArgs scheck_number) (defBody scheck_number) (defScope scheck_number) .none kV1 dc1 pm1 an1 cd1 ct1), sl1⟩)
    (c1 : PySem.W.codeIn K cd1 "check_number" = true)
    (k1 : PySem.W.keepIn K (.ref f1) = true)
    (a2 : PySem.W.nsIn K mainGlobals "check_open_number" = some (some (.ref f2)))
    (l2 : K.lookup f2 = some ⟨oc2, od2, .func (PySem.W.fnOf "check_open_number" "check_open_number" (defArgs scheck_open_number) (defBody scheck_open_number) (defScope scheck_open_number) .none kV2 dc2 pm2 an2 cd2 ct2), sl2⟩)
    (c2 : PySem.W.codeIn K cd2 "check_open_number" = true)
    (k2 : PySem.W.keepIn K (.ref f2) = true)
    (a3 : PySem.W.nsIn K mainGlobals "are_crossed" = some (some (.ref f3)))
    (l3 : K.lookup f3 = some ⟨oc3, od3, .func (PySem.W.fnOf "are_crossed" "are_crossed" (defArgs sare_crossed) (defBody sare_crossed) (defScope sare_crossed) .none kV3 dc3 pm3 an3 cd3 ct3), sl3⟩)
    (c3 : PySem.W.codeIn K cd3 "are_crossed" = true)
    (k3 : PySem.W.keepIn K (.ref f3) = true)
    (a4 : PySem.W.nsIn K mainGlobals "check_low_high" = some (some (.ref f4)))
    (l4 : K.lookup f4 = some ⟨oc4, od4, .func (PySem.W.fnOf "check_low_high" "check_low_high" (defArgs scheck_low_high) (defBody scheck_low_high) (defScope scheck_low_high) .none kV4 dc4 pm4 an4 cd4 ct4), sl4⟩)
    (c4 : PySem.W.codeIn K cd4 "check_low_high" = true)
    (k4 : PySem.W.keepIn K (.ref f4) = true)
    (gCS : PySem.W.nsIn K mainGlobals "Span" = some (some (.ref CS)))
    (pgCS : PySem.W.plainGet K CS Str.empty = true)
    (hdCS : PySem.W.hasDictIn K CS = true)
    (poCS : PySem.W.plainOver K CS = true)
    (saCS : PySem.W.findIn K (.ref CS) "__setattr__" = some (some (.builtin "object.__setattr__")))
    (naCS_low : PySem.W.findIn K (.ref CS) "low" = some none)
    (naCS_high : PySem.W.findIn K (.ref CS) "high" = some none)
    (haCS : PySem.W.findIn K (.ref CS) "__class__" = some (some (.builtin "object.__class__")))
    (hmCS : PySem.W.mroIn K CS (.type "object") = some true)
    (ksCS : PySem.W.kitOne K (.ref CS) (.ref CS) = some true)
    (mkCS : PySem.W.makesIn K CS = true)
    (kpCS : PySem.W.keepIn K (.ref CS) = true)
    (kCSint : PySem.W.kitOne K (.type "int") (.ref CS) = some false)
    (kCSstr : PySem.W.kitOne K (.type "str") (.ref CS) = some false)
    (kCStuple : PySem.W.kitOne K (.type "tuple") (.ref CS) = some false)
    (kCSNoneType : PySem.W.kitOne K (.type "NoneType") (.ref CS) = some false)
    (q5 : PySem.W.findIn K (.ref CS) "__init__" = some (some (.ref f5)))
    (l5 : K.lookup f5 = some ⟨oc5, od5, .func (PySem.W.fnOf "__init__" "Span.__init__" (defArgs sSpan___init__) (defBody sSpan___init__) (defScope sSpan___init__) (.ref T5) kV5 dc5 pm5 an5 cd5 ct5), sl5⟩)
    (c5 : PySem.W.codeIn K cd5 "Span.__init__" = true)
    (k5 : PySem.W.keepIn K (.ref f5) = true)
    (t5 : K.lookup T5 = some ⟨oT5, oD5, .seq ([.none, .none] : List Value).toArray nT5, tS5⟩)
    (n5 : PySem.W.isFn K (.ref f5) = true)
    (a6 : PySem.W.nsIn K mainGlobals "is_name" = some (some (.ref f6)))
    (l6 : K.lookup f6 = some ⟨oc6, od6, .func (PySem.W.fnOf "is_name" "is_name" (defArgs sis_name) (defBody sis_name) (defScope sis_name) .none kV6 dc6 pm6 an6 cd6 ct6), sl6⟩)
    (c6 : PySem.W.codeIn K cd6 "is_name" = true)
    (k6 : PySem.W.keepIn K (.ref f6) = true)
    (a7 : PySem.W.nsIn K mainGlobals "check_name" = some (some (.ref f7)))
    (l7 : K.lookup f7 = some ⟨oc7, od7, .func (PySem.W.fnOf "check_name" "check_name" (defArgs scheck_name) (defBody scheck_name) (defScope scheck_name) .none kV7 dc7 pm7 an7 cd7 ct7), sl7⟩)
    (c7 : PySem.W.codeIn K cd7 "check_name" = true)
    (k7 : PySem.W.keepIn K (.ref f7) = true)
    (a8 : PySem.W.nsIn K mainGlobals "check_unlike" = some (some (.ref f8)))
    (l8 : K.lookup f8 = some ⟨oc8, od8, .func (PySem.W.fnOf "check_unlike" "check_unlike" (defArgs scheck_unlike) (defBody scheck_unlike) (defScope scheck_unlike) .none kV8 dc8 pm8 an8 cd8 ct8), sl8⟩)
    (c8 : PySem.W.codeIn K cd8 "check_unlike" = true)
    (k8 : PySem.W.keepIn K (.ref f8) = true)
    (a9 : PySem.W.nsIn K mainGlobals "check_between" = some (some (.ref f9)))
    (l9 : K.lookup f9 = some ⟨oc9, od9, .func (PySem.W.fnOf "check_between" "check_between" (defArgs scheck_between) (defBody scheck_between) (defScope scheck_between) .none kV9 dc9 pm9 an9 cd9 ct9), sl9⟩)
    (c9 : PySem.W.codeIn K cd9 "check_between" = true)
    (k9 : PySem.W.keepIn K (.ref f9) = true)
    (a10 : PySem.W.nsIn K mainGlobals "look_up" = some (some (.ref f10)))
    (l10 : K.lookup f10 = some ⟨oc10, od10, .func (PySem.W.fnOf "look_up" "look_up" (defArgs slook_up) (defBody slook_up) (defScope slook_up) .none kV10 dc10 pm10 an10 cd10 ct10), sl10⟩)
    (c10 : PySem.W.codeIn K cd10 "look_up" = true)
    (k10 : PySem.W.keepIn K (.ref f10) = true)
    (a11 : PySem.W.nsIn K mainGlobals "check_row_numbers" = some (some (.ref f11)))
    (l11 : K.lookup f11 = some ⟨oc11, od11, .func (PySem.W.fnOf "check_row_numbers" "check_row_numbers" (defArgs scheck_row_numbers) (defBody scheck_row_numbers) (defScope scheck_row_numbers) .none kV11 dc11 pm11 an11 cd11 ct11), sl11⟩)
    (c11 : PySem.W.codeIn K cd11 "check_row_numbers" = true)
    (k11 : PySem.W.keepIn K (.ref f11) = true)
    (a12 : PySem.W.nsIn K mainGlobals "check_row_ends" = some (some (.ref f12)))
    (l12 : K.lookup f12 = some ⟨oc12, od12, .func (PySem.W.fnOf "check_row_ends" "check_row_ends" (defArgs scheck_row_ends) (defBody scheck_row_ends) (defScope scheck_row_ends) .none kV12 dc12 pm12 an12 cd12 ct12), sl12⟩)
    (c12 : PySem.W.codeIn K cd12 "check_row_ends" = true)
    (k12 : PySem.W.keepIn K (.ref f12) = true)
    (a13 : PySem.W.nsIn K mainGlobals "check_rows" = some (some (.ref f13)))
    (l13 : K.lookup f13 = some ⟨oc13, od13, .func (PySem.W.fnOf "check_rows" "check_rows" (defArgs scheck_rows) (defBody scheck_rows) (defScope scheck_rows) .none kV13 dc13 pm13 an13 cd13 ct13), sl13⟩)
    (c13 : PySem.W.codeIn K cd13 "check_rows" = true)
    (k13 : PySem.W.keepIn K (.ref f13) = true)
    (a14 : PySem.W.nsIn K mainGlobals "kept_bond_row" = some (some (.ref f14)))
    (l14 : K.lookup f14 = some ⟨oc14, od14, .func (PySem.W.fnOf "kept_bond_row" "kept_bond_row" (defArgs skept_bond_row) (defBody skept_bond_row) (defScope skept_bond_row) .none kV14 dc14 pm14 an14 cd14 ct14), sl14⟩)
    (c14 : PySem.W.codeIn K cd14 "kept_bond_row" = true)
    (k14 : PySem.W.keepIn K (.ref f14) = true)
    (gCW : PySem.W.nsIn K mainGlobals "Web" = some (some (.ref CW)))
    (pgCW : PySem.W.plainGet K CW Str.empty = true)
    (hdCW : PySem.W.hasDictIn K CW = true)
    (poCW : PySem.W.plainOver K CW = true)
    (saCW : PySem.W.findIn K (.ref CW) "__setattr__" = some (some (.builtin "object.__setattr__")))
    (naCW_ceilings : PySem.W.findIn K (.ref CW) "_ceilings" = some none)
    (naCW_bond_rows : PySem.W.findIn K (.ref CW) "_bond_rows" = some none)
    (naCW_ends : PySem.W.findIn K (.ref CW) "_ends" = some none)
    (naCW_spans : PySem.W.findIn K (.ref CW) "_spans" = some none)
    (haCW : PySem.W.findIn K (.ref CW) "__class__" = some (some (.builtin "object.__class__")))
    (hmCW : PySem.W.mroIn K CW (.type "object") = some true)
    (ksCW : PySem.W.kitOne K (.ref CW) (.ref CW) = some true)
    (mkCW : PySem.W.makesIn K CW = true)
    (kpCW : PySem.W.keepIn K (.ref CW) = true)
    (kCWint : PySem.W.kitOne K (.type "int") (.ref CW) = some false)
    (kCWstr : PySem.W.kitOne K (.type "str") (.ref CW) = some false)
    (kCWtuple : PySem.W.kitOne K (.type "tuple") (.ref CW) = some false)
    (kCWNoneType : PySem.W.kitOne K (.type "NoneType") (.ref CW) = some false)
    (q15 : PySem.W.findIn K (.ref CW) "__init__" = some (some (.ref f15)))
    (l15 : K.lookup f15 = some ⟨oc15, od15, .func (PySem.W.fnOf "__init__" "Web.__init__" (defArgs sWeb___init__) (defBody sWeb___init__) (defScope sWeb___init__) (.ref T15) kV15 dc15 pm15 an15 cd15 ct15), sl15⟩)
    (c15 : PySem.W.codeIn K cd15 "Web.__init__" = true)
    (k15 : PySem.W.keepIn K (.ref f15) = true)
    (t15 : K.lookup T15 = some ⟨oT15, oD15, .seq ([.ref te] : List Value).toArray nT15, tS15⟩)
    (n15 : PySem.W.isFn K (.ref f15) = true)
    (empt : K.lookup te = some ⟨.type "tuple", oDe, .seq #[] nTe, tSe⟩)
    (q16 : PySem.W.findIn K (.ref CW) "lamp_rows" = some (some (.ref pq16)))
    (r16 : PySem.W.recIn K pq16 "property" = some (.ref f16 :: pr16))
    (l16 : K.lookup f16 = some ⟨oc16, od16, .func (PySem.W.fnOf "lamp_rows" "Web.lamp_rows" (defArgs sWeb_lamp_rows) (defBody sWeb_lamp_rows) (defScope sWeb_lamp_rows) .none kV16 dc16 pm16 an16 cd16 ct16), sl16⟩)
    (c16 : PySem.W.codeIn K cd16 "Web.lamp_rows" = true)
    (k16 : PySem.W.keepIn K (.ref f16) = true)
    (g16 : PySem.W.specialIn K (.ref pq16) "__get__" = some (some (.builtin "property.__get__")))
    (t16 : PySem.W.takesIn K (.ref pq16) = some true)
    (q17 : PySem.W.findIn K (.ref CW) "bond_rows" = some (some (.ref pq17)))
    (r17 : PySem.W.recIn K pq17 "property" = some (.ref f17 :: pr17))
    (l17 : K.lookup f17 = some ⟨oc17, od17, .func (PySem.W.fnOf "bond_rows" "Web.bond_rows" (defArgs sWeb_bond_rows) (defBody sWeb_bond_rows) (defScope sWeb_bond_rows) .none kV17 dc17 pm17 an17 cd17 ct17), sl17⟩)
    (c17 : PySem.W.codeIn K cd17 "Web.bond_rows" = true)
    (k17 : PySem.W.keepIn K (.ref f17) = true)
    (g17 : PySem.W.specialIn K (.ref pq17) "__get__" = some (some (.builtin "property.__get__")))
    (t17 : PySem.W.takesIn K (.ref pq17) = some true)
    (q18 : PySem.W.findIn K (.ref CW) "ends" = some (some (.ref f18)))
    (l18 : K.lookup f18 = some ⟨oc18, od18, .func (PySem.W.fnOf "ends" "Web.ends" (defArgs sWeb_ends) (defBody sWeb_ends) (defScope sWeb_ends) .none kV18 dc18 pm18 an18 cd18 ct18), sl18⟩)
    (c18 : PySem.W.codeIn K cd18 "Web.ends" = true)
    (k18 : PySem.W.keepIn K (.ref f18) = true)
    (n18 : PySem.W.isFn K (.ref f18) = true)
    (q19 : PySem.W.findIn K (.ref CW) "other_bond_rows" = some (some (.ref f19)))
    (l19 : K.lookup f19 = some ⟨oc19, od19, .func (PySem.W.fnOf "other_bond_rows" "Web.other_bond_rows" (defArgs sWeb_other_bond_rows) (defBody sWeb_other_bond_rows) (defScope sWeb_other_bond_rows) .none kV19 dc19 pm19 an19 cd19 ct19), sl19⟩)
    (c19 : PySem.W.codeIn K cd19 "Web.other_bond_rows" = true)
    (k19 : PySem.W.keepIn K (.ref f19) = true)
    (n19 : PySem.W.isFn K (.ref f19) = true)
    (q20 : PySem.W.findIn K (.ref CW) "with_span" = some (some (.ref f20)))
    (l20 : K.lookup f20 = some ⟨oc20, od20, .func (PySem.W.fnOf "with_span" "Web.with_span" (defArgs sWeb_with_span) (defBody sWeb_with_span) (defScope sWeb_with_span) .none kV20 dc20 pm20 an20 cd20 ct20), sl20⟩)
    (c20 : PySem.W.codeIn K cd20 "Web.with_span" = true)
    (k20 : PySem.W.keepIn K (.ref f20) = true)
    (n20 : PySem.W.isFn K (.ref f20) = true)
    (q21 : PySem.W.findIn K (.ref CW) "with_bond" = some (some (.ref f21)))
    (l21 : K.lookup f21 = some ⟨oc21, od21, .func (PySem.W.fnOf "with_bond" "Web.with_bond" (defArgs sWeb_with_bond) (defBody sWeb_with_bond) (defScope sWeb_with_bond) .none (.ref D21) dc21 pm21 an21 cd21 ct21), sl21⟩)
    (c21 : PySem.W.codeIn K cd21 "Web.with_bond" = true)
    (k21 : PySem.W.keepIn K (.ref f21) = true)
    (w21_low : PySem.W.nsIn K D21 "low" = some (some .none))
    (w21_high : PySem.W.nsIn K D21 "high" = some (some .none))
    (n21 : PySem.W.isFn K (.ref f21) = true)
    (a22 : PySem.W.nsIn K mainGlobals "_law_store" = some (some (.ref f22)))
    (l22 : K.lookup f22 = some ⟨oc22, od22, .func (PySem.W.fnOf "_law_store" "_law_store" (defArgs s_law_store) (defBody s_law_store) (defScope s_law_store) .none kV22 dc22 pm22 an22 cd22 ct22), sl22⟩)
    (c22 : PySem.W.codeIn K cd22 "_law_store" = true)
    (k22 : PySem.W.keepIn K (.ref f22) = true)
    (a23 : PySem.W.nsIn K mainGlobals "_law_stir" = some (some (.ref f23)))
    (l23 : K.lookup f23 = some ⟨oc23, od23, .func (PySem.W.fnOf "_law_stir" "_law_stir" (defArgs s_law_stir) (defBody s_law_stir) (defScope s_law_stir) .none kV23 dc23 pm23 an23 cd23 ct23), sl23⟩)
    (c23 : PySem.W.codeIn K cd23 "_law_stir" = true)
    (k23 : PySem.W.keepIn K (.ref f23) = true)
    (a24 : PySem.W.nsIn K mainGlobals "_law_take" = some (some (.ref f24)))
    (l24 : K.lookup f24 = some ⟨oc24, od24, .func (PySem.W.fnOf "_law_take" "_law_take" (defArgs s_law_take) (defBody s_law_take) (defScope s_law_take) .none kV24 dc24 pm24 an24 cd24 ct24), sl24⟩)
    (c24 : PySem.W.codeIn K cd24 "_law_take" = true)
    (k24 : PySem.W.keepIn K (.ref f24) = true)
    (a25 : PySem.W.nsIn K mainGlobals "_law_pick" = some (some (.ref f25)))
    (l25 : K.lookup f25 = some ⟨oc25, od25, .func (PySem.W.fnOf "_law_pick" "_law_pick" (defArgs s_law_pick) (defBody s_law_pick) (defScope s_law_pick) .none kV25 dc25 pm25 an25 cd25 ct25), sl25⟩)
    (c25 : PySem.W.codeIn K cd25 "_law_pick" = true)
    (k25 : PySem.W.keepIn K (.ref f25) = true)
    (a26 : PySem.W.nsIn K mainGlobals "_law_shuffled" = some (some (.ref f26)))
    (l26 : K.lookup f26 = some ⟨oc26, od26, .func (PySem.W.fnOf "_law_shuffled" "_law_shuffled" (defArgs s_law_shuffled) (defBody s_law_shuffled) (defScope s_law_shuffled) .none kV26 dc26 pm26 an26 cd26 ct26), sl26⟩)
    (c26 : PySem.W.codeIn K cd26 "_law_shuffled" = true)
    (k26 : PySem.W.keepIn K (.ref f26) = true)
    (a27 : PySem.W.nsIn K mainGlobals "_law_name" = some (some (.ref f27)))
    (l27 : K.lookup f27 = some ⟨oc27, od27, .func (PySem.W.fnOf "_law_name" "_law_name" (defArgs s_law_name) (defBody s_law_name) (defScope s_law_name) .none kV27 dc27 pm27 an27 cd27 ct27), sl27⟩)
    (c27 : PySem.W.codeIn K cd27 "_law_name" = true)
    (k27 : PySem.W.keepIn K (.ref f27) = true)
    (a28 : PySem.W.nsIn K mainGlobals "_law_unused" = some (some (.ref f28)))
    (l28 : K.lookup f28 = some ⟨oc28, od28, .func (PySem.W.fnOf "_law_unused" "_law_unused" (defArgs s_law_unused) (defBody s_law_unused) (defScope s_law_unused) .none kV28 dc28 pm28 an28 cd28 ct28), sl28⟩)
    (c28 : PySem.W.codeIn K cd28 "_law_unused" = true)
    (k28 : PySem.W.keepIn K (.ref f28) = true)
    (a29 : PySem.W.nsIn K mainGlobals "_law_fresh_names" = some (some (.ref f29)))
    (l29 : K.lookup f29 = some ⟨oc29, od29, .func (PySem.W.fnOf "_law_fresh_names" "_law_fresh_names" (defArgs s_law_fresh_names) (defBody s_law_fresh_names) (defScope s_law_fresh_names) .none kV29 dc29 pm29 an29 cd29 ct29), sl29⟩)
    (c29 : PySem.W.codeIn K cd29 "_law_fresh_names" = true)
    (k29 : PySem.W.keepIn K (.ref f29) = true)
    (a30 : PySem.W.nsIn K mainGlobals "_law_names" = some (some (.ref f30)))
    (l30 : K.lookup f30 = some ⟨oc30, od30, .func (PySem.W.fnOf "_law_names" "_law_names" (defArgs s_law_names) (defBody s_law_names) (defScope s_law_names) .none kV30 dc30 pm30 an30 cd30 ct30), sl30⟩)
    (c30 : PySem.W.codeIn K cd30 "_law_names" = true)
    (k30 : PySem.W.keepIn K (.ref f30) = true)
    (a31 : PySem.W.nsIn K mainGlobals "_law_clamped" = some (some (.ref f31)))
    (l31 : K.lookup f31 = some ⟨oc31, od31, .func (PySem.W.fnOf "_law_clamped" "_law_clamped" (defArgs s_law_clamped) (defBody s_law_clamped) (defScope s_law_clamped) .none kV31 dc31 pm31 an31 cd31 ct31), sl31⟩)
    (c31 : PySem.W.codeIn K cd31 "_law_clamped" = true)
    (k31 : PySem.W.keepIn K (.ref f31) = true)
    (a32 : PySem.W.nsIn K mainGlobals "_law_near" = some (some (.ref f32)))
    (l32 : K.lookup f32 = some ⟨oc32, od32, .func (PySem.W.fnOf "_law_near" "_law_near" (defArgs s_law_near) (defBody s_law_near) (defScope s_law_near) .none kV32 dc32 pm32 an32 cd32 ct32), sl32⟩)
    (c32 : PySem.W.codeIn K cd32 "_law_near" = true)
    (k32 : PySem.W.keepIn K (.ref f32) = true)
    (a33 : PySem.W.nsIn K mainGlobals "_law_bar" = some (some (.ref f33)))
    (l33 : K.lookup f33 = some ⟨oc33, od33, .func (PySem.W.fnOf "_law_bar" "_law_bar" (defArgs s_law_bar) (defBody s_law_bar) (defScope s_law_bar) .none kV33 dc33 pm33 an33 cd33 ct33), sl33⟩)
    (c33 : PySem.W.codeIn K cd33 "_law_bar" = true)
    (k33 : PySem.W.keepIn K (.ref f33) = true)
    (a34 : PySem.W.nsIn K mainGlobals "_law_ends" = some (some (.ref f34)))
    (l34 : K.lookup f34 = some ⟨oc34, od34, .func (PySem.W.fnOf "_law_ends" "_law_ends" (defArgs s_law_ends) (defBody s_law_ends) (defScope s_law_ends) .none kV34 dc34 pm34 an34 cd34 ct34), sl34⟩)
    (c34 : PySem.W.codeIn K cd34 "_law_ends" = true)
    (k34 : PySem.W.keepIn K (.ref f34) = true)
    (a35 : PySem.W.nsIn K mainGlobals "_law_edges" = some (some (.ref f35)))
    (l35 : K.lookup f35 = some ⟨oc35, od35, .func (PySem.W.fnOf "_law_edges" "_law_edges" (defArgs s_law_edges) (defBody s_law_edges) (defScope s_law_edges) .none kV35 dc35 pm35 an35 cd35 ct35), sl35⟩)
    (c35 : PySem.W.codeIn K cd35 "_law_edges" = true)
    (k35 : PySem.W.keepIn K (.ref f35) = true)
    (a36 : PySem.W.nsIn K mainGlobals "_law_bad_name" = some (some (.ref f36)))
    (l36 : K.lookup f36 = some ⟨oc36, od36, .func (PySem.W.fnOf "_law_bad_name" "_law_bad_name" (defArgs s_law_bad_name) (defBody s_law_bad_name) (defScope s_law_bad_name) .none kV36 dc36 pm36 an36 cd36 ct36), sl36⟩)
    (c36 : PySem.W.codeIn K cd36 "_law_bad_name" = true)
    (k36 : PySem.W.keepIn K (.ref f36) = true)
    (a37 : PySem.W.nsIn K mainGlobals "_law_is_name" = some (some (.ref f37)))
    (l37 : K.lookup f37 = some ⟨oc37, od37, .func (PySem.W.fnOf "_law_is_name" "_law_is_name" (defArgs s_law_is_name) (defBody s_law_is_name) (defScope s_law_is_name) .none kV37 dc37 pm37 an37 cd37 ct37), sl37⟩)
    (c37 : PySem.W.codeIn K cd37 "_law_is_name" = true)
    (k37 : PySem.W.keepIn K (.ref f37) = true)
    (a38 : PySem.W.nsIn K mainGlobals "_law_bad_number" = some (some (.ref f38)))
    (l38 : K.lookup f38 = some ⟨oc38, od38, .func (PySem.W.fnOf "_law_bad_number" "_law_bad_number" (defArgs s_law_bad_number) (defBody s_law_bad_number) (defScope s_law_bad_number) .none kV38 dc38 pm38 an38 cd38 ct38), sl38⟩)
    (c38 : PySem.W.codeIn K cd38 "_law_bad_number" = true)
    (k38 : PySem.W.keepIn K (.ref f38) = true)
    (a39 : PySem.W.nsIn K mainGlobals "_law_is_number" = some (some (.ref f39)))
    (l39 : K.lookup f39 = some ⟨oc39, od39, .func (PySem.W.fnOf "_law_is_number" "_law_is_number" (defArgs s_law_is_number) (defBody s_law_is_number) (defScope s_law_is_number) .none kV39 dc39 pm39 an39 cd39 ct39), sl39⟩)
    (c39 : PySem.W.codeIn K cd39 "_law_is_number" = true)
    (k39 : PySem.W.keepIn K (.ref f39) = true)
    (a40 : PySem.W.nsIn K mainGlobals "_law_stranger" = some (some (.ref f40)))
    (l40 : K.lookup f40 = some ⟨oc40, od40, .func (PySem.W.fnOf "_law_stranger" "_law_stranger" (defArgs s_law_stranger) (defBody s_law_stranger) (defScope s_law_stranger) .none kV40 dc40 pm40 an40 cd40 ct40), sl40⟩)
    (c40 : PySem.W.codeIn K cd40 "_law_stranger" = true)
    (k40 : PySem.W.keepIn K (.ref f40) = true)
    (a41 : PySem.W.nsIn K mainGlobals "_law_first_double" = some (some (.ref f41)))
    (l41 : K.lookup f41 = some ⟨oc41, od41, .func (PySem.W.fnOf "_law_first_double" "_law_first_double" (defArgs s_law_first_double) (defBody s_law_first_double) (defScope s_law_first_double) .none kV41 dc41 pm41 an41 cd41 ct41), sl41⟩)
    (c41 : PySem.W.codeIn K cd41 "_law_first_double" = true)
    (k41 : PySem.W.keepIn K (.ref f41) = true)
    (a42 : PySem.W.nsIn K mainGlobals "_law_bent_edge" = some (some (.ref f42)))
    (l42 : K.lookup f42 = some ⟨oc42, od42, .func (PySem.W.fnOf "_law_bent_edge" "_law_bent_edge" (defArgs s_law_bent_edge) (defBody s_law_bent_edge) (defScope s_law_bent_edge) .none kV42 dc42 pm42 an42 cd42 ct42), sl42⟩)
    (c42 : PySem.W.codeIn K cd42 "_law_bent_edge" = true)
    (k42 : PySem.W.keepIn K (.ref f42) = true)
    (a43 : PySem.W.nsIn K mainGlobals "_law_bent_web" = some (some (.ref f43)))
    (l43 : K.lookup f43 = some ⟨oc43, od43, .func (PySem.W.fnOf "_law_bent_web" "_law_bent_web" (defArgs s_law_bent_web) (defBody s_law_bent_web) (defScope s_law_bent_web) .none kV43 dc43 pm43 an43 cd43 ct43), sl43⟩)
    (c43 : PySem.W.codeIn K cd43 "_law_bent_web" = true)
    (k43 : PySem.W.keepIn K (.ref f43) = true)
    (a44 : PySem.W.nsIn K mainGlobals "_law_web_due" = some (some (.ref f44)))
    (l44 : K.lookup f44 = some ⟨oc44, od44, .func (PySem.W.fnOf "_law_web_due" "_law_web_due" (defArgs s_law_web_due) (defBody s_law_web_due) (defScope s_law_web_due) .none kV44 dc44 pm44 an44 cd44 ct44), sl44⟩)
    (c44 : PySem.W.codeIn K cd44 "_law_web_due" = true)
    (k44 : PySem.W.keepIn K (.ref f44) = true)
    (a45 : PySem.W.nsIn K mainGlobals "_law_alike" = some (some (.ref f45)))
    (l45 : K.lookup f45 = some ⟨oc45, od45, .func (PySem.W.fnOf "_law_alike" "_law_alike" (defArgs s_law_alike) (defBody s_law_alike) (defScope s_law_alike) .none kV45 dc45 pm45 an45 cd45 ct45), sl45⟩)
    (c45 : PySem.W.codeIn K cd45 "_law_alike" = true)
    (k45 : PySem.W.keepIn K (.ref f45) = true)
    (a46 : PySem.W.nsIn K mainGlobals "_law_kept_rows" = some (some (.ref f46)))
    (l46 : K.lookup f46 = some ⟨oc46, od46, .func (PySem.W.fnOf "_law_kept_rows" "_law_kept_rows" (defArgs s_law_kept_rows) (defBody s_law_kept_rows) (defScope s_law_kept_rows) .none kV46 dc46 pm46 an46 cd46 ct46), sl46⟩)
    (c46 : PySem.W.codeIn K cd46 "_law_kept_rows" = true)
    (k46 : PySem.W.keepIn K (.ref f46) = true)
    (a47 : PySem.W.nsIn K mainGlobals "_law_asked" = some (some (.ref f47)))
    (l47 : K.lookup f47 = some ⟨oc47, od47, .func (PySem.W.fnOf "_law_asked" "_law_asked" (defArgs s_law_asked) (defBody s_law_asked) (defScope s_law_asked) .none kV47 dc47 pm47 an47 cd47 ct47), sl47⟩)
    (c47 : PySem.W.codeIn K cd47 "_law_asked" = true)
    (k47 : PySem.W.keepIn K (.ref f47) = true)
    (a48 : PySem.W.nsIn K mainGlobals "_law_holds" = some (some (.ref f48)))
    (l48 : K.lookup f48 = some ⟨oc48, od48, .func (PySem.W.fnOf "_law_holds" "_law_holds" (defArgs s_law_holds) (defBody s_law_holds) (defScope s_law_holds) .none kV48 dc48 pm48 an48 cd48 ct48), sl48⟩)
    (c48 : PySem.W.codeIn K cd48 "_law_holds" = true)
    (k48 : PySem.W.keepIn K (.ref f48) = true)
    (a49 : PySem.W.nsIn K mainGlobals "_law_rows" = some (some (.ref f49)))
    (l49 : K.lookup f49 = some ⟨oc49, od49, .func (PySem.W.fnOf "_law_rows" "_law_rows" (defArgs s_law_rows) (defBody s_law_rows) (defScope s_law_rows) .none kV49 dc49 pm49 an49 cd49 ct49), sl49⟩)
    (c49 : PySem.W.codeIn K cd49 "_law_rows" = true)
    (k49 : PySem.W.keepIn K (.ref f49) = true)
    (a50 : PySem.W.nsIn K mainGlobals "_law_one_more" = some (some (.ref f50)))
    (l50 : K.lookup f50 = some ⟨oc50, od50, .func (PySem.W.fnOf "_law_one_more" "_law_one_more" (defArgs s_law_one_more) (defBody s_law_one_more) (defScope s_law_one_more) .none kV50 dc50 pm50 an50 cd50 ct50), sl50⟩)
    (c50 : PySem.W.codeIn K cd50 "_law_one_more" = true)
    (k50 : PySem.W.keepIn K (.ref f50) = true)
    (a51 : PySem.W.nsIn K mainGlobals "law" = some (some (.ref f51)))
    (l51 : K.lookup f51 = some ⟨oc51, od51, .func (PySem.W.fnOf "law" "law" (defArgs slaw) (defBody slaw) (defScope slaw) .none kV51 dc51 pm51 an51 cd51 ct51), sl51⟩)
    (c51 : PySem.W.codeIn K cd51 "law" = true)
    (k51 : PySem.W.keepIn K (.ref f51) = true)
    (z_ValueError : PySem.W.nsIn K mainGlobals "ValueError" = some none)
    (z_all : PySem.W.nsIn K mainGlobals "all" = some none)
    (z_bool : PySem.W.nsIn K mainGlobals "bool" = some none)
    (z_dict : PySem.W.nsIn K mainGlobals "dict" = some none)
    (z_int : PySem.W.nsIn K mainGlobals "int" = some none)
    (z_isinstance : PySem.W.nsIn K mainGlobals "isinstance" = some none)
    (z_iter : PySem.W.nsIn K mainGlobals "iter" = some none)
    (z_len : PySem.W.nsIn K mainGlobals "len" = some none)
    (z_list : PySem.W.nsIn K mainGlobals "list" = some none)
    (z_max : PySem.W.nsIn K mainGlobals "max" = some none)
    (z_min : PySem.W.nsIn K mainGlobals "min" = some none)
    (z_range : PySem.W.nsIn K mainGlobals "range" = some none)
    (z_set : PySem.W.nsIn K mainGlobals "set" = some none)
    (z_sorted : PySem.W.nsIn K mainGlobals "sorted" = some none)
    (z_str : PySem.W.nsIn K mainGlobals "str" = some none)
    (z_tuple : PySem.W.nsIn K mainGlobals "tuple" = some none)
    (zc_LIMIT : ∃ t, PySem.W.nsIn K mainGlobals "LIMIT" = some (some (.int 1000000000000 t)))
    (zc_LETTERS : ∃ t, PySem.W.nsIn K mainGlobals "LETTERS" = some (some (.str "abcdefghijklmnopqrstuvwxyz" t)))
    (zc_LETTERS_AND_DIGITS : ∃ t, PySem.W.nsIn K mainGlobals "LETTERS_AND_DIGITS" = some (some (.str "abcdefghijklmnopqrstuvwxyz0123456789" t)))
    (zc_LONGEST_NAME : ∃ t, PySem.W.nsIn K mainGlobals "LONGEST_NAME" = some (some (.int 8 t)))
    (zc_MOST_LAMPS : ∃ t, PySem.W.nsIn K mainGlobals "MOST_LAMPS" = some (some (.int 10 t)))
    (zc_MOST_BONDS : ∃ t, PySem.W.nsIn K mainGlobals "MOST_BONDS" = some (some (.int 16 t)))
    : ∃ fd : FuncData, (∀ (s : Shared) (v : Value), BindsTo s fd ⟨[v], []⟩ [("script", v)]) ∧ ∀ base : Heap, K.In base → base.Ns mainGlobals mg → FnOk l.prog w K mg base CX0 12 fa fd ["script"] (spLaw K) := by
  have e := hfa.symm.trans (PySem.W.mg_of X G a51)
  cases e
  have T : Blt mg := { ValueError := PySem.W.mg_none_of X G z_ValueError, all := PySem.W.mg_none_of X G z_all, bool := PySem.W.mg_none_of X G z_bool, dict := PySem.W.mg_none_of X G z_dict, int := PySem.W.mg_none_of X G z_int, isinstance := PySem.W.mg_none_of X G z_isinstance, iter := PySem.W.mg_none_of X G z_iter, len := PySem.W.mg_none_of X G z_len, list' := PySem.W.mg_none_of X G z_list, max := PySem.W.mg_none_of X G z_max, min := PySem.W.mg_none_of X G z_min, range := PySem.W.mg_none_of X G z_range, set := PySem.W.mg_none_of X G z_set, sorted := PySem.W.mg_none_of X G z_sorted, str := PySem.W.mg_none_of X G z_str, tuple := PySem.W.mg_none_of X G z_tuple, g_LIMIT := by obtain ⟨t, e⟩ := zc_LIMIT; exact ⟨t, PySem.W.mg_of X G e⟩, g_LETTERS := by obtain ⟨t, e⟩ := zc_LETTERS; exact ⟨t, PySem.W.mg_of X G e⟩, g_LETTERS_AND_DIGITS := by obtain ⟨t, e⟩ := zc_LETTERS_AND_DIGITS; exact ⟨t, PySem.W.mg_of X G e⟩, g_LONGEST_NAME := by obtain ⟨t, e⟩ := zc_LONGEST_NAME; exact ⟨t, PySem.W.mg_of X G e⟩, g_MOST_LAMPS := by obtain ⟨t, e⟩ := zc_MOST_LAMPS; exact ⟨t, PySem.W.mg_of X G e⟩, g_MOST_BONDS := by obtain ⟨t, e⟩ := zc_MOST_BONDS; exact ⟨t, PySem.W.mg_of X G e⟩ }
  have oxCN : OexC K CN := ⟨⟨nmCN, qCN, NCN, bsCN, bmCN, snCN, subCN, abCN, colCN, ddCN, m0CN, m1CN, m2CN, m3CN, m5CN, xCN, rCN⟩, saCN, exCN, tyCN, kpCN⟩
  have E_BadName : ErrC K mg "BadName" CN := ⟨PySem.W.mg_of X G gCN, oxCN, ⟨gaCN, ggCN, exCN, hdCN⟩, ⟨gaCN, ggCN, exCN, hdCN, haCN, hnCN, htCN, hmCN⟩, PySem.W.exm_ref exCN hdCN tyCN suCN⟩
  have FICN := fun_mk (st := sBadName___init__) lCN cCN kCN
  have bICN := FICN.binds (ps := ["self", "name"]) fun _ _ _ _ _ _ us hl => match us, hl with | [_, _], _ => rfl
  have N_BadName_name := nfCNname
  have oxCE : OexC K CE := ⟨⟨nmCE, qCE, NCE, bsCE, bmCE, snCE, subCE, abCE, colCE, ddCE, m0CE, m1CE, m2CE, m3CE, m5CE, xCE, rCE⟩, saCE, exCE, tyCE, kpCE⟩
  have E_BadNumber : ErrC K mg "BadNumber" CE := ⟨PySem.W.mg_of X G gCE, oxCE, ⟨gaCE, ggCE, exCE, hdCE⟩, ⟨gaCE, ggCE, exCE, hdCE, haCE, hnCE, htCE, hmCE⟩, PySem.W.exm_ref exCE hdCE tyCE suCE⟩
  have FICE := fun_mk (st := sBadNumber___init__) lCE cCE kCE
  have bICE := FICE.binds (ps := ["self", "number"]) fun _ _ _ _ _ _ us hl => match us, hl with | [_, _], _ => rfl
  have N_BadNumber_number := nfCEnumber
  have oxCB : OexC K CB := ⟨⟨nmCB, qCB, NCB, bsCB, bmCB, snCB, subCB, abCB, colCB, ddCB, m0CB, m1CB, m2CB, m3CB, m5CB, xCB, rCB⟩, saCB, exCB, tyCB, kpCB⟩
  have E_BadSpan : ErrC K mg "BadSpan" CB := ⟨PySem.W.mg_of X G gCB, oxCB, ⟨gaCB, ggCB, exCB, hdCB⟩, ⟨gaCB, ggCB, exCB, hdCB, haCB, hnCB, htCB, hmCB⟩, PySem.W.exm_ref exCB hdCB tyCB suCB⟩
  have FICB := fun_mk (st := sBadSpan___init__) lCB cCB kCB
  have bICB := FICB.binds (ps := ["self", "low", "high"]) fun _ _ _ _ _ _ us hl => match us, hl with | [_, _, _], _ => rfl
  have N_BadSpan_low := nfCBlow
  have N_BadSpan_high := nfCBhigh
  have oxCD : OexC K CD := ⟨⟨nmCD, qCD, NCD, bsCD, bmCD, snCD, subCD, abCD, colCD, ddCD, m0CD, m1CD, m2CD, m3CD, m5CD, xCD, rCD⟩, saCD, exCD, tyCD, kpCD⟩
  have E_Doubled : ErrC K mg "Doubled" CD := ⟨PySem.W.mg_of X G gCD, oxCD, ⟨gaCD, ggCD, exCD, hdCD⟩, ⟨gaCD, ggCD, exCD, hdCD, haCD, hnCD, htCD, hmCD⟩, PySem.W.exm_ref exCD hdCD tyCD suCD⟩
  have FICD := fun_mk (st := sDoubled___init__) lCD cCD kCD
  have bICD := FICD.binds (ps := ["self", "name"]) fun _ _ _ _ _ _ us hl => match us, hl with | [_, _], _ => rfl
  have N_Doubled_name := nfCDname
  have oxCF : OexC K CF := ⟨⟨nmCF, qCF, NCF, bsCF, bmCF, snCF, subCF, abCF, colCF, ddCF, m0CF, m1CF, m2CF, m3CF, m5CF, xCF, rCF⟩, saCF, exCF, tyCF, kpCF⟩
  have E_SelfBond : ErrC K mg "SelfBond" CF := ⟨PySem.W.mg_of X G gCF, oxCF, ⟨gaCF, ggCF, exCF, hdCF⟩, ⟨gaCF, ggCF, exCF, hdCF, haCF, hnCF, htCF, hmCF⟩, PySem.W.exm_ref exCF hdCF tyCF suCF⟩
  have FICF := fun_mk (st := sSelfBond___init__) lCF cCF kCF
  have bICF := FICF.binds (ps := ["self", "bond"]) fun _ _ _ _ _ _ us hl => match us, hl with | [_, _], _ => rfl
  have N_SelfBond_bond := nfCFbond
  have oxCU : OexC K CU := ⟨⟨nmCU, qCU, NCU, bsCU, bmCU, snCU, subCU, abCU, colCU, ddCU, m0CU, m1CU, m2CU, m3CU, m5CU, xCU, rCU⟩, saCU, exCU, tyCU, kpCU⟩
  have E_Unknown : ErrC K mg "Unknown" CU := ⟨PySem.W.mg_of X G gCU, oxCU, ⟨gaCU, ggCU, exCU, hdCU⟩, ⟨gaCU, ggCU, exCU, hdCU, haCU, hnCU, htCU, hmCU⟩, PySem.W.exm_ref exCU hdCU tyCU suCU⟩
  have FICU := fun_mk (st := sUnknown___init__) lCU cCU kCU
  have bICU := FICU.binds (ps := ["self", "name"]) fun _ _ _ _ _ _ us hl => match us, hl with | [_, _], _ => rfl
  have N_Unknown_name := nfCUname
  have oxCR : OexC K CR := ⟨⟨nmCR, qCR, NCR, bsCR, bmCR, snCR, subCR, abCR, colCR, ddCR, m0CR, m1CR, m2CR, m3CR, m5CR, xCR, rCR⟩, saCR, exCR, tyCR, kpCR⟩
  have E_OutOfRange : ErrC K mg "OutOfRange" CR := ⟨PySem.W.mg_of X G gCR, oxCR, ⟨gaCR, ggCR, exCR, hdCR⟩, ⟨gaCR, ggCR, exCR, hdCR, haCR, hnCR, htCR, hmCR⟩, PySem.W.exm_ref exCR hdCR tyCR suCR⟩
  have FICR := fun_mk (st := sOutOfRange___init__) lCR cCR kCR
  have bICR := FICR.binds (ps := ["self", "number", "low", "high"]) fun _ _ _ _ _ _ us hl => match us, hl with | [_, _, _, _], _ => rfl
  have N_OutOfRange_number := nfCRnumber
  have N_OutOfRange_low := nfCRlow
  have N_OutOfRange_high := nfCRhigh
  have G_OutshinerError := PySem.W.mg_of X G gcO
  have TE : Errs7 K mg (⟨CN, CE, CB, CD, CF, CU, CR⟩ : ECs) cO := ⟨G_OutshinerError, PySem.W.mg_of X G gCN, PySem.W.mg_of X G gCE, PySem.W.mg_of X G gCB, PySem.W.mg_of X G gCD, PySem.W.mg_of X G gCF, PySem.W.mg_of X G gCU, PySem.W.mg_of X G gCR, eo0, eo1, eo2, eo3, eo4, eo5, eo6, ei01, ei03, ei05, ei12, ei16, ei26, ei21, ei30, ei34, ei35, ei43, ei40, ei45, ei50, ei53, ei54, ei61, ei62, ei63, PySem.W.exm_ref exCN hdCN tyCN sb10, PySem.W.exm_ref exCN hdCN tyCN sb20, PySem.W.exm_ref exCE hdCE tyCE sb21, PySem.W.exm_ref exCN hdCN tyCN sb30, PySem.W.exm_ref exCE hdCE tyCE sb31, PySem.W.exm_ref exCB hdCB tyCB sb32, PySem.W.exm_ref exCN hdCN tyCN sb40, PySem.W.exm_ref exCE hdCE tyCE sb41, PySem.W.exm_ref exCB hdCB tyCB sb42, PySem.W.exm_ref exCD hdCD tyCD sb43, PySem.W.exm_ref exCN hdCN tyCN sb50, PySem.W.exm_ref exCE hdCE tyCE sb51, PySem.W.exm_ref exCB hdCB tyCB sb52, PySem.W.exm_ref exCD hdCD tyCD sb53, PySem.W.exm_ref exCF hdCF tyCF sb54, PySem.W.exm_ref exCN hdCN tyCN sb60, PySem.W.exm_ref exCE hdCE tyCE sb61, PySem.W.exm_ref exCB hdCB tyCB sb62, PySem.W.exm_ref exCD hdCD tyCD sb63, PySem.W.exm_ref exCF hdCF tyCF sb64, PySem.W.exm_ref exCU hdCU tyCU sb65⟩
  have F0 := fun_mk (st := sis_number) l0 c0 k0
  have b0 := F0.binds (ps := ["value"]) fun _ _ _ _ _ _ us hl => match us, hl with | [_], _ => rfl
  have F1 := fun_mk (st := scheck_number) l1 c1 k1
  have b1 := F1.binds (ps := ["value"]) fun _ _ _ _ _ _ us hl => match us, hl with | [_], _ => rfl
  have F2 := fun_mk (st := scheck_open_number) l2 c2 k2
  have b2 := F2.binds (ps := ["value"]) fun _ _ _ _ _ _ us hl => match us, hl with | [_], _ => rfl
  have F3 := fun_mk (st := sare_crossed) l3 c3 k3
  have b3 := F3.binds (ps := ["low", "high"]) fun _ _ _ _ _ _ us hl => match us, hl with | [_, _], _ => rfl
  have F4 := fun_mk (st := scheck_low_high) l4 c4 k4
  have b4 := F4.binds (ps := ["low", "high"]) fun _ _ _ _ _ _ us hl => match us, hl with | [_, _], _ => rfl
  have G_Span := PySem.W.mg_of X G gCS
  have cl_Span : Cls K CS := ⟨pgCS, hdCS, poCS, saCS⟩
  have SS : SpC K CS := ⟨cl_Span, naCS_low, naCS_high⟩
  have SIS : SpI K CS := ⟨cl_Span, haCS, hnCE, htCE, hmCS, ksCS, kCSint, kCSstr, kCStuple, kCSNoneType⟩
  have MKCS : Mk K CS f5 := ⟨mkCS, q5, n5, kpCS⟩
  have F5 := fund_mk (st := sSpan___init__) (dvs := [.non, .non]) (by simp) l5 c5 k5 t5 (.cons rfl (.cons rfl .nil))
  let cE : ECs := ⟨CN, CE, CB, CD, CF, CU, CR⟩
  have F6 := fun_mk (st := sis_name) l6 c6 k6
  have b6 := F6.binds (ps := ["text"]) fun _ _ _ _ _ _ us hl => match us, hl with | [_], _ => rfl
  have F7 := fun_mk (st := scheck_name) l7 c7 k7
  have b7 := F7.binds (ps := ["text"]) fun _ _ _ _ _ _ us hl => match us, hl with | [_], _ => rfl
  have F8 := fun_mk (st := scheck_unlike) l8 c8 k8
  have b8 := F8.binds (ps := ["items"]) fun _ _ _ _ _ _ us hl => match us, hl with | [_], _ => rfl
  have F9 := fun_mk (st := scheck_between) l9 c9 k9
  have b9 := F9.binds (ps := ["number", "low", "high"]) fun _ _ _ _ _ _ us hl => match us, hl with | [_, _, _], _ => rfl
  have F10 := fun_mk (st := slook_up) l10 c10 k10
  have b10 := F10.binds (ps := ["table", "name"]) fun _ _ _ _ _ _ us hl => match us, hl with | [_, _], _ => rfl
  have F11 := fun_mk (st := scheck_row_numbers) l11 c11 k11
  have b11 := F11.binds (ps := ["lamps", "bonds"]) fun _ _ _ _ _ _ us hl => match us, hl with | [_, _], _ => rfl
  have F12 := fun_mk (st := scheck_row_ends) l12 c12 k12
  have b12 := F12.binds (ps := ["lamp_names", "bonds"]) fun _ _ _ _ _ _ us hl => match us, hl with | [_, _], _ => rfl
  have F13 := fun_mk (st := scheck_rows) l13 c13 k13
  have b13 := F13.binds (ps := ["lamps", "bonds"]) fun _ _ _ _ _ _ us hl => match us, hl with | [_, _], _ => rfl
  have F14 := fun_mk (st := skept_bond_row) l14 c14 k14
  have b14 := F14.binds (ps := ["row"]) fun _ _ _ _ _ _ us hl => match us, hl with | [_], _ => rfl
  have G_Web := PySem.W.mg_of X G gCW
  have cl_Web : Cls K CW := ⟨pgCW, hdCW, poCW, saCW⟩
  have SW : SpW K CW := ⟨cl_Web, naCW_ceilings, naCW_bond_rows, naCW_ends, naCW_spans⟩
  have SIW : SpI K CW := ⟨cl_Web, haCW, hnCE, htCE, hmCW, ksCW, kCWint, kCWstr, kCWtuple, kCWNoneType⟩
  have MKCW : Mk K CW f15 := ⟨mkCW, q15, n15, kpCW⟩
  have F15 := fund_mk (st := sWeb___init__) (dvs := [.ref te]) (by simp) l15 c15 k15 t15 (.cons rfl .nil)
  have em : EmpK K te := ⟨_, _, empt, rfl, rfl⟩
  have F16 := fun_mk (st := sWeb_lamp_rows) l16 c16 k16
  have b16 := F16.binds (ps := ["self"]) fun _ _ _ _ _ _ us hl => match us, hl with | [_], _ => rfl
  have F17 := fun_mk (st := sWeb_bond_rows) l17 c17 k17
  have b17 := F17.binds (ps := ["self"]) fun _ _ _ _ _ _ us hl => match us, hl with | [_], _ => rfl
  have F18 := fun_mk (st := sWeb_ends) l18 c18 k18
  have b18 := F18.binds (ps := ["self", "bond"]) fun _ _ _ _ _ _ us hl => match us, hl with | [_, _], _ => rfl
  have M18 : Meth K CW "ends" f18 := ⟨q18, n18, k18⟩
  have F19 := fun_mk (st := sWeb_other_bond_rows) l19 c19 k19
  have b19 := F19.binds (ps := ["self", "bond"]) fun _ _ _ _ _ _ us hl => match us, hl with | [_, _], _ => rfl
  have M19 : Meth K CW "other_bond_rows" f19 := ⟨q19, n19, k19⟩
  have F20 := fun_mk (st := sWeb_with_span) l20 c20 k20
  have b20 := F20.binds (ps := ["self", "bond", "low", "high"]) fun _ _ _ _ _ _ us hl => match us, hl with | [_, _, _, _], _ => rfl
  have M20 : Meth K CW "with_span" f20 := ⟨q20, n20, k20⟩
  have F21 := fund_kw (st := sWeb_with_bond) (kws := [("low", .non), ("high", .non)]) (by simp) l21 c21 k21 (by intro q hq; simp at hq; rcases hq with rfl | rfl <;> first | exact ⟨_, w21_low, rfl⟩ | exact ⟨_, w21_high, rfl⟩)
  have M21 : Meth K CW "with_bond" f21 := ⟨q21, n21, k21⟩
  have F22 := fun_mk (st := s_law_store) l22 c22 k22
  have b22 := F22.binds (ps := ["script"]) fun _ _ _ _ _ _ us hl => match us, hl with | [_], _ => rfl
  have F23 := fun_mk (st := s_law_stir) l23 c23 k23
  have b23 := F23.binds (ps := ["store", "cell"]) fun _ _ _ _ _ _ us hl => match us, hl with | [_, _], _ => rfl
  have F24 := fun_mk (st := s_law_take) l24 c24 k24
  have b24 := F24.binds (ps := ["store", "many"]) fun _ _ _ _ _ _ us hl => match us, hl with | [_, _], _ => rfl
  have F25 := fun_mk (st := s_law_pick) l25 c25 k25
  have b25 := F25.binds (ps := ["store", "items"]) fun _ _ _ _ _ _ us hl => match us, hl with | [_, _], _ => rfl
  have F26 := fun_mk (st := s_law_shuffled) l26 c26 k26
  have b26 := F26.binds (ps := ["store", "items"]) fun _ _ _ _ _ _ us hl => match us, hl with | [_, _], _ => rfl
  have F27 := fun_mk (st := s_law_name) l27 c27 k27
  have b27 := F27.binds (ps := ["store"]) fun _ _ _ _ _ _ us hl => match us, hl with | [_], _ => rfl
  have F28 := fun_mk (st := s_law_unused) l28 c28 k28
  have b28 := F28.binds (ps := ["used"]) fun _ _ _ _ _ _ us hl => match us, hl with | [_], _ => rfl
  have F29 := fun_mk (st := s_law_fresh_names) l29 c29 k29
  have b29 := F29.binds (ps := ["store", "many", "used"]) fun _ _ _ _ _ _ us hl => match us, hl with | [_, _, _], _ => rfl
  have F30 := fun_mk (st := s_law_names) l30 c30 k30
  have b30 := F30.binds (ps := ["store", "many"]) fun _ _ _ _ _ _ us hl => match us, hl with | [_, _], _ => rfl
  have F31 := fun_mk (st := s_law_clamped) l31 c31 k31
  have b31 := F31.binds (ps := ["number"]) fun _ _ _ _ _ _ us hl => match us, hl with | [_], _ => rfl
  have F32 := fun_mk (st := s_law_near) l32 c32 k32
  have b32 := F32.binds (ps := ["store", "pool"]) fun _ _ _ _ _ _ us hl => match us, hl with | [_, _], _ => rfl
  have F33 := fun_mk (st := s_law_bar) l33 c33 k33
  have b33 := F33.binds (ps := ["store", "pool"]) fun _ _ _ _ _ _ us hl => match us, hl with | [_, _], _ => rfl
  have F34 := fun_mk (st := s_law_ends) l34 c34 k34
  have b34 := F34.binds (ps := ["store", "pool"]) fun _ _ _ _ _ _ us hl => match us, hl with | [_, _], _ => rfl
  have F35 := fun_mk (st := s_law_edges) l35 c35 k35
  have b35 := F35.binds (ps := ["store", "posts", "labels", "pool"]) fun _ _ _ _ _ _ us hl => match us, hl with | [_, _, _, _], _ => rfl
  have F36 := fun_mk (st := s_law_bad_name) l36 c36 k36
  have b36 := F36.binds (ps := ["store"]) fun _ _ _ _ _ _ us hl => match us, hl with | [_], _ => rfl
  have F37 := fun_mk (st := s_law_is_name) l37 c37 k37
  have b37 := F37.binds (ps := ["text"]) fun _ _ _ _ _ _ us hl => match us, hl with | [_], _ => rfl
  have F38 := fun_mk (st := s_law_bad_number) l38 c38 k38
  have b38 := F38.binds (ps := ["store", "keyed"]) fun _ _ _ _ _ _ us hl => match us, hl with | [_, _], _ => rfl
  have F39 := fun_mk (st := s_law_is_number) l39 c39 k39
  have b39 := F39.binds (ps := ["value"]) fun _ _ _ _ _ _ us hl => match us, hl with | [_], _ => rfl
  have F40 := fun_mk (st := s_law_stranger) l40 c40 k40
  have b40 := F40.binds (ps := ["store", "used"]) fun _ _ _ _ _ _ us hl => match us, hl with | [_, _], _ => rfl
  have F41 := fun_mk (st := s_law_first_double) l41 c41 k41
  have b41 := F41.binds (ps := ["items"]) fun _ _ _ _ _ _ us hl => match us, hl with | [_], _ => rfl
  have F42 := fun_mk (st := s_law_bent_edge) l42 c42 k42
  have b42 := F42.binds (ps := ["store", "edges", "spot", "pool", "kind"]) fun _ _ _ _ _ _ us hl => match us, hl with | [_, _, _, _, _], _ => rfl
  have F43 := fun_mk (st := s_law_bent_web) l43 c43 k43
  have b43 := F43.binds (ps := ["store", "nodes", "edges", "pool"]) fun _ _ _ _ _ _ us hl => match us, hl with | [_, _, _, _], _ => rfl
  have F44 := fun_mk (st := s_law_web_due) l44 c44 k44
  have b44 := F44.binds (ps := ["nodes", "edges"]) fun _ _ _ _ _ _ us hl => match us, hl with | [_, _], _ => rfl
  have F45 := fun_mk (st := s_law_alike) l45 c45 k45
  have b45 := F45.binds (ps := ["left", "right"]) fun _ _ _ _ _ _ us hl => match us, hl with | [_, _], _ => rfl
  have F46 := fun_mk (st := s_law_kept_rows) l46 c46 k46
  have b46 := F46.binds (ps := ["plan"]) fun _ _ _ _ _ _ us hl => match us, hl with | [_], _ => rfl
  have F47 := fun_mk (st := s_law_asked) l47 c47 k47
  have b47 := F47.binds (ps := ["k", "nodes", "edges"]) fun _ _ _ _ _ _ us hl => match us, hl with | [_, _, _], _ => rfl
  have F48 := fun_mk (st := s_law_holds) l48 c48 k48
  have b48 := F48.binds (ps := ["k", "nodes", "edges"]) fun _ _ _ _ _ _ us hl => match us, hl with | [_, _, _], _ => rfl
  have F49 := fun_mk (st := s_law_rows) l49 c49 k49
  have b49 := F49.binds (ps := ["store"]) fun _ _ _ _ _ _ us hl => match us, hl with | [_], _ => rfl
  have F50 := fun_mk (st := s_law_one_more) l50 c50 k50
  have b50 := F50.binds (ps := ["store", "plan"]) fun _ _ _ _ _ _ us hl => match us, hl with | [_, _], _ => rfl
  have F51 := fun_mk (st := slaw) l51 c51 k51
  have b51 := F51.binds (ps := ["script"]) fun _ _ _ _ _ _ us hl => match us, hl with | [_], _ => rfl
  refine ⟨PySem.W.fnOf "law" "law" (defArgs slaw) (defBody slaw) (defScope slaw) .none kV51 dc51 pm51 an51 cd51 ct51, fun s v => .of_eq rfl, fun base _ _ => ?_⟩
  have I_BadName : HasI l.prog w K mg base CN 1 ["self", "name"] (spInit1 K "name") := ⟨fCN, _, ok_BadName_init FICN, iCN, tiCN, bICN⟩
  have I_BadNumber : HasI l.prog w K mg base CE 1 ["self", "number"] (spInit1 K "number") := ⟨fCE, _, ok_BadNumber_init FICE, iCE, tiCE, bICE⟩
  have I_BadSpan : HasI l.prog w K mg base CB 1 ["self", "low", "high"] (spInit2 K "low" "high") := ⟨fCB, _, ok_BadSpan_init FICB, iCB, tiCB, bICB⟩
  have I_Doubled : HasI l.prog w K mg base CD 1 ["self", "name"] (spInit1 K "name") := ⟨fCD, _, ok_Doubled_init FICD, iCD, tiCD, bICD⟩
  have I_SelfBond : HasI l.prog w K mg base CF 1 ["self", "bond"] (spInit1 K "bond") := ⟨fCF, _, ok_SelfBond_init FICF, iCF, tiCF, bICF⟩
  have I_Unknown : HasI l.prog w K mg base CU 1 ["self", "name"] (spInit1 K "name") := ⟨fCU, _, ok_Unknown_init FICU, iCU, tiCU, bICU⟩
  have I_OutOfRange : HasI l.prog w K mg base CR 1 ["self", "number", "low", "high"] (spInit3 K "number" "low" "high") := ⟨fCR, _, ok_OutOfRange_init FICR, iCR, tiCR, bICR⟩
  have Hp_is_number : Has l.prog w K mg base "is_number" 2 ["value"] (spIsNum) := ⟨f0, _, ok_p_is_number (k := 1) F0 T, PySem.W.mg_of X G a0, k0, b0⟩
  have Hcheck_number : HasX l.prog w K mg base "check_number" 3 ["value"] (spCheck CE) := ⟨f1, _, ok_check_number (k := 2) F1 T E_BadNumber I_BadNumber N_BadNumber_number (Hp_is_number.mono (by decide)) (by decide), PySem.W.mg_of X G a1, k1, b1⟩
  have Hcheck_open_number : HasX l.prog w K mg base "check_open_number" 4 ["value"] (spCheckO CE) := ⟨f2, _, ok_check_open_number (k := 3) F2 T (Hcheck_number.mono (by decide)), PySem.W.mg_of X G a2, k2, b2⟩
  have Hare_crossed : Has l.prog w K mg base "are_crossed" 2 ["low", "high"] (spCrossed) := ⟨f3, _, ok_are_crossed (k := 1) F3 T, PySem.W.mg_of X G a3, k3, b3⟩
  have Hcheck_low_high : HasX l.prog w K mg base "check_low_high" 3 ["low", "high"] (spLowHigh CB) := ⟨f4, _, ok_check_low_high (k := 2) F4 T E_BadSpan I_BadSpan N_BadSpan_low N_BadSpan_high (Hare_crossed.mono (by decide)) (by decide), PySem.W.mg_of X G a4, k4, b4⟩
  have O5 := ok_span_init (k := 4) (P := l.prog) (w := w) (base := base) F5 T SS (Hcheck_open_number.mono (by decide)) (Hcheck_low_high.mono (by decide))
  have HM_Span_2 : HasMk l.prog w K mg base (L2.CX l.prog w) CS "Span" 5 ["self", "low", "high"] [] (spSpanI CS CE CB) := by
    obtain ⟨ds, hd, hb⟩ := F5.binds1 (ps := ["self", "low", "high"]) 3 2 (by simp) rfl (fun T kV doc pm an cdv ct us its l1 l2 => match us, l1, its, l2 with | [_, _, _], _, [_, _], _ => ⟨_, rfl, rfl⟩)
    exact ⟨f5, _, ds, O5, MKCS, G_Span, hd, hb⟩
  have Hp_is_name : Has l.prog w K mg base "is_name" 2 ["text"] (spIsName) := ⟨f6, _, ok_p_is_name (k := 1) F6 T, PySem.W.mg_of X G a6, k6, b6⟩
  have Hcheck_name : HasX l.prog w K mg base "check_name" 3 ["text"] (spCheckName CN) := ⟨f7, _, ok_check_name (k := 2) F7 T E_BadName I_BadName N_BadName_name (Hp_is_name.mono (by decide)) (by decide), PySem.W.mg_of X G a7, k7, b7⟩
  have Hcheck_unlike : HasX l.prog w K mg base "check_unlike" 3 ["items"] (spCheckUnlike CD) := ⟨f8, _, ok_check_unlike (k := 2) F8 T E_Doubled I_Doubled N_Doubled_name (by decide), PySem.W.mg_of X G a8, k8, b8⟩
  have Hcheck_between : HasX l.prog w K mg base "check_between" 3 ["number", "low", "high"] (spBetween CR) := ⟨f9, _, ok_check_between (k := 2) F9 T E_OutOfRange I_OutOfRange N_OutOfRange_number N_OutOfRange_low N_OutOfRange_high (by decide), PySem.W.mg_of X G a9, k9, b9⟩
  have Hlook_up : HasX l.prog w K mg base "look_up" 3 ["table", "name"] (spLookUp CU) := ⟨f10, _, ok_look_up (k := 2) F10 T E_Unknown I_Unknown N_Unknown_name (by decide), PySem.W.mg_of X G a10, k10, b10⟩
  have Hcheck_row_numbers : HasX l.prog w K mg base "check_row_numbers" 5 ["lamps", "bonds"] (spRowNums K CE CB) := ⟨f11, _, ok_check_row_numbers (k := 4) F11 T (Hcheck_open_number.mono (by decide)) (Hcheck_low_high.mono (by decide)), PySem.W.mg_of X G a11, k11, b11⟩
  have Hcheck_row_ends : HasX l.prog w K mg base "check_row_ends" 3 ["lamp_names", "bonds"] (spRowEnds K CF CU) := ⟨f12, _, ok_check_row_ends (k := 2) F12 T E_SelfBond I_SelfBond N_SelfBond_bond E_Unknown I_Unknown N_Unknown_name (by decide), PySem.W.mg_of X G a12, k12, b12⟩
  have Hcheck_rows : HasX l.prog w K mg base "check_rows" 6 ["lamps", "bonds"] (spCheckRows K (⟨CN, CE, CB, CD, CF, CU, CR⟩ : ECs)) := ⟨f13, _, ok_check_rows (k := 5) F13 T (Hcheck_name.mono (by decide)) (Hcheck_row_numbers.mono (by decide)) (Hcheck_unlike.mono (by decide)) (Hcheck_row_ends.mono (by decide)) (Hcheck_between.mono (by decide)), PySem.W.mg_of X G a13, k13, b13⟩
  have Hkept_bond_row : Has l.prog w K mg base "kept_bond_row" 2 ["row"] (spKept) := ⟨f14, _, ok_kept_bond_row (k := 1) F14 T, PySem.W.mg_of X G a14, k14, b14⟩
  have O15 := ok_web_init (k := 6) (j := 5) (P := l.prog) (w := w) (base := base) (C := CW) (CS := CS) F15 T SW (Hcheck_rows.mono (by decide)) (Hkept_bond_row.mono (by decide)) (HM_Span_2.mono (by decide)) (by decide)
  have HM_Web_2 : HasMk l.prog w K mg base (L2.CX l.prog w) CW "Web" 7 ["self", "lamps", "bonds"] [] (spWebI K CW CS (⟨CN, CE, CB, CD, CF, CU, CR⟩ : ECs)) := by
    obtain ⟨ds, hd, hb⟩ := F15.binds1 (ps := ["self", "lamps", "bonds"]) 3 1 (by simp) rfl (fun T kV doc pm an cdv ct us its l1 l2 => match us, l1, its, l2 with | [_, _, _], _, [_], _ => ⟨_, rfl, rfl⟩)
    exact ⟨f15, _, ds, O15, MKCW, G_Web, hd, hb⟩
  have HM_Web_1 : HasMk l.prog w K mg base (L2.CX l.prog w) CW "Web" 7 ["self", "lamps", "bonds"] [.ref te] (spWebI K CW CS (⟨CN, CE, CB, CD, CF, CU, CR⟩ : ECs)) := by
    obtain ⟨ds, hd, hb⟩ := F15.binds1 (ps := ["self", "lamps", "bonds"]) 2 0 (by simp) rfl (fun T kV doc pm an cdv ct us its l1 l2 => match us, l1, its, l2 with | [_, _], _, [_], _ => ⟨_, rfl, rfl⟩)
    exact ⟨f15, _, ds, O15, MKCW, G_Web, hd, hb⟩
  have HP_Web_lamp_rows : HasPr l.prog w K mg base CX0 CW "lamp_rows" 2 ["self"] (spWLampRows CW CS) := ⟨pq16, f16, _, ⟨q16, g16, t16, _, r16⟩, ok_web_lamp_rows (k := 1) F16 T SW, b16⟩
  have HP_Web_bond_rows : HasPr l.prog w K mg base CX0 CW "bond_rows" 2 ["self"] (spWBondRows CW CS) := ⟨pq17, f17, _, ⟨q17, g17, t17, _, r17⟩, ok_web_bond_rows (k := 1) F17 T SW, b17⟩
  have O18 : FnOk l.prog w K mg base (L2.CX l.prog w) 4 f18 _ ["self", "bond"] (spWEnds CW CS CU) := ok_web_ends (k := 3) F18 T SW (Hlook_up.mono (by decide))
  have HT_Web_ends : HasMt l.prog w K mg base (L2.CX l.prog w) CW "ends" 4 ["self", "bond"] (spWEnds CW CS CU) := ⟨f18, _, O18, M18, b18⟩
  have HT_Web_ends_bond : HasMtN l.prog w K mg base (L2.CX l.prog w) CW "ends" 4 0 ["self", "bond"] ["bond"] gApp (spWEnds CW CS CU) := ⟨f18, _, O18, M18, (fun us ws => us ++ ws), kbn_of F18 (fun r1 r3 => r1.append r3) fun _ _ _ _ _ _ us ws l1 l2 => match us, l1, ws, l2 with | [_], _, [_], _ => rfl⟩
  have O19 : FnOk l.prog w K mg base CX0 4 f19 _ ["self", "bond"] (spWOther CW CS) := ok_web_other (k := 3) (j := 2) F19 T cl_Web (HP_Web_bond_rows.mono (by decide)) (by decide)
  have HT_Web_other_bond_rows : HasMt l.prog w K mg base CX0 CW "other_bond_rows" 4 ["self", "bond"] (spWOther CW CS) := ⟨f19, _, O19, M19, b19⟩
  have O20 : FnOk l.prog w K mg base (L2.CX l.prog w) 9 f20 _ ["self", "bond", "low", "high"] (spWithSpan CW CS CE CB CU) := ok_web_with_span (k := 8) (j := 7) F20 T SW SS cl_Web (HM_Span_2.mono (by decide)) (HT_Web_ends.mono (by decide)) (HT_Web_other_bond_rows.mono (by decide)) (HP_Web_lamp_rows.mono (by decide)) (HM_Web_2.mono (by decide)) (by decide)
  have HT_Web_with_span : HasMt l.prog w K mg base (L2.CX l.prog w) CW "with_span" 9 ["self", "bond", "low", "high"] (spWithSpan CW CS CE CB CU) := ⟨f20, _, O20, M20, b20⟩
  have O21 : FnOk l.prog w K mg base (L2.CX l.prog w) 9 f21 _ ["self", "name", "first", "second", "low", "high"] (spWithBond CW CS (⟨CN, CE, CB, CD, CF, CU, CR⟩ : ECs)) := ok_web_with_bond (k := 8) (j := 7) F21 T SW cl_Web (HP_Web_lamp_rows.mono (by decide)) (HP_Web_bond_rows.mono (by decide)) (HM_Web_2.mono (by decide)) (by decide)
  have HT_Web_with_bond_low_high : HasMtN l.prog w K mg base (L2.CX l.prog w) CW "with_bond" 9 3 ["self", "name", "first", "second", "low", "high"] ["low", "high"] gApp (spWithBond CW CS (⟨CN, CE, CB, CD, CF, CU, CR⟩ : ECs)) := by
    obtain ⟨mv, kb⟩ := F21.kbinds0 (ps := ["self", "name", "first", "second", "low", "high"]) 4 ["low", "high"] [] (fun us mv ws => us ++ ws) (by simp) (fun q hq => (by cases hq)) (fun r1 _ r3 => r1.append r3) (fun D doc pm an cdv ct us mv ws l1 l2 l3 => match us, l1, mv, l2, ws, l3 with | [_, _, _, _], _, [], _, [_, _], _ => rfl)
    exact ⟨f21, _, O21, M21, _, kb⟩
  have H_law_store : Has l.prog w K mg base "_law_store" 2 ["script"] (spStore K) := ⟨f22, _, ok_store (k := 1) F22 T, PySem.W.mg_of X G a22, k22, b22⟩
  have H_law_stir : Has l.prog w K mg base "_law_stir" 2 ["store", "cell"] (spStir) := ⟨f23, _, ok_stir (k := 1) F23 T, PySem.W.mg_of X G a23, k23, b23⟩
  have H_law_take : Has l.prog w K mg base "_law_take" 3 ["store", "many"] (spTake) := ⟨f24, _, ok_take (k := 2) F24 T (H_law_stir.mono (by decide)), PySem.W.mg_of X G a24, k24, b24⟩
  have H_law_pick : Has l.prog w K mg base "_law_pick" 4 ["store", "items"] (spPick) := ⟨f25, _, ok_pick (k := 3) F25 T (H_law_take.mono (by decide)), PySem.W.mg_of X G a25, k25, b25⟩
  have H_law_shuffled : Has l.prog w K mg base "_law_shuffled" 4 ["store", "items"] (spShuffled) := ⟨f26, _, ok_shuffled (k := 3) F26 T (H_law_take.mono (by decide)), PySem.W.mg_of X G a26, k26, b26⟩
  have H_law_name : Has l.prog w K mg base "_law_name" 4 ["store"] (spName) := ⟨f27, _, ok_name (k := 3) F27 T (H_law_take.mono (by decide)), PySem.W.mg_of X G a27, k27, b27⟩
  have H_law_unused : Has l.prog w K mg base "_law_unused" 2 ["used"] (spUnused) := ⟨f28, _, ok_unused (k := 1) F28 T, PySem.W.mg_of X G a28, k28, b28⟩
  have H_law_fresh_names : Has l.prog w K mg base "_law_fresh_names" 5 ["store", "many", "used"] (spFreshNames) := ⟨f29, _, ok_fresh_names (k := 4) F29 T (H_law_name.mono (by decide)) (H_law_unused.mono (by decide)), PySem.W.mg_of X G a29, k29, b29⟩
  have H_law_names : Has l.prog w K mg base "_law_names" 6 ["store", "many"] (spNames) := ⟨f30, _, ok_names (k := 5) F30 T (H_law_take.mono (by decide)) (H_law_fresh_names.mono (by decide)) (H_law_name.mono (by decide)) (H_law_shuffled.mono (by decide)), PySem.W.mg_of X G a30, k30, b30⟩
  have H_law_clamped : Has l.prog w K mg base "_law_clamped" 2 ["number"] (spClamped) := ⟨f31, _, ok_clamped (k := 1) F31 T, PySem.W.mg_of X G a31, k31, b31⟩
  have H_law_near : Has l.prog w K mg base "_law_near" 5 ["store", "pool"] (spNear) := ⟨f32, _, ok_near (k := 4) F32 T (H_law_take.mono (by decide)) (H_law_pick.mono (by decide)) (H_law_clamped.mono (by decide)), PySem.W.mg_of X G a32, k32, b32⟩
  have H_law_bar : Has l.prog w K mg base "_law_bar" 6 ["store", "pool"] (spBar) := ⟨f33, _, ok_bar (k := 5) F33 T (H_law_take.mono (by decide)) (H_law_near.mono (by decide)) (H_law_pick.mono (by decide)), PySem.W.mg_of X G a33, k33, b33⟩
  have H_law_ends : Has l.prog w K mg base "_law_ends" 6 ["store", "pool"] (spEnds) := ⟨f34, _, ok_ends (k := 5) F34 T (H_law_take.mono (by decide)) (H_law_near.mono (by decide)), PySem.W.mg_of X G a34, k34, b34⟩
  have H_law_edges : Has l.prog w K mg base "_law_edges" 7 ["store", "posts", "labels", "pool"] (spEdges) := ⟨f35, _, ok_edges (k := 6) F35 T (H_law_take.mono (by decide)) (H_law_pick.mono (by decide)) (H_law_ends.mono (by decide)), PySem.W.mg_of X G a35, k35, b35⟩
  have H_law_bad_name : Has l.prog w K mg base "_law_bad_name" 5 ["store"] (spBad) := ⟨f36, _, ok_bad_name (k := 4) F36 T (H_law_take.mono (by decide)) (H_law_pick.mono (by decide)) (H_law_name.mono (by decide)), PySem.W.mg_of X G a36, k36, b36⟩
  have H_law_is_name : Has l.prog w K mg base "_law_is_name" 2 ["text"] (spIsName) := ⟨f37, _, ok_is_name (k := 1) F37 T, PySem.W.mg_of X G a37, k37, b37⟩
  have H_law_bad_number : Has l.prog w K mg base "_law_bad_number" 5 ["store", "keyed"] (spBadNum) := ⟨f38, _, ok_bad_number (k := 4) F38 T (H_law_take.mono (by decide)) (H_law_pick.mono (by decide)), PySem.W.mg_of X G a38, k38, b38⟩
  have H_law_is_number : Has l.prog w K mg base "_law_is_number" 2 ["value"] (spIsNum) := ⟨f39, _, ok_is_number (k := 1) F39 T, PySem.W.mg_of X G a39, k39, b39⟩
  have H_law_stranger : Has l.prog w K mg base "_law_stranger" 6 ["store", "used"] (spStranger) := ⟨f40, _, ok_stranger (k := 5) F40 T (H_law_take.mono (by decide)) (H_law_pick.mono (by decide)) (H_law_name.mono (by decide)) (H_law_bad_name.mono (by decide)) (H_law_unused.mono (by decide)), PySem.W.mg_of X G a40, k40, b40⟩
  have H_law_first_double : Has l.prog w K mg base "_law_first_double" 2 ["items"] (spDouble) := ⟨f41, _, ok_first_double (k := 1) F41 T, PySem.W.mg_of X G a41, k41, b41⟩
  have H_law_bent_edge : Has l.prog w K mg base "_law_bent_edge" 7 ["store", "edges", "spot", "pool", "kind"] (spBentEdge) := ⟨f42, _, ok_bent_edge (k := 6) F42 T (H_law_take.mono (by decide)) (H_law_pick.mono (by decide)) (H_law_bad_name.mono (by decide)) (H_law_bad_number.mono (by decide)) (H_law_clamped.mono (by decide)) (H_law_near.mono (by decide)) (H_law_stranger.mono (by decide)), PySem.W.mg_of X G a42, k42, b42⟩
  have H_law_bent_web : Has l.prog w K mg base "_law_bent_web" 8 ["store", "nodes", "edges", "pool"] (spBentWeb) := ⟨f43, _, ok_bent_web (k := 7) F43 T (H_law_take.mono (by decide)) (H_law_pick.mono (by decide)) (H_law_bad_name.mono (by decide)) (H_law_bad_number.mono (by decide)) (H_law_bar.mono (by decide)) (H_law_fresh_names.mono (by decide)) (H_law_edges.mono (by decide)) (H_law_bent_edge.mono (by decide)), PySem.W.mg_of X G a43, k43, b43⟩
  have H_law_web_due : Has l.prog w K mg base "_law_web_due" 3 ["nodes", "edges"] (spDueW) := ⟨f44, _, ok_web_due (k := 2) F44 T (H_law_is_name.mono (by decide)) (H_law_is_number.mono (by decide)) (H_law_first_double.mono (by decide)), PySem.W.mg_of X G a44, k44, b44⟩
  have H_alike0 : Has l.prog w K mg base "_law_alike" 2 ["left", "right"] (spAlike 0) := ⟨f45, _, ok_alike0 (k := 1) F45 T, PySem.W.mg_of X G a45, k45, b45⟩
  have H_alike1 : Has l.prog w K mg base "_law_alike" 3 ["left", "right"] (spAlike 1) := ⟨f45, _, ok_alikeS (k := 2) F45 T H_alike0, PySem.W.mg_of X G a45, k45, b45⟩
  have H_alike2 : Has l.prog w K mg base "_law_alike" 4 ["left", "right"] (spAlike 2) := ⟨f45, _, ok_alikeS (k := 3) F45 T H_alike1, PySem.W.mg_of X G a45, k45, b45⟩
  have H_alike3 : Has l.prog w K mg base "_law_alike" 5 ["left", "right"] (spAlike 3) := ⟨f45, _, ok_alikeS (k := 4) F45 T H_alike2, PySem.W.mg_of X G a45, k45, b45⟩
  have H_law_kept_rows : Has l.prog w K mg base "_law_kept_rows" 2 ["plan"] (spKeptRows) := ⟨f46, _, ok_kept_rows (k := 1) F46 T, PySem.W.mg_of X G a46, k46, b46⟩
  have H_law_asked : Has l.prog w K mg base "_law_asked" 10 ["k", "nodes", "edges"] (spAsk7 CW CS) := ⟨f47, _, ok_asked7 (k := 9) (j := 7) F47 T TE cl_Web E_BadName E_BadNumber E_BadSpan E_Doubled E_SelfBond E_Unknown E_OutOfRange N_BadName_name N_BadNumber_number N_BadSpan_low N_BadSpan_high N_Doubled_name N_SelfBond_bond N_Unknown_name N_OutOfRange_number N_OutOfRange_low N_OutOfRange_high (HM_Web_2.mono (by decide)) (HP_Web_lamp_rows.mono (by decide)) (HP_Web_bond_rows.mono (by decide)) (HT_Web_with_span.mono (by decide)) (HT_Web_with_bond_low_high.mono (by decide)) (by decide), PySem.W.mg_of X G a47, k47, b47⟩
  have H_law_holds : Has l.prog w K mg base "_law_holds" 11 ["k", "nodes", "edges"] (spHolds) := ⟨f48, _, ok_holds (k := 10) F48 T (H_law_web_due.mono (by decide)) (H_law_kept_rows.mono (by decide)) (H_alike3.mono (by decide)) (H_law_asked.mono (by decide)), PySem.W.mg_of X G a48, k48, b48⟩
  have H_law_rows : Has l.prog w K mg base "_law_rows" 8 ["store"] (spRows) := ⟨f49, _, ok_rows (k := 7) F49 T (H_law_take.mono (by decide)) (H_law_pick.mono (by decide)) (H_law_names.mono (by decide)) (H_law_bar.mono (by decide)) (H_law_edges.mono (by decide)), PySem.W.mg_of X G a49, k49, b49⟩
  have H_law_one_more : Has l.prog w K mg base "_law_one_more" 8 ["store", "plan"] (spOneMore) := ⟨f50, _, ok_one_more (k := 7) F50 T (H_law_take.mono (by decide)) (H_law_pick.mono (by decide)) (H_law_fresh_names.mono (by decide)) (H_law_ends.mono (by decide)) (H_law_bent_edge.mono (by decide)), PySem.W.mg_of X G a50, k50, b50⟩
  exact ok_law (k := 11) F51 T (H_law_store.mono (by decide)) (H_law_rows.mono (by decide)) (H_law_take.mono (by decide)) (H_law_bent_web.mono (by decide)) (H_law_holds.mono (by decide)) (H_law_one_more.mono (by decide)) (H_law_bent_edge.mono (by decide)) (H_law_ends.mono (by decide))
end Z
open PySem PySem.W PyProof.Rows
set_option maxRecDepth 100000 in
set_option maxHeartbeats 0 in
theorem PySem.Challenge.cw_outshiners_k07_webs_refuse_in_order_holds : PySem.Challenge.rw_outshiners_k07_webs_refuse_in_order.Holds := by
  w_on; o_law; k_head; (case hw => w_witness2)
  k_fill
  refine L2.walk_of (l := PySem.Challenge.rw_outshiners_k07_webs_refuse_in_order) (n := 63) (k := 12) (x := "script") (CX := fun _ => L2.CX0) (sp := fun w => Z.spLaw _) rfl (by decide) rfl ⟨rfl, by decide, by decide⟩ (fun w h Y => PySem.W.kIn_of Y) ?F (fun _ _ a ns hl _ hS => ⟨a, ns, rfl, hS, fun _ => rfl⟩) (fun _ _ _ _ _ h => h)
  case F =>
    intro w mg fa h KX G hmg
    refine' Z.all_mk KX G hmg ?gCN ?xCN ?rCN ?saCN ?gaCN ?ggCN ?nfCNname ?kpCN ?exCN ?tyCN ?hdCN ?haCN ?hnCN ?htCN ?hmCN ?suCN ?iCN ?tiCN ?lCN ?cCN ?kCN ?gCE ?xCE ?rCE ?saCE ?gaCE ?ggCE ?nfCEnumber ?kpCE ?exCE ?tyCE ?hdCE ?haCE ?hnCE ?htCE ?hmCE ?suCE ?iCE ?tiCE ?lCE ?cCE ?kCE ?gCB ?xCB ?rCB ?saCB ?gaCB ?ggCB ?nfCBlow ?nfCBhigh ?kpCB ?exCB ?tyCB ?hdCB ?haCB ?hnCB ?htCB ?hmCB ?suCB ?iCB ?tiCB ?lCB ?cCB ?kCB ?gCD ?xCD ?rCD ?saCD ?gaCD ?ggCD ?nfCDname ?kpCD ?exCD ?tyCD ?hdCD ?haCD ?hnCD ?htCD ?hmCD ?suCD ?iCD ?tiCD ?lCD ?cCD ?kCD ?gCF ?xCF ?rCF ?saCF ?gaCF ?ggCF ?nfCFbond ?kpCF ?exCF ?tyCF ?hdCF ?haCF ?hnCF ?htCF ?hmCF ?suCF ?iCF ?tiCF ?lCF ?cCF ?kCF ?gCU ?xCU ?rCU ?saCU ?gaCU ?ggCU ?nfCUname ?kpCU ?exCU ?tyCU ?hdCU ?haCU ?hnCU ?htCU ?hmCU ?suCU ?iCU ?tiCU ?lCU ?cCU ?kCU ?gCR ?xCR ?rCR ?saCR ?gaCR ?ggCR ?nfCRnumber ?nfCRlow ?nfCRhigh ?kpCR ?exCR ?tyCR ?hdCR ?haCR ?hnCR ?htCR ?hmCR ?suCR ?iCR ?tiCR ?lCR ?cCR ?kCR ?gcO ?eo0 ?eo1 ?eo2 ?eo3 ?eo4 ?eo5 ?eo6 ?ei01 ?ei03 ?ei05 ?ei12 ?ei16 ?ei26 ?ei21 ?ei30 ?ei34 ?ei35 ?ei43 ?ei40 ?ei45 ?ei50 ?ei53 ?ei54 ?ei61 ?ei62 ?ei63 ?sb10 ?sb20 ?sb21 ?sb30 ?sb31 ?sb32 ?sb40 ?sb41 ?sb42 ?sb43 ?sb50 ?sb51 ?sb52 ?sb53 ?sb54 ?sb60 ?sb61 ?sb62 ?sb63 ?sb64 ?sb65 ?a0 ?l0 ?c0 ?k0 ?a1 ?l1 ?c1 ?k1 ?a2 ?l2 ?c2 ?k2 ?a3 ?l3 ?c3 ?k3 ?a4 ?l4 ?c4 ?k4 ?gCS ?pgCS ?hdCS ?poCS ?saCS ?naCS_low ?naCS_high ?haCS ?hmCS ?ksCS ?mkCS ?kpCS ?kCSint ?kCSstr ?kCStuple ?kCSNoneType ?q5 ?l5 ?c5 ?k5 ?t5 ?n5 ?a6 ?l6 ?c6 ?k6 ?a7 ?l7 ?c7 ?k7 ?a8 ?l8 ?c8 ?k8 ?a9 ?l9 ?c9 ?k9 ?a10 ?l10 ?c10 ?k10 ?a11 ?l11 ?c11 ?k11 ?a12 ?l12 ?c12 ?k12 ?a13 ?l13 ?c13 ?k13 ?a14 ?l14 ?c14 ?k14 ?gCW ?pgCW ?hdCW ?poCW ?saCW ?naCW_ceilings ?naCW_bond_rows ?naCW_ends ?naCW_spans ?haCW ?hmCW ?ksCW ?mkCW ?kpCW ?kCWint ?kCWstr ?kCWtuple ?kCWNoneType ?q15 ?l15 ?c15 ?k15 ?t15 ?n15 ?empt ?q16 ?r16 ?l16 ?c16 ?k16 ?g16 ?t16 ?q17 ?r17 ?l17 ?c17 ?k17 ?g17 ?t17 ?q18 ?l18 ?c18 ?k18 ?n18 ?q19 ?l19 ?c19 ?k19 ?n19 ?q20 ?l20 ?c20 ?k20 ?n20 ?q21 ?l21 ?c21 ?k21 ?w21_low ?w21_high ?n21 ?a22 ?l22 ?c22 ?k22 ?a23 ?l23 ?c23 ?k23 ?a24 ?l24 ?c24 ?k24 ?a25 ?l25 ?c25 ?k25 ?a26 ?l26 ?c26 ?k26 ?a27 ?l27 ?c27 ?k27 ?a28 ?l28 ?c28 ?k28 ?a29 ?l29 ?c29 ?k29 ?a30 ?l30 ?c30 ?k30 ?a31 ?l31 ?c31 ?k31 ?a32 ?l32 ?c32 ?k32 ?a33 ?l33 ?c33 ?k33 ?a34 ?l34 ?c34 ?k34 ?a35 ?l35 ?c35 ?k35 ?a36 ?l36 ?c36 ?k36 ?a37 ?l37 ?c37 ?k37 ?a38 ?l38 ?c38 ?k38 ?a39 ?l39 ?c39 ?k39 ?a40 ?l40 ?c40 ?k40 ?a41 ?l41 ?c41 ?k41 ?a42 ?l42 ?c42 ?k42 ?a43 ?l43 ?c43 ?k43 ?a44 ?l44 ?c44 ?k44 ?a45 ?l45 ?c45 ?k45 ?a46 ?l46 ?c46 ?k46 ?a47 ?l47 ?c47 ?k47 ?a48 ?l48 ?c48 ?k48 ?a49 ?l49 ?c49 ?k49 ?a50 ?l50 ?c50 ?k50 ?a51 ?l51 ?c51 ?k51 ?z_ValueError ?z_all ?z_bool ?z_dict ?z_int ?z_isinstance ?z_iter ?z_len ?z_list ?z_max ?z_min ?z_range ?z_set ?z_sorted ?z_str ?z_tuple ?zc_LIMIT ?zc_LETTERS ?zc_LETTERS_AND_DIGITS ?zc_LONGEST_NAME ?zc_MOST_LAMPS ?zc_MOST_BONDS
    case gCN => k_is
    case xCN => k_is
    case rCN => first | rfl | decide +kernel
    case saCN => k_is
    case gaCN => k_is
    case ggCN => k_is
    case nfCNname => k_is
    case kpCN => k_is
    case exCN => k_is
    case tyCN => k_is
    case hdCN => k_is
    case haCN => k_is
    case hnCN => k_is
    case htCN => k_is
    case hmCN => k_is
    case suCN => first | rfl | k_is
    case iCN => k_is
    case tiCN => k_is
    case lCN => k_is
    case cCN => k_is
    case kCN => k_is
    case gCE => k_is
    case xCE => k_is
    case rCE => first | rfl | decide +kernel
    case saCE => k_is
    case gaCE => k_is
    case ggCE => k_is
    case nfCEnumber => k_is
    case kpCE => k_is
    case exCE => k_is
    case tyCE => k_is
    case hdCE => k_is
    case haCE => k_is
    case hnCE => k_is
    case htCE => k_is
    case hmCE => k_is
    case suCE => first | rfl | k_is
    case iCE => k_is
    case tiCE => k_is
    case lCE => k_is
    case cCE => k_is
    case kCE => k_is
    case gCB => k_is
    case xCB => k_is
    case rCB => first | rfl | decide +kernel
    case saCB => k_is
    case gaCB => k_is
    case ggCB => k_is
    case nfCBlow => k_is
    case nfCBhigh => k_is
    case kpCB => k_is
    case exCB => k_is
    case tyCB => k_is
    case hdCB => k_is
    case haCB => k_is
    case hnCB => k_is
    case htCB => k_is
    case hmCB => k_is
    case suCB => first | rfl | k_is
    case iCB => k_is
    case tiCB => k_is
    case lCB => k_is
    case cCB => k_is
    case kCB => k_is
    case gCD => k_is
    case xCD => k_is
    case rCD => first | rfl | decide +kernel
    case saCD => k_is
    case gaCD => k_is
    case ggCD => k_is
    case nfCDname => k_is
    case kpCD => k_is
    case exCD => k_is
    case tyCD => k_is
    case hdCD => k_is
    case haCD => k_is
    case hnCD => k_is
    case htCD => k_is
    case hmCD => k_is
    case suCD => first | rfl | k_is
    case iCD => k_is
    case tiCD => k_is
    case lCD => k_is
    case cCD => k_is
    case kCD => k_is
    case gCF => k_is
    case xCF => k_is
    case rCF => first | rfl | decide +kernel
    case saCF => k_is
    case gaCF => k_is
    case ggCF => k_is
    case nfCFbond => k_is
    case kpCF => k_is
    case exCF => k_is
    case tyCF => k_is
    case hdCF => k_is
    case haCF => k_is
    case hnCF => k_is
    case htCF => k_is
    case hmCF => k_is
    case suCF => first | rfl | k_is
    case iCF => k_is
    case tiCF => k_is
    case lCF => k_is
    case cCF => k_is
    case kCF => k_is
    case gCU => k_is
    case xCU => k_is
    case rCU => first | rfl | decide +kernel
    case saCU => k_is
    case gaCU => k_is
    case ggCU => k_is
    case nfCUname => k_is
    case kpCU => k_is
    case exCU => k_is
    case tyCU => k_is
    case hdCU => k_is
    case haCU => k_is
    case hnCU => k_is
    case htCU => k_is
    case hmCU => k_is
    case suCU => first | rfl | k_is
    case iCU => k_is
    case tiCU => k_is
    case lCU => k_is
    case cCU => k_is
    case kCU => k_is
    case gCR => k_is
    case xCR => k_is
    case rCR => first | rfl | decide +kernel
    case saCR => k_is
    case gaCR => k_is
    case ggCR => k_is
    case nfCRnumber => k_is
    case nfCRlow => k_is
    case nfCRhigh => k_is
    case kpCR => k_is
    case exCR => k_is
    case tyCR => k_is
    case hdCR => k_is
    case haCR => k_is
    case hnCR => k_is
    case htCR => k_is
    case hmCR => k_is
    case suCR => first | rfl | k_is
    case iCR => k_is
    case tiCR => k_is
    case lCR => k_is
    case cCR => k_is
    case kCR => k_is
    case gcO => k_is
    case eo0 => first | k_is | kit_is
    case eo1 => first | k_is | kit_is
    case eo2 => first | k_is | kit_is
    case eo3 => first | k_is | kit_is
    case eo4 => first | k_is | kit_is
    case eo5 => first | k_is | kit_is
    case eo6 => first | k_is | kit_is
    case ei01 => first | k_is | kit_is
    case ei03 => first | k_is | kit_is
    case ei05 => first | k_is | kit_is
    case ei12 => first | k_is | kit_is
    case ei16 => first | k_is | kit_is
    case ei26 => first | k_is | kit_is
    case ei21 => first | k_is | kit_is
    case ei30 => first | k_is | kit_is
    case ei34 => first | k_is | kit_is
    case ei35 => first | k_is | kit_is
    case ei43 => first | k_is | kit_is
    case ei40 => first | k_is | kit_is
    case ei45 => first | k_is | kit_is
    case ei50 => first | k_is | kit_is
    case ei53 => first | k_is | kit_is
    case ei54 => first | k_is | kit_is
    case ei61 => first | k_is | kit_is
    case ei62 => first | k_is | kit_is
    case ei63 => first | k_is | kit_is
    case sb10 => first | rfl | k_is
    case sb20 => first | rfl | k_is
    case sb21 => first | rfl | k_is
    case sb30 => first | rfl | k_is
    case sb31 => first | rfl | k_is
    case sb32 => first | rfl | k_is
    case sb40 => first | rfl | k_is
    case sb41 => first | rfl | k_is
    case sb42 => first | rfl | k_is
    case sb43 => first | rfl | k_is
    case sb50 => first | rfl | k_is
    case sb51 => first | rfl | k_is
    case sb52 => first | rfl | k_is
    case sb53 => first | rfl | k_is
    case sb54 => first | rfl | k_is
    case sb60 => first | rfl | k_is
    case sb61 => first | rfl | k_is
    case sb62 => first | rfl | k_is
    case sb63 => first | rfl | k_is
    case sb64 => first | rfl | k_is
    case sb65 => first | rfl | k_is
    case a0 => k_is
    case l0 => k_is
    case c0 => k_is
    case k0 => k_is
    case a1 => k_is
    case l1 => k_is
    case c1 => k_is
    case k1 => k_is
    case a2 => k_is
    case l2 => k_is
    case c2 => k_is
    case k2 => k_is
    case a3 => k_is
    case l3 => k_is
    case c3 => k_is
    case k3 => k_is
    case a4 => k_is
    case l4 => k_is
    case c4 => k_is
    case k4 => k_is
    case gCS => k_is
    case pgCS => k_is
    case hdCS => k_is
    case poCS => k_is
    case saCS => k_is
    case naCS_low => k_is
    case naCS_high => k_is
    case haCS => k_is
    case hmCS => k_is
    case ksCS => first | k_is | kit_is
    case mkCS => k_is
    case kpCS => k_is
    case kCSint => first | k_is | kit_is
    case kCSstr => first | k_is | kit_is
    case kCStuple => first | k_is | kit_is
    case kCSNoneType => first | k_is | kit_is
    case q5 => k_is
    case l5 => k_is
    case c5 => k_is
    case k5 => k_is
    case t5 => k_is
    case n5 => k_is
    case a6 => k_is
    case l6 => k_is
    case c6 => k_is
    case k6 => k_is
    case a7 => k_is
    case l7 => k_is
    case c7 => k_is
    case k7 => k_is
    case a8 => k_is
    case l8 => k_is
    case c8 => k_is
    case k8 => k_is
    case a9 => k_is
    case l9 => k_is
    case c9 => k_is
    case k9 => k_is
    case a10 => k_is
    case l10 => k_is
    case c10 => k_is
    case k10 => k_is
    case a11 => k_is
    case l11 => k_is
    case c11 => k_is
    case k11 => k_is
    case a12 => k_is
    case l12 => k_is
    case c12 => k_is
    case k12 => k_is
    case a13 => k_is
    case l13 => k_is
    case c13 => k_is
    case k13 => k_is
    case a14 => k_is
    case l14 => k_is
    case c14 => k_is
    case k14 => k_is
    case gCW => k_is
    case pgCW => k_is
    case hdCW => k_is
    case poCW => k_is
    case saCW => k_is
    case naCW_ceilings => k_is
    case naCW_bond_rows => k_is
    case naCW_ends => k_is
    case naCW_spans => k_is
    case haCW => k_is
    case hmCW => k_is
    case ksCW => first | k_is | kit_is
    case mkCW => k_is
    case kpCW => k_is
    case kCWint => first | k_is | kit_is
    case kCWstr => first | k_is | kit_is
    case kCWtuple => first | k_is | kit_is
    case kCWNoneType => first | k_is | kit_is
    case q15 => k_is
    case l15 => k_is
    case c15 => k_is
    case k15 => k_is
    case t15 => k_is
    case n15 => k_is
    case empt => k_is
    case q16 => k_is
    case r16 => k_is
    case l16 => k_is
    case c16 => k_is
    case k16 => k_is
    case g16 => k_is
    case t16 => k_is
    case q17 => k_is
    case r17 => k_is
    case l17 => k_is
    case c17 => k_is
    case k17 => k_is
    case g17 => k_is
    case t17 => k_is
    case q18 => k_is
    case l18 => k_is
    case c18 => k_is
    case k18 => k_is
    case n18 => k_is
    case q19 => k_is
    case l19 => k_is
    case c19 => k_is
    case k19 => k_is
    case n19 => k_is
    case q20 => k_is
    case l20 => k_is
    case c20 => k_is
    case k20 => k_is
    case n20 => k_is
    case q21 => k_is
    case l21 => k_is
    case c21 => k_is
    case k21 => k_is
    case w21_low => k_is
    case w21_high => k_is
    case n21 => k_is
    case a22 => k_is
    case l22 => k_is
    case c22 => k_is
    case k22 => k_is
    case a23 => k_is
    case l23 => k_is
    case c23 => k_is
    case k23 => k_is
    case a24 => k_is
    case l24 => k_is
    case c24 => k_is
    case k24 => k_is
    case a25 => k_is
    case l25 => k_is
    case c25 => k_is
    case k25 => k_is
    case a26 => k_is
    case l26 => k_is
    case c26 => k_is
    case k26 => k_is
    case a27 => k_is
    case l27 => k_is
    case c27 => k_is
    case k27 => k_is
    case a28 => k_is
    case l28 => k_is
    case c28 => k_is
    case k28 => k_is
    case a29 => k_is
    case l29 => k_is
    case c29 => k_is
    case k29 => k_is
    case a30 => k_is
    case l30 => k_is
    case c30 => k_is
    case k30 => k_is
    case a31 => k_is
    case l31 => k_is
    case c31 => k_is
    case k31 => k_is
    case a32 => k_is
    case l32 => k_is
    case c32 => k_is
    case k32 => k_is
    case a33 => k_is
    case l33 => k_is
    case c33 => k_is
    case k33 => k_is
    case a34 => k_is
    case l34 => k_is
    case c34 => k_is
    case k34 => k_is
    case a35 => k_is
    case l35 => k_is
    case c35 => k_is
    case k35 => k_is
    case a36 => k_is
    case l36 => k_is
    case c36 => k_is
    case k36 => k_is
    case a37 => k_is
    case l37 => k_is
    case c37 => k_is
    case k37 => k_is
    case a38 => k_is
    case l38 => k_is
    case c38 => k_is
    case k38 => k_is
    case a39 => k_is
    case l39 => k_is
    case c39 => k_is
    case k39 => k_is
    case a40 => k_is
    case l40 => k_is
    case c40 => k_is
    case k40 => k_is
    case a41 => k_is
    case l41 => k_is
    case c41 => k_is
    case k41 => k_is
    case a42 => k_is
    case l42 => k_is
    case c42 => k_is
    case k42 => k_is
    case a43 => k_is
    case l43 => k_is
    case c43 => k_is
    case k43 => k_is
    case a44 => k_is
    case l44 => k_is
    case c44 => k_is
    case k44 => k_is
    case a45 => k_is
    case l45 => k_is
    case c45 => k_is
    case k45 => k_is
    case a46 => k_is
    case l46 => k_is
    case c46 => k_is
    case k46 => k_is
    case a47 => k_is
    case l47 => k_is
    case c47 => k_is
    case k47 => k_is
    case a48 => k_is
    case l48 => k_is
    case c48 => k_is
    case k48 => k_is
    case a49 => k_is
    case l49 => k_is
    case c49 => k_is
    case k49 => k_is
    case a50 => k_is
    case l50 => k_is
    case c50 => k_is
    case k50 => k_is
    case a51 => k_is
    case l51 => k_is
    case c51 => k_is
    case k51 => k_is
    case z_ValueError => k_is
    case z_all => k_is
    case z_bool => k_is
    case z_dict => k_is
    case z_int => k_is
    case z_isinstance => k_is
    case z_iter => k_is
    case z_len => k_is
    case z_list => k_is
    case z_max => k_is
    case z_min => k_is
    case z_range => k_is
    case z_set => k_is
    case z_sorted => k_is
    case z_str => k_is
    case z_tuple => k_is
    case zc_LIMIT => exact ⟨_, by k_is⟩
    case zc_LETTERS => exact ⟨_, by k_is⟩
    case zc_LETTERS_AND_DIGITS => exact ⟨_, by k_is⟩
    case zc_LONGEST_NAME => exact ⟨_, by k_is⟩
    case zc_MOST_LAMPS => exact ⟨_, by k_is⟩
    case zc_MOST_BONDS => exact ⟨_, by k_is⟩
