import PyProof.Rows.All
import Wide.All
import OpenK.AllK
import Wide.FinOn
import HandS.ForMost
import HandS.ForExc
import HandS.Wide
import HandS.IsInst
import HandS.SortInts
import HandS.Codes
import HandS.ExcInit
import HandS.ExcField
import HandS.ExcIs
import KE.DatumOrd
import KE.KExcIs
import HandS.SortKw
import HandS.TryMany
import HandS.ExcOwn
import PySem.Challenge.RW_outshiners_k05_ceilings_and_numbers
set_option Elab.async false
set_option linter.all false
set_option maxRecDepth 100000
namespace Z
open PySem PySem.Spec PyProof.Rows L2
/-! ### a def that may be called by its name -/
structure Has (P : Program) (w : World) (K : PySem.W.Frag) (mg : Str → Option Value) (base : Heap) (x : Str) (k : Nat) (ps : List Str) (sp : Sp) : Prop where
  ex : ∃ f fd, FnOk P w K mg base CX0 k f fd ps sp ∧ mg x = some (.ref f) ∧ PySem.W.keepIn K (.ref f) = true ∧ Binds K fd ps []
section
variable {P : Program} {w : World} {K : PySem.W.Frag} {mg : Str → Option Value} {base : Heap}
theorem Has.mk' {x : Str} {k : Nat} {ps : List Str} {sp : Sp} {f : Addr} {fd : FuncData} (F : FnOk P w K mg base CX0 k f fd ps sp) (g : mg x = some (.ref f)) (kp : PySem.W.keepIn K (.ref f) = true) (b : Binds K fd ps []) : Has P w K mg base x k ps sp := ⟨f, fd, F, g, kp, b⟩
theorem Has.mono {x : Str} {j k : Nat} {ps : List Str} {sp : Sp} (h : Has P w K mg base x j ps sp) (l : j ≤ k) : Has P w K mg base x k ps sp := by
  obtain ⟨f, fd, F, r⟩ := h.ex
  exact ⟨f, fd, F.mono l, r⟩
end
theorem pe_callH {X : Cx} {x : Str} {k : Nat} {ps : List Str} {sp : Sp} {e : Expr} {es : List Expr} {t : TA} {p pos : Pos} (h : Has X.prog X.w X.K X.mg X.base x k ps sp) (hr : Room k X.A) (hg : Gl X x) (ha : PA X (e :: es) t)
    (hdb : (x == ("__debug__" : Str)) = false := by decide) (he : starEach (e :: es) X.env = (false, eval e X.env) :: starEach es X.env := by rfl) (hpl : (backTo pos (starEach es X.env)).any (·.1) = false := by rfl) :
    PE X (.Call (.Name x p) (e :: es) [] pos) (tCall sp [] E0 t) := by
  obtain ⟨f, fd, F, hm, hk, hb⟩ := h.ex
  exact pe_call F hr hg hm hk hb .nil pass0 ha hdb he hpl
theorem sl_of' {K : PySem.W.Frag} {H : Hp} {a : Addr} {xs : List V} (h : H a = some (.lst xs)) : SqL K H a xs := .inl (.inl h)
/-! ### readings, step by step -/
section
variable {σ : L2.St} {H : Hp} {D : Ends} {t u : TS} {te ta tb : TE} {tt tu : TT} {Q : VK} {i : Nat} {v x : V} {r : R2} {tA tR : TA} {QA : List V → Hp → Prop} {QT : Bool → Hp → Prop}
theorem rd_seq (h : t { D with nx := u D } σ H) : tSeq t u D σ H := h
theorem rd_asg (h : te σ H fun x H1 => D.nx (σ.set i (some x)) H1) : tAsg te (gName i) D σ H := h
theorem rd_asgS {to ti : TE} {ts : TSet} (h : te σ H fun x H1 => to σ H1 fun o H1 => ti σ H1 fun i H2 => ts o i x H2 fun H3 => D.nx σ H3) : tAsg te (gSub to ti ts) D σ H := h
theorem rd_ret (h : te σ H D.rt) : tRet te D σ H := h
theorem rd_ifS (h : tt σ H fun b H1 => if b = true then t D σ H1 else u D σ H1) : tIfS tt t u D σ H := h
theorem rd_next (h : D.nx σ H) : tNext D σ H := h
theorem rd_drop (h : te σ H fun _ H1 => D.nx σ H1) : tDrop te D σ H := h
theorem rd_var (e : σ[i]? = some (some v)) (h : Q v H) : tVar i σ H Q := ⟨v, e, h⟩
theorem rd_c (h : Q v H) : tC v σ H Q := h
theorem rd_op (h : ta σ H fun x H1 => tb σ H1 fun y H2 => r x y H2 Q) : tOp r ta tb σ H Q := h
theorem rd_un {r : V → Hp → VK → Prop} (h : ta σ H fun x H1 => r x H1 Q) : tUn r ta σ H Q := h
theorem rd_nil (h : QA [] H) : tNil σ H QA := h
theorem rd_cons (h : ta σ H fun x H1 => tR σ H1 fun xs H2 => QA (x :: xs) H2) : tCons ta tR σ H QA := h
theorem rd_cb {r : List V → Hp → VK → Prop} (h : tA σ H fun vs H1 => r vs H1 Q) : tCB r tA σ H Q := h
theorem rd_call {sp : Sp} {E : XK} (h : tA σ H fun vs H1 => sp vs H1 Q E) : tCall sp [] E tA σ H Q := by
  show tA σ H fun vs H1 => sp (vs ++ []) H1 Q E
  simp only [List.append_nil]
  exact h
theorem rd_test (h : te σ H fun x H' => ∃ k, x = .bl k ∧ QT k H') : tTest te σ H QT := h
theorem rd_tB (h : te σ H fun x H' => ∃ k, x = .bl k ∧ QT k H') : tB te σ H QT := h
theorem rd_bx {b : Bool} {R : Bool → Prop} (h : R b) : ∃ k, V.bl b = .bl k ∧ R k := ⟨b, rfl, h⟩
theorem rd_nn {R : Prop} (h : R) : V.non = V.non ∧ R := ⟨rfl, h⟩
theorem rd_not (h : tt σ H fun c H1 => QT (!c) H1) : tNot tt σ H QT := h
theorem rd_and (h : tt σ H fun c H1 => if c = true then tu σ H1 QT else QT false H1) : tAnd tt tu σ H QT := h
theorem rd_or (h : tt σ H fun c H1 => if c = true then QT true H1 else tu σ H1 QT) : tOr tt tu σ H QT := h
theorem rd_andV (h : ta σ H fun x H1 => ∃ c, x = .bl c ∧ if c = true then tb σ H1 Q else Q (.bl false) H1) : tAndV ta tb σ H Q := h
theorem rd_orV (h : ta σ H fun x H1 => ∃ c, x = .bl c ∧ if c = true then Q (.bl true) H1 else tb σ H1 Q) : tOrV ta tb σ H Q := h
theorem rd_notV (h : ta σ H fun x H1 => ∃ c, x = .bl c ∧ Q (.bl (!c)) H1) : tNotV ta σ H Q := h
theorem rd_if (h : tt σ H fun c H1 => if c = true then ta σ H1 Q else tb σ H1 Q) : tIf tt ta tb σ H Q := h
theorem rd_I0 {g : Int → Int → V} {i j : Int} (h : Q (g i j) H) : rI0 g (.int i) (.int j) H Q := ⟨i, j, rfl, rfl, h⟩
theorem rd_I {C : Int → Int → Prop} {g : Int → Int → V} {i j : Int} (c : C i j) (h : Q (g i j) H) : rI C g (.int i) (.int j) H Q := ⟨i, j, rfl, rfl, c, h⟩
theorem rd_U {g : Int → V} {i : Int} (h : Q (g i) H) : rU g (.int i) H Q := ⟨i, rfl, h⟩
theorem rd_eqI {i j : Int} (h : Q (.bl (decide (i = j))) H) : rEq (.int i) (.int j) H Q := ⟨rfl, by
  have e : decide (V.int i = V.int j) = decide (i = j) := by simp
  rw [e]; exact h⟩
theorem rd_neI {i j : Int} (h : Q (.bl (!decide (i = j))) H) : rNe (.int i) (.int j) H Q := ⟨rfl, by
  have e : decide (V.int i = V.int j) = decide (i = j) := by simp
  rw [e]; exact h⟩
theorem rd_lst (h : tA σ H fun xs H1 => xs.length ≤ sizeLine ∧ ∀ p, H1 p = none → Q (.ref p) (upd H1 p (.lst xs))) : tLst tA σ H Q := h
theorem rd_tup (h : tA σ H fun xs H1 => xs.length ≤ sizeLine ∧ ∀ p, H1 p = none → Q (.ref p) (upd H1 p (.tup xs))) : tTup tA σ H Q := h
theorem rd_sl {r : V → Option Int → Option Int → Hp → VK → Prop} {tl th : TO} (h : te σ H fun x H1 => tl σ H1 fun l H2 => th σ H2 fun u H3 => r x l u H3 Q) : tSl r te tl th σ H Q := h
theorem rd_bm {K : PySem.W.Frag} {T : String} {r : V → List V → Hp → VK → Prop} (h : te σ H fun x H1 => tyV K T x H1 ∧ tA σ H1 fun xs H2 => r x xs H2 Q) : tBM K T r te tA σ H Q := h
theorem rd_chain {r r' : R2} {tc : TE} (h : ta σ H fun x H1 => tb σ H1 fun y H2 => r x y H2 fun z H3 => ∃ k, z = .bl k ∧ if k = true then tc σ H3 fun z' H4 => r' y z' H4 Q else Q (.bl false) H3) : tChain r r' ta tb tc σ H Q := h
theorem rd_int1 {i : Int} {R : Int → Prop} {R' : Bool → Prop} (h : R i) : (∃ j, [V.int i] = [V.int j] ∧ R j) ∨ (∃ k, [V.int i] = [V.bl k] ∧ R' k) := .inl ⟨i, rfl, h⟩
theorem rd_max2 {i j : Int} {R : Int → Int → Prop} (h : R i j) : ∃ i' j', [V.int i, V.int j] = [V.int i', V.int j'] ∧ R i' j' := ⟨i, j, rfl, h⟩
theorem rd_min2 {i j : Int} {R : Int → Int → Prop} (h : R i j) : ∃ i' j', [V.int i, V.int j] = [V.int i', V.int j'] ∧ R i' j' := ⟨i, j, rfl, h⟩
theorem rd_ixL {K : PySem.W.Frag} {p : Addr} {xs : List V} {i : Int} {v : V} {Q : VK} (h : H p = some (.lst xs)) (e : atI xs i = some v) (q : Q v H) : rIxL K (.ref p) (.int i) H Q := ⟨p, xs, i, v, rfl, rfl, .inl (.inl h), e, q⟩
theorem rd_setL {p : Addr} {xs : List V} {k : Int} {j : Nat} {v : V} {Q : Hp → Prop} (h : H p = some (.lst xs)) (e : ixN xs.length k = some j) (q : Q (upd H p (.lst (xs.set j v)))) : rSetL (.ref p) (.int k) v H Q := ⟨p, xs, k, j, rfl, rfl, h, e, q⟩
theorem rd_part {te : TE} {Q : Option Int → Hp → Prop} (h : te σ H fun x H1 => ∃ i, x = .int i ∧ Q (some i) H1) : tPart te σ H Q := h
theorem rd_nopart {Q : Option Int → Hp → Prop} (h : Q none H) : tNoPart σ H Q := h
theorem rd_cut (Mid : L2.St → Hp → Prop) (h : t { D with nx := Mid } σ H) (h2 : ∀ σ' H', Mid σ' H' → u D σ' H') : C8.tCut t u D σ H := ⟨Mid, h, h2⟩
theorem rd_setS {p : Addr} {xs : List V} {k : Int} {j : Nat} {v : V} {Q : Hp → Prop} (e : ixN xs.length k = some j) (q : Q (upd H p (.lst (xs.set j v)))) : rSetL (.ref p) (.int k) v (upd H p (.lst xs)) Q := ⟨p, xs, k, j, rfl, rfl, upd_same, e, by rw [upd_upd]; exact q⟩
theorem rd_p9 {Q : VK} (h : Q (.int 1000000000) H) : rI CPow (fun i j => .int (i ^ j.toNat)) (.int 10) (.int 9) H Q := ⟨10, 9, rfl, rfl, ⟨by decide, by decide, by decide⟩, h⟩
theorem rd_p11 {Q : VK} (h : Q (.int 100000000000) H) : rI CPow (fun i j => .int (i ^ j.toNat)) (.int 10) (.int 11) H Q := ⟨10, 11, rfl, rfl, ⟨by decide, by decide, by decide⟩, h⟩
theorem rd_p12 {Q : VK} (h : Q (.int 1000000000000) H) : rI CPow (fun i j => .int (i ^ j.toNat)) (.int 10) (.int 12) H Q := ⟨10, 12, rfl, rfl, ⟨by decide, by decide, by decide⟩, h⟩
theorem rd_p13 {Q : VK} (h : Q (.int 10000000000000) H) : rI CPow (fun i j => .int (i ^ j.toNat)) (.int 10) (.int 13) H Q := ⟨10, 13, rfl, rfl, ⟨by decide, by decide, by decide⟩, h⟩
theorem rd_p18 {Q : VK} (h : Q (.int 1000000000000000000) H) : rI CPow (fun i j => .int (i ^ j.toNat)) (.int 10) (.int 18) H Q := ⟨10, 18, rfl, rfl, ⟨by decide, by decide, by decide⟩, h⟩
theorem rd_p30 {Q : VK} (h : Q (.int 1000000000000000000000000000000) H) : rI CPow (fun i j => .int (i ^ j.toNat)) (.int 10) (.int 30) H Q := ⟨10, 30, rfl, rfl, ⟨by decide, by decide, by decide⟩, h⟩
theorem rd_p40 {Q : VK} (h : Q (.int 10000000000000000000000000000000000000000) H) : rI CPow (fun i j => .int (i ^ j.toNat)) (.int 10) (.int 40) H Q := ⟨10, 40, rfl, rfl, ⟨by decide, by decide, by decide⟩, h⟩
theorem rd_seqL {K : PySem.W.Frag} {a : Addr} {xs : List V} {R : List V → Prop} (h : H a = some (.lst xs)) (q : R xs) : ∃ p ys, [V.ref a] = [V.ref p] ∧ (SqL K H p ys ∨ SqT K H p ys) ∧ R ys := ⟨a, xs, rfl, .inl (.inl (.inl h)), q⟩
theorem rd_seqT {K : PySem.W.Frag} {a : Addr} {xs : List V} {R : List V → Prop} (h : H a = some (.tup xs)) (q : R xs) : ∃ p ys, [V.ref a] = [V.ref p] ∧ (SqL K H p ys ∨ SqT K H p ys) ∧ R ys := ⟨a, xs, rfl, .inr (.inl (.inl h)), q⟩
theorem atI_get {xs : List V} {i : Int} (h0 : 0 ≤ i) (h1 : i < xs.length) : ∃ (hb : i.toNat < xs.length), atI xs i = some (xs[i.toNat]'hb) := by
  have hb : i.toNat < xs.length := by omega
  refine ⟨hb, ?_⟩
  unfold atI ixN
  rw [if_pos h0, if_pos h1]
  simp [hb]
theorem atI_ints {xs : List Int} {i : Int} (h0 : 0 ≤ i) (h1 : i < xs.length) : ∃ n, n ∈ xs ∧ xs[i.toNat]? = some n ∧ atI (xs.map V.int) i = some (.int n) := by
  have hb : i.toNat < xs.length := by omega
  refine ⟨xs[i.toNat], List.getElem_mem hb, by simp [hb], ?_⟩
  unfold atI ixN
  rw [if_pos h0, if_pos (by simpa using h1)]
  simp [hb]
/-! loops -/
theorem rd_for {wi : TI} {g : TG} {tb : TS} (h : wi σ H fun J H1 => ∃ W : Nat → Nat → L2.St → Hp → Prop, (∃ m, W 0 m σ H1) ∧ ∀ i m σ H, W i m σ H →
  (J.stop i H ∧ D.nx σ H) ∨ (J.go i H ∧ ∃ N : L2.St → Hp → Prop, (∀ σ' H', N σ' H' → ∃ m', m' < m ∧ W (i + 1) m' σ' H') ∧ ∀ x H', J.yld i H x H' → g x σ H' fun σ2 H2 => tb { D with nx := N, ct := N, bk := D.nx } σ2 H2)) : tFor wi g tb D σ H := h
theorem rd_iRng1 {ta : TA} {R : It → Hp → Prop} (h : ta σ H fun vs H1 => ∃ j : Int, vs = [.int j] ∧ -(2 ^ 62) ≤ j ∧ j < 2 ^ 62 ∧ R (Itr 0 j.toNat) H1) : iRng1 ta σ H R := h
theorem rd_iList {K : PySem.W.Frag} {R : It → Hp → Prop} (h : te σ H fun x H1 => ∃ a, x = .ref a ∧ (∃ xs, SqL K H1 a xs) ∧ R (Itl K a) H1) : iList K te σ H R := h
theorem for_rng {n : Nat} {k : Nat} {tb : TS} (Pv : Nat → L2.St → Hp → Prop) (h0 : Pv 0 σ H)
    (hs : ∀ i σ H, i < n → Pv i σ H → tb { D with nx := Pv (i + 1), ct := Pv (i + 1), bk := D.nx } (σ.set k (some (.int i))) H) (hd : ∀ σ H, Pv n σ H → D.nx σ H) :
    ∃ W : Nat → Nat → L2.St → Hp → Prop, (∃ m, W 0 m σ H) ∧ ∀ i m σ H, W i m σ H →
      ((Itr 0 n).stop i H ∧ D.nx σ H) ∨ ((Itr 0 n).go i H ∧ ∃ N : L2.St → Hp → Prop, (∀ σ' H', N σ' H' → ∃ m', m' < m ∧ W (i + 1) m' σ' H') ∧ ∀ x H', (Itr 0 n).yld i H x H' → gName k x σ H' fun σ2 H2 => tb { D with nx := N, ct := N, bk := D.nx } σ2 H2) := by
  refine for_range (lo := 0) Pv h0 (fun i σ H hi hp => ?_) hd
  have e : (V.int (0 + (i : Int))) = V.int i := by rw [Int.zero_add]
  rw [e]
  exact hs i σ H hi hp
theorem for_lst {K : PySem.W.Frag} {a : Addr} {xs : List V} {k : Nat} {tb : TS} (Pv : Nat → L2.St → Hp → Prop) (h0 : Pv 0 σ H) (hl : ∀ i σ H, Pv i σ H → H a = some (.lst xs))
    (hs : ∀ i x σ H, xs[i]? = some x → Pv i σ H → tb { D with nx := Pv (i + 1), ct := Pv (i + 1), bk := D.nx } (σ.set k (some x)) H) (hd : ∀ σ H, Pv xs.length σ H → D.nx σ H) :
    ∃ W : Nat → Nat → L2.St → Hp → Prop, (∃ m, W 0 m σ H) ∧ ∀ i m σ H, W i m σ H →
      ((Itl K a).stop i H ∧ D.nx σ H) ∨ ((Itl K a).go i H ∧ ∃ N : L2.St → Hp → Prop, (∀ σ' H', N σ' H' → ∃ m', m' < m ∧ W (i + 1) m' σ' H') ∧ ∀ x H', (Itl K a).yld i H x H' → gName k x σ H' fun σ2 H2 => tb { D with nx := N, ct := N, bk := D.nx } σ2 H2) :=
  for_list Pv h0 (fun i σ H _ hp => sl_of' (hl i σ H hp)) hs hd
theorem kb_NoneType_int : kitB "NoneType" "int" = some false := by decide +kernel
theorem kb_NoneType_bool : kitB "NoneType" "bool" = some false := by decide +kernel
theorem kb_NoneType_str : kitB "NoneType" "str" = some false := by decide +kernel
theorem kb_NoneType_list : kitB "NoneType" "list" = some false := by decide +kernel
theorem kb_NoneType_tuple : kitB "NoneType" "tuple" = some false := by decide +kernel
theorem kb_NoneType_dict : kitB "NoneType" "dict" = some false := by decide +kernel
theorem kb_bool_int : kitB "bool" "int" = some true := by decide +kernel
theorem kb_bool_bool : kitB "bool" "bool" = some true := by decide +kernel
theorem kb_bool_str : kitB "bool" "str" = some false := by decide +kernel
theorem kb_bool_list : kitB "bool" "list" = some false := by decide +kernel
theorem kb_bool_tuple : kitB "bool" "tuple" = some false := by decide +kernel
theorem kb_bool_dict : kitB "bool" "dict" = some false := by decide +kernel
theorem kb_int_int : kitB "int" "int" = some true := by decide +kernel
theorem kb_int_bool : kitB "int" "bool" = some false := by decide +kernel
theorem kb_int_str : kitB "int" "str" = some false := by decide +kernel
theorem kb_int_list : kitB "int" "list" = some false := by decide +kernel
theorem kb_int_tuple : kitB "int" "tuple" = some false := by decide +kernel
theorem kb_int_dict : kitB "int" "dict" = some false := by decide +kernel
theorem kb_str_int : kitB "str" "int" = some false := by decide +kernel
theorem kb_str_bool : kitB "str" "bool" = some false := by decide +kernel
theorem kb_str_str : kitB "str" "str" = some true := by decide +kernel
theorem kb_str_list : kitB "str" "list" = some false := by decide +kernel
theorem kb_str_tuple : kitB "str" "tuple" = some false := by decide +kernel
theorem kb_str_dict : kitB "str" "dict" = some false := by decide +kernel
theorem kb_list_int : kitB "list" "int" = some false := by decide +kernel
theorem kb_list_bool : kitB "list" "bool" = some false := by decide +kernel
theorem kb_list_str : kitB "list" "str" = some false := by decide +kernel
theorem kb_list_list : kitB "list" "list" = some true := by decide +kernel
theorem kb_list_tuple : kitB "list" "tuple" = some false := by decide +kernel
theorem kb_list_dict : kitB "list" "dict" = some false := by decide +kernel
theorem kb_tuple_int : kitB "tuple" "int" = some false := by decide +kernel
theorem kb_tuple_bool : kitB "tuple" "bool" = some false := by decide +kernel
theorem kb_tuple_str : kitB "tuple" "str" = some false := by decide +kernel
theorem kb_tuple_list : kitB "tuple" "list" = some false := by decide +kernel
theorem kb_tuple_tuple : kitB "tuple" "tuple" = some true := by decide +kernel
theorem kb_tuple_dict : kitB "tuple" "dict" = some false := by decide +kernel
theorem kb_dict_int : kitB "dict" "int" = some false := by decide +kernel
theorem kb_dict_bool : kitB "dict" "bool" = some false := by decide +kernel
theorem kb_dict_str : kitB "dict" "str" = some false := by decide +kernel
theorem kb_dict_list : kitB "dict" "list" = some false := by decide +kernel
theorem kb_dict_tuple : kitB "dict" "tuple" = some false := by decide +kernel
theorem kb_dict_dict : kitB "dict" "dict" = some true := by decide +kernel
theorem rd_isi {K : PySem.W.Frag} {a n : String} {b : Bool} (ty : TyOf K H x (.type a)) (k : kitB a n = some b) (q : Q (.bl b) H) : rIsi K [x, .ty n] H Q := ⟨x, .ty n, .type a, .type n, b, rfl, .ty n, .base ty, kit_ty k, q⟩
theorem pe_globI {X : Cx} {x : Str} {n : Int} {pos : Pos} (hg : Gl X x) (hm : ∃ t, X.mg x = some (.int n t)) (hd : (x == ("__debug__" : Str)) = false := by decide) : PE X (.Name x pos) (tC (.int n)) := by
  obtain ⟨t, e⟩ := hm
  exact pe_glob hg e ⟨t, rfl⟩ hd
theorem if_nf {A B : Prop} (h : A) : if (!false) = true then A else B := iteT h
theorem if_nt {A B : Prop} (h : B) : if (!true) = true then A else B := iteF h
theorem if_nn {A B : Prop} (h : A) : if decide (V.non = V.non) = true then A else B := by rw [decide_eq_true rfl]; exact iteT h
theorem if_nnN {A B : Prop} (h : B) : if (!decide (V.non = V.non)) = true then A else B := by rw [decide_eq_true rfl]; exact iteF h
theorem if_n_int {i : Int} {A B : Prop} (h : B) : if decide (V.int i = V.non) = true then A else B := by rw [decide_eq_false (fun e => nomatch e)]; exact iteF h
theorem if_nN_int {i : Int} {A B : Prop} (h : A) : if (!decide (V.int i = V.non)) = true then A else B := by rw [decide_eq_false (fun e => nomatch e)]; exact iteT h
theorem if_n_bl {b : Bool} {A B : Prop} (h : B) : if decide (V.bl b = V.non) = true then A else B := by rw [decide_eq_false (fun e => nomatch e)]; exact iteF h
theorem if_nN_bl {b : Bool} {A B : Prop} (h : A) : if (!decide (V.bl b = V.non)) = true then A else B := by rw [decide_eq_false (fun e => nomatch e)]; exact iteT h
theorem if_n_str {x : Str} {A B : Prop} (h : B) : if decide (V.str x = V.non) = true then A else B := by rw [decide_eq_false (fun e => nomatch e)]; exact iteF h
theorem if_nN_str {x : Str} {A B : Prop} (h : A) : if (!decide (V.str x = V.non)) = true then A else B := by rw [decide_eq_false (fun e => nomatch e)]; exact iteT h
theorem if_n_ref {a : Addr} {A B : Prop} (h : B) : if decide (V.ref a = V.non) = true then A else B := by rw [decide_eq_false (fun e => nomatch e)]; exact iteF h
theorem if_nN_ref {a : Addr} {A B : Prop} (h : A) : if (!decide (V.ref a = V.non)) = true then A else B := by rw [decide_eq_false (fun e => nomatch e)]; exact iteT h
theorem rd_eqB {i j : Bool} {Q : VK} (h : Q (.bl (decide (V.bl i = V.bl j))) H) : rEq (.bl i) (.bl j) H Q := ⟨rfl, h⟩
theorem rd_neB {i j : Bool} {Q : VK} (h : Q (.bl (!decide (i = j))) H) : rNe (.bl i) (.bl j) H Q := ⟨rfl, by
  have e : decide (V.bl i = V.bl j) = decide (i = j) := by simp
  rw [e]; exact h⟩
theorem rd_eqS {i j : Str} {Q : VK} (h : Q (.bl (decide (V.str i = V.str j))) H) : rEq (.str i) (.str j) H Q := ⟨rfl, h⟩
theorem if_dec {p : Prop} [Decidable p] {A B : Prop} (h1 : p → A) (h2 : ¬ p → B) : if decide p = true then A else B := by
  by_cases c : p
  · rw [if_pos (decide_eq_true c)]; exact h1 c
  · rw [if_neg (fun e => c (of_decide_eq_true e))]; exact h2 c
theorem if_ndec {p : Prop} [Decidable p] {A B : Prop} (h1 : ¬ p → A) (h2 : p → B) : if (!decide p) = true then A else B := by
  by_cases c : p
  · rw [decide_eq_true c]; exact iteF (h2 c)
  · rw [decide_eq_false c]; exact iteT (h1 c)
theorem if_bool {b : Bool} {A B : Prop} (h1 : b = true → A) (h2 : b = false → B) : if b = true then A else B := by
  cases b with
  | true => exact iteT (h1 rfl)
  | false => exact iteF (h2 rfl)
theorem if_nbool {b : Bool} {A B : Prop} (h1 : b = false → A) (h2 : b = true → B) : if (!b) = true then A else B := by
  cases b with
  | true => exact iteF (h2 rfl)
  | false => exact iteT (h1 rfl)
end
/-! ### the store: a list (at S.1) that holds the script's cells (at S.2) and six ints, the only thing that is changed by a draw -/
abbrev Sto := Addr × Addr
def StoreOk (S : Sto) (H : Hp) : Prop := ∃ (cells : List Int) (a b c d e f : Int), S.2 ≠ S.1 ∧ H S.1 = some (.lst [.ref S.2, .int a, .int b, .int c, .int d, .int e, .int f]) ∧ H S.2 = some (.lst (cells.map V.int)) ∧ 0 ≤ a ∧ 0 ≤ e ∧ e < 2147483647 ∧ 0 ≤ f ∧ f < 2147483647
def At (S : Sto) (H : Hp) (p : Addr) (o : HO) : Prop := p ≠ S.1 ∧ H p = some o
def ExS (S : Sto) (H H' : Hp) : Prop := ∀ p o, p ≠ S.1 → H p = some o → H' p = some o
theorem ExS.refl (S : Sto) (H : Hp) : ExS S H H := fun _ _ _ h => h
theorem ExS.trans {S : Sto} {H H1 H2 : Hp} (a : ExS S H H1) (b : ExS S H1 H2) : ExS S H H2 := fun p o n h => b p o n (a p o n h)
theorem ExS.updS {S : Sto} {H : Hp} {o : HO} : ExS S H (upd H S.1 o) := fun p u n h => by rw [upd_ne n]; exact h
theorem ExS.new {S : Sto} {H : Hp} {p : Addr} {o : HO} (h : H p = none) : ExS S H (upd H p o) := fun a u _ e => by rw [upd_ne (ne_of_none e h)]; exact e
theorem ExS.mut {S : Sto} {H H' : Hp} {p : Addr} {o : HO} (e : ExS S H H') (h : H p = none) : ExS S H (upd H' p o) := fun a u n ha => by rw [upd_ne (ne_of_none ha h)]; exact e a u n ha
theorem At.back {S : Sto} {H H' : Hp} {p : Addr} {o : HO} (e : ExS S H H') (h : At S H p o) : At S H' p o := ⟨h.1, e p o h.1 h.2⟩
theorem StoreOk.ne1 {S : Sto} {H : Hp} {p : Addr} (s : StoreOk S H) (h : H p = none) : p ≠ S.1 := by
  obtain ⟨_, _, _, _, _, _, _, _, hs, _⟩ := s
  exact fun e => (by rw [e, hs] at h; cases h)
theorem StoreOk.ne2 {S : Sto} {H : Hp} {p : Addr} (s : StoreOk S H) (h : H p = none) : p ≠ S.2 := by
  obtain ⟨_, _, _, _, _, _, _, _, _, hs, _⟩ := s
  exact fun e => (by rw [e, hs] at h; cases h)
theorem At.new {S : Sto} {H : Hp} {p : Addr} {o : HO} (s : StoreOk S H) (h : H p = none) : At S (upd H p o) p o := ⟨s.ne1 h, upd_same⟩
theorem store_upd {S : Sto} {p : Addr} {H : Hp} {o : HO} (s : StoreOk S H) (n : p ≠ S.1) (n2 : p ≠ S.2) : StoreOk S (upd H p o) := by
  obtain ⟨cells, a, b, c, d, e, f, n', hs, hq, r⟩ := s
  exact ⟨cells, a, b, c, d, e, f, n', by rw [upd_ne (Ne.symm n)]; exact hs, by rw [upd_ne (Ne.symm n2)]; exact hq, r⟩
theorem StoreOk.new {S : Sto} {H : Hp} {p : Addr} {o : HO} (s : StoreOk S H) (h : H p = none) : StoreOk S (upd H p o) := store_upd s (s.ne1 h) (s.ne2 h)
theorem StoreOk.same {S : Sto} {H H' : Hp} (s : StoreOk S H) (e : Same H H') : StoreOk S H' := by
  obtain ⟨cells, a, b, c, d, e', f, n, hs, hq, r⟩ := s
  exact ⟨cells, a, b, c, d, e', f, n, e _ _ hs, e _ _ hq, r⟩
theorem upd_id {H : Hp} {p : Addr} {o : HO} (h : H p = some o) : upd H p o = H := by
  funext b; unfold upd; split
  · rename_i e; rw [e, h]
  · rfl
theorem same_mut {H H' : Hp} {p : Addr} {o : HO} (e : Same H H') (h : H p = none) : Same H (upd H' p o) := fun b x hb => by rw [upd_ne (ne_of_none hb h)]; exact e b x hb
theorem ixN_nat {n : Nat} {i : Int} (h0 : 0 ≤ i) (h1 : i < n) : ixN n i = some i.toNat := by unfold ixN; rw [if_pos h0, if_pos h1]
theorem get_map {α : Type} {xs : List α} {f : α → V} {i : Nat} {x : V} (h : (xs.map f)[i]? = some x) : ∃ n, xs[i]? = some n ∧ x = f n := by
  rw [List.getElem?_map] at h
  cases e : xs[i]? with
  | none => rw [e] at h; cases h
  | some n => rw [e] at h; exact ⟨n, rfl, (Option.some.inj h).symm⟩
theorem flat_ints (ns : List Int) : (ns.map V.int).all flatV = true := by
  rw [List.all_map]; exact List.all_eq_true.mpr fun _ _ => rfl
theorem swap_perm {xs : List V} {i j : Nat} (hi : i < xs.length) (hj : j < xs.length) : ((xs.set i (xs[j]'hj)).set j (xs[i]'hi)).Perm xs := by
  rw [List.perm_iff_count]
  intro a
  rw [List.count_set (by rw [List.length_set]; exact hj), List.count_set hi]
  have hc : ∀ (k : Nat) (hk : k < xs.length), (xs[k] == a) = true → 0 < xs.count a := fun k hk e => List.count_pos_iff.mpr (by rw [← (beq_iff_eq.mp e)]; exact List.getElem_mem hk)
  have h1 := hc i hi
  have h2 := hc j hj
  by_cases e : i = j
  · subst e
    simp only [List.getElem_set_self]
    by_cases q : (xs[i] == a) = true
    · have := h1 q; simp only [q, if_true]; omega
    · simp only [q]; simp
  · rw [List.getElem_set_ne e]
    by_cases q : (xs[i] == a) = true <;> by_cases r : (xs[j] == a) = true <;> simp only [q, r, if_true] <;> simp <;> (try have := h1 q) <;> (try have := h2 r) <;> omega
def InR (n : Int) : Prop := -1000000000000 ≤ n ∧ n ≤ 1000000000000
instance (n : Int) : Decidable (InR n) := by unfold InR; exact inferInstance
def Sc : V → Prop
  | .non => True
  | .bl _ => True
  | .int _ => True
  | .str _ => True
  | _ => False
def isNum : V → Bool
  | .int n => decide (InR n)
  | _ => false
def Bad (v : V) : Prop := (∃ b, v = .bl b) ∨ ∃ n, v = .int n ∧ ¬ InR n
theorem ints_of {ns : List Int} : ∀ {ys : List V}, (∀ y ∈ ys, y ∈ ns.map V.int) → ∃ ms : List Int, ys = ms.map V.int ∧ ∀ m ∈ ms, m ∈ ns
  | [], _ => ⟨[], rfl, fun _ h => by cases h⟩
  | y :: ys, h => by
    obtain ⟨ms, e, hm⟩ := ints_of (ys := ys) fun z hz => h z (List.mem_cons_of_mem _ hz)
    obtain ⟨n, hn, rfl⟩ := List.mem_map.mp (h y List.mem_cons_self)
    refine ⟨n :: ms, by rw [e]; rfl, fun m hm' => ?_⟩
    rcases List.mem_cons.mp hm' with h1 | h1
    · rw [h1]; exact hn
    · exact hm m h1
theorem cut_mem {xs : List V} {lo hi : Option Int} {v : V} (h : v ∈ cutV xs lo hi) : v ∈ xs := by
  unfold cutV at h
  exact List.mem_of_mem_drop (List.mem_of_mem_take h)
theorem cut_to {xs : List V} {k : Nat} : cutV xs none (some (k : Int)) = xs.take k := by
  unfold cutV
  rw [HT.sIx_none, HT.sIx_nat, List.drop_zero, Nat.sub_zero]
  by_cases h : k ≤ xs.length
  · rw [Nat.min_eq_left h]
  · rw [Nat.min_eq_right (by omega), List.take_length, List.take_of_length_le (by omega)]
/-- the same data, to a depth -/
def Alike (H : Hp) : Nat → V → V → Prop
  | 0, x, y => Sc x ∧ x = y
  | n + 1, x, y => (Sc x ∧ x = y) ∨ ∃ (a b : Addr) (xs ys : List V), x = .ref a ∧ y = .ref b ∧ ((H a = some (.lst xs) ∧ H b = some (.lst ys)) ∨ (H a = some (.tup xs) ∧ H b = some (.tup ys))) ∧ xs.length = ys.length ∧ xs.length ≤ 100000 ∧ ∀ (i : Nat) (u v : V), xs[i]? = some u → ys[i]? = some v → Alike H n u v
theorem Alike.same {H H' : Hp} (e : Same H H') : ∀ {n : Nat} {x y : V}, Alike H n x y → Alike H' n x y
  | 0, _, _, h => h
  | n + 1, _, _, h => by
    rcases h with h | ⟨a, b, xs, ys, e1, e2, h, hl, h100, hi⟩
    · exact .inl h
    · refine .inr ⟨a, b, xs, ys, e1, e2, ?_, hl, h100, fun i u v h1 h2 => (hi i u v h1 h2).same e⟩
      rcases h with ⟨h1, h2⟩ | ⟨h1, h2⟩
      · exact .inl ⟨e _ _ h1, e _ _ h2⟩
      · exact .inr ⟨e _ _ h1, e _ _ h2⟩
theorem rd_isiL {H : Hp} {Q : VK} {K : PySem.W.Frag} {p : Addr} {xs : List V} {n : String} {b : Bool} (h : H p = some (.lst xs)) (k : kitB "list" n = some b) (q : Q (.bl b) H) : rIsi K [.ref p, .ty n] H Q := rd_isi (.lst h) k q
theorem rd_isiT {H : Hp} {Q : VK} {K : PySem.W.Frag} {p : Addr} {xs : List V} {n : String} {b : Bool} (h : H p = some (.tup xs)) (k : kitB "tuple" n = some b) (q : Q (.bl b) H) : rIsi K [.ref p, .ty n] H Q := rd_isi (.tup h) k q
theorem rd_isiLT {H : Hp} {x : V} {Q : VK} {K : PySem.W.Frag} {tp : Addr} {b : Bool} {a : String} (h : H tp = some (.tup [.ty "list", .ty "tuple"])) (ty : TyOf K H x (.type a)) (k : PySem.W.kitAny K (.type a) [.type "list", .type "tuple"] = some b) (q : Q (.bl b) H) : rIsiT K [x, .ref tp] H Q :=
  ⟨x, tp, _, .type a, _, b, rfl, h, .cons (.ty _) (.cons (.ty _) .nil), .base ty, k, q⟩
theorem ka_list {K : PySem.W.Frag} : PySem.W.kitAny K (.type "list") [.type "list", .type "tuple"] = some true := kitAny_cons (kit_ty kb_list_list) (fun h => by cases h) (fun _ => rfl)
theorem ka_tuple {K : PySem.W.Frag} : PySem.W.kitAny K (.type "tuple") [.type "list", .type "tuple"] = some true := kitAny_cons (kit_ty kb_tuple_list) (fun _ => kitAny_cons (kit_ty kb_tuple_tuple) (fun h => by cases h) (fun _ => rfl)) (fun h => by cases h)
theorem decTF : decide (true = true) = true := rfl
theorem rd_ixQL {K : PySem.W.Frag} {H : Hp} {p : Addr} {xs : List V} {i : Int} {v : V} {Q : VK} (h : H p = some (.lst xs)) (e : atI xs i = some v) (q : Q v H) : rIx K (.ref p) (.int i) H Q := .inl (rd_ixL h e q)
theorem rd_ixQT {K : PySem.W.Frag} {H : Hp} {p : Addr} {xs : List V} {i : Int} {v : V} {Q : VK} (h : H p = some (.tup xs)) (e : atI xs i = some v) (q : Q v H) : rIx K (.ref p) (.int i) H Q := .inr (.inl ⟨p, xs, i, v, rfl, rfl, .inl (.inl h), e, q⟩)
theorem same_ex {S : Sto} {H H' : Hp} (e : Same H H') : ExS S H H' := fun p o _ h => e p o h
theorem same_new {H : Hp} {p : Addr} {o : HO} (h : H p = none) : Same H (upd H p o) := fun b x e => by rw [upd_ne (ne_of_none e h)]; exact e
theorem sz {n : Nat} (h : n ≤ 100000) : n ≤ sizeLine := Nat.le_trans h (by decide)
theorem sl_of {K : PySem.W.Frag} {H : Hp} {a : Addr} {xs : List V} (h : H a = some (.lst xs)) : SqL K H a xs := .inl (.inl h)
theorem st_of {K : PySem.W.Frag} {H : Hp} {a : Addr} {xs : List V} (h : H a = some (.tup xs)) : SqT K H a xs := .inl (.inl h)

/-! ### min and max of a list of ints with default= -/
def rMinD (K : PySem.W.Frag) : List V → List V → Hp → VK → Prop := fun vs zs H Q => ∃ (a : Addr) (ns : List Int) (d : V), vs = [.ref a] ∧ zs = [d] ∧ SqL K H a (ns.map V.int) ∧ (ns = [] → Q d H) ∧ ∀ m, m ∈ ns → (∀ y ∈ ns, m ≤ y) → Q (.int m) H
def rMaxD (K : PySem.W.Frag) : List V → List V → Hp → VK → Prop := fun vs zs H Q => ∃ (a : Addr) (ns : List Int) (d : V), vs = [.ref a] ∧ zs = [d] ∧ SqL K H a (ns.map V.int) ∧ (ns = [] → Q d H) ∧ ∀ m, m ∈ ns → (∀ y ∈ ns, y ≤ m) → Q (.int m) H
theorem minOf_int : ∀ (xs : List Int) (x : Int), PySem.W.minOf x xs ∈ x :: xs ∧ ∀ y ∈ x :: xs, PySem.W.minOf x xs ≤ y
  | [], x => ⟨List.mem_cons_self, fun y h => by rw [List.mem_singleton.mp h]; exact Int.le_refl x⟩
  | z :: xs, x => by
    have e : PySem.W.minOf x (z :: xs) = PySem.W.minOf (if z < x then z else x) xs := by
      show List.foldl _ _ xs = List.foldl _ _ xs
      congr 1
      show (if decide (z < x) = true then z else x) = _
      by_cases h : z < x <;> simp [h]
    rw [e]
    obtain ⟨h1, h2⟩ := minOf_int xs (if z < x then z else x)
    by_cases h : z < x
    · rw [if_pos h] at h1 h2 ⊢
      refine ⟨List.mem_cons_of_mem _ h1, fun y hy => ?_⟩
      rcases List.mem_cons.mp hy with rfl | hy
      · exact Int.le_trans (h2 _ List.mem_cons_self) (Int.le_of_lt h)
      · exact h2 _ hy
    · rw [if_neg h] at h1 h2 ⊢
      refine ⟨?_, fun y hy => ?_⟩
      · rcases List.mem_cons.mp h1 with q | q
        · rw [q]; exact List.mem_cons_self
        · exact List.mem_cons_of_mem _ (List.mem_cons_of_mem _ q)
      · rcases List.mem_cons.mp hy with rfl | hy
        · exact h2 _ List.mem_cons_self
        · rcases List.mem_cons.mp hy with rfl | hy
          · exact Int.le_trans (h2 _ List.mem_cons_self) (by omega)
          · exact h2 _ (List.mem_cons_of_mem _ hy)
theorem maxOf_int : ∀ (xs : List Int) (x : Int), PySem.W.maxOf x xs ∈ x :: xs ∧ ∀ y ∈ x :: xs, y ≤ PySem.W.maxOf x xs
  | [], x => ⟨List.mem_cons_self, fun y h => by rw [List.mem_singleton.mp h]; exact Int.le_refl x⟩
  | z :: xs, x => by
    have e : PySem.W.maxOf x (z :: xs) = PySem.W.maxOf (if x < z then z else x) xs := by
      show List.foldl _ _ xs = List.foldl _ _ xs
      congr 1
      show (if decide (x < z) = true then z else x) = _
      by_cases h : x < z <;> simp [h]
    rw [e]
    obtain ⟨h1, h2⟩ := maxOf_int xs (if x < z then z else x)
    by_cases h : x < z
    · rw [if_pos h] at h1 h2 ⊢
      refine ⟨List.mem_cons_of_mem _ h1, fun y hy => ?_⟩
      rcases List.mem_cons.mp hy with rfl | hy
      · exact Int.le_trans (Int.le_of_lt h) (h2 _ List.mem_cons_self)
      · exact h2 _ hy
    · rw [if_neg h] at h1 h2 ⊢
      refine ⟨?_, fun y hy => ?_⟩
      · rcases List.mem_cons.mp h1 with q | q
        · rw [q]; exact List.mem_cons_self
        · exact List.mem_cons_of_mem _ (List.mem_cons_of_mem _ q)
      · rcases List.mem_cons.mp hy with rfl | hy
        · exact h2 _ List.mem_cons_self
        · rcases List.mem_cons.mp hy with rfl | hy
          · exact Int.le_trans (by omega) (h2 _ List.mem_cons_self)
          · exact h2 _ (List.mem_cons_of_mem _ hy)
theorem holds_int {h : Heap} {v : Value} {n : Int} (H : PySem.W.Holds h v n) : ∃ t, v = .int n t := by
  obtain ⟨as, r⟩ := H
  cases r
  exact ⟨_, rfl⟩
theorem hold_all {h : Heap} : ∀ {ns : List Int} {its : List Value}, Vals (ns.map V.int) its → PySem.W.HoldAll h its ns
  | [], _, .nil => PySem.W.HoldAll.nil
  | n :: ns, _, .cons r rs => by
    obtain ⟨t, rfl⟩ := r
    exact .cons ⟨_, .int n t⟩ (hold_all rs)
section
variable {X : Cx}
theorem cr_minD (hc : X.calm = true) (hu : X.A.units + 64 < cLine) : CallRK X (.builtin "min") [Str.ofString "default"] (rMinD X.K) := by
  intro pins s σ H vs zs us ws Q I r rz h
  obtain ⟨a, ns, d, rfl, rfl, hs, h0, h⟩ := h
  obtain rfl := Vals.ref1 r
  obtain ⟨w1, rfl, e1⟩ := vals1 rz
  obtain ⟨its, rv, hl, hz⟩ := I.list hs
  refine PySem.W.min_list_datum_default (I.ok.hd hc) hl.isList (hold_all rv) (by show X.A.units + 1 + 0 < cLine; omega) (fun e h' tk k => ?_) (fun y ys i v h' tk e hi hv k => ?_)
  · exact ⟨d, H, I.kept k, e1, h0 e⟩
  · obtain ⟨t, rfl⟩ := holds_int hv
    obtain ⟨m1, m2⟩ := minOf_int ys y
    subst e
    exact ⟨.int _, H, I.kept k, ⟨t, rfl⟩, h _ m1 m2⟩
theorem cr_maxD (hc : X.calm = true) (hu : X.A.units + 64 < cLine) : CallRK X (.builtin "max") [Str.ofString "default"] (rMaxD X.K) := by
  intro pins s σ H vs zs us ws Q I r rz h
  obtain ⟨a, ns, d, rfl, rfl, hs, h0, h⟩ := h
  obtain rfl := Vals.ref1 r
  obtain ⟨w1, rfl, e1⟩ := vals1 rz
  obtain ⟨its, rv, hl, hz⟩ := I.list hs
  refine PySem.W.max_list_datum_default (I.ok.hd hc) hl.isList (hold_all rv) (by show X.A.units + 1 + 0 < cLine; omega) (fun e h' tk k => ?_) (fun y ys i v h' tk e hi hv k => ?_)
  · exact ⟨d, H, I.kept k, e1, h0 e⟩
  · obtain ⟨t, rfl⟩ := holds_int hv
    obtain ⟨m1, m2⟩ := maxOf_int ys y
    subst e
    exact ⟨.int _, H, I.kept k, ⟨t, rfl⟩, h _ m1 m2⟩
/-! ### isinstance of a caught error that has its own dict -/
def rIsX (K : PySem.W.Frag) (cls : Value) (d : Option Addr) (a : Addr) : List V → Hp → VK → Prop := fun xs H Q => ∃ (D dd : Addr) (fs : List (Str × V)) (c : V) (cv : Value) (b : Bool), cls = .ref D ∧ d = some dd ∧ H dd = some (.xd fs) ∧ ExcC K D ∧ xs = [.ref a, c] ∧ (∀ u, RelV c u → u = cv) ∧ PySem.W.kitOne K (.ref D) cv = some b ∧ Q (.bl b) H
def rIsXT (K : PySem.W.Frag) (cls : Value) (d : Option Addr) (a : Addr) : List V → Hp → VK → Prop := fun xs H Q => ∃ (D dd : Addr) (fs : List (Str × V)) (tp : Addr) (cs : List V) (us : List Value) (b : Bool), cls = .ref D ∧ d = some dd ∧ H dd = some (.xd fs) ∧ ExcC K D ∧ xs = [.ref a, .ref tp] ∧ H tp = some (.tup cs) ∧ Paired ClsV cs us ∧ PySem.W.kitAny K (.ref D) us = some b ∧ Q (.bl b) H
theorem inst_exc {a D dd : Addr} {oe : Obj} {pn pins : List (Addr × Obj)} {s : Shared} {σ : L2.St} {H : Hp} {fs : List (Str × V)} (hz : Zc (.ref D) (some dd) oe) (hf : ∃ vs, oe.data = .fields vs) (I : Inv (X.suite a ((a, oe) :: pn)) pins σ H s) (hd : H dd = some (.xd fs)) :
    ∃ od, PySem.W.InstAt s.heap a oe D (some od) := by
  obtain ⟨hget, _⟩ := I.pin (a, oe) (List.mem_append.mpr (.inl List.mem_cons_self))
  obtain ⟨vs, hv⟩ := hf
  obtain ⟨mA, hns, hr⟩ := (show ObjOk X.prog X.w H s.heap dd (.xd fs) from I.hok dd _ hd)
  obtain ⟨od, ho, hl⟩ := lookIn_ns hns
  exact ⟨od, hget, hz.1, by unfold PySem.W.notCls; rw [hv] <;> rfl, by rw [hz.2]; exact ho⟩
theorem kit_exc {K : PySem.W.Frag} {D a : Addr} {oe : Obj} {od : Option Obj} (C : ExcC K D) : PySem.W.KitX K (.ref a) (.ref D) (fun h => PySem.W.InstAt h a oe D od) :=
  PySem.W.kitx_exc (by obtain ⟨cd, hc, _⟩ := PySem.W.any_some C.hd; rw [hc]; rfl) C.hg C.hk C.hs C.ha C.hn C.ht C.hm
theorem call_isX {K : PySem.W.Frag} {cls : Value} {d : Option Addr} {a : Addr} {oe : Obj} {pn : List (Addr × Obj)} (hK : X.K = K) (hz : Zc cls d oe) (hf : ∃ vs, oe.data = .fields vs) : CallR (X.suite a ((a, oe) :: pn)) (.builtin "isinstance") (rIsX K cls d a) := by
  intro pins s σ H xs us Q I r h
  obtain ⟨D, dd, fs, c, cv, b, rfl, rfl, hd, C, rfl, hcv, e, q⟩ := h
  subst hK
  obtain ⟨u1, u2, rfl, r1, r2⟩ := vals2 r
  obtain rfl : u1 = Value.ref a := r1
  obtain rfl := hcv _ r2
  obtain ⟨od, J⟩ := inst_exc hz hf I hd
  exact PySem.W.kia_one (kit_exc C) I.kIn J e (fun z => nomatch z) fun tk => ⟨.bl b, H, I.kept (t' := tk) fun _ _ z => z, rfl, q⟩
theorem call_isXT {K : PySem.W.Frag} {cls : Value} {d : Option Addr} {a : Addr} {oe : Obj} {pn : List (Addr × Obj)} (hK : X.K = K) (hz : Zc cls d oe) (hf : ∃ vs, oe.data = .fields vs) : CallR (X.suite a ((a, oe) :: pn)) (.builtin "isinstance") (rIsXT K cls d a) := by
  intro pins s σ H xs us Q I r h
  obtain ⟨D, dd, fs, tp, cs, ws, b, rfl, rfl, hd, C, rfl, hT, hp, e, q⟩ := h
  subst hK
  obtain ⟨u1, u2, rfl, r1, r2⟩ := vals2 r
  obtain rfl : u1 = Value.ref a := r1
  cases (show u2 = Value.ref tp from r2)
  obtain ⟨od, J⟩ := inst_exc hz hf I hd
  obtain ⟨_, its, rv, o, h1, h2, n, h3⟩ := (show ObjOk X.prog X.w H s.heap tp (.tup cs) from I.hok tp _ hT)
  have e3 := ClsV.all hp rv
  subst e3
  obtain ⟨oc, ood, dt, sl⟩ := o
  simp only at h2 h3
  subst h2 h3
  exact PySem.W.kia_tup (kit_exc C) I.kIn J h1 e (fun z => nomatch z) fun tk => ⟨.bl b, H, I.kept (t' := tk) fun _ _ z => z, rfl, q⟩
end
/-! ### an own error with one field -/
def spInit1 (K : PySem.W.Frag) (fld : Str) : Sp := fun vs H Q _ => ∃ (a C : Addr) (v : V), vs = [.ref a, v] ∧ OexC K C ∧ PySem.W.findIn K (.ref C) fld = some none ∧ H a = some (exo a C none) ∧ ∀ dx, H dx = none → dx ≠ a → Q .non (upd (upd H dx (exd dx [(fld, v)])) a (exo a C (some dx)))
theorem same_made {H1 : Hp} {a dx C : Addr} {fs : List (Str × V)} {e0 : HO} (na : H1 a = none) (nd : H1 dx = none) (ne : dx ≠ a) : Same H1 (upd (del (upd (upd (upd H1 a e0) dx (exd dx fs)) a (exo a C (some dx))) a) dx (.xd fs)) := fun b o hb => by
  have h1 := ne_of_none hb na
  have h2 := ne_of_none hb nd
  rw [upd_ne h2, del_ne h1, upd_ne h1, upd_ne h2, upd_ne h1]
  exact hb
/-- C(v)'s reading, from what is asked of the new error -/
theorem rd_mk1 {K : PySem.W.Frag} {C : Addr} {fld : Str} {v : V} {H1 : Hp} {W : XK} (T : OexC K C) (nf : PySem.W.findIn K (.ref C) fld = some none) (h : ∀ d H', H1 d = none → Same H1 H' → H' d = some (.xd [(fld, v)]) → W (.ref C) (some d) H') :
    [v].length ≤ 1000 ∧ ∀ a, H1 a = none → spInit1 K fld (.ref a :: ([v] ++ [])) (upd H1 a (exo a C none))
      (fun v H2 => v = .non ∧ ∃ (d : Addr) (fs : List (Str × V)), H2 a = some (exo a C (some d)) ∧ H2 d = some (exd d fs) ∧ H1 d = none ∧ W (.ref C) (some d) (upd (del H2 a) d (.xd fs))) (fun _ _ _ => False) := by
  refine ⟨by simp, fun a na => ⟨a, C, v, rfl, T, nf, upd_same, fun dx ndx ne => ?_⟩⟩
  have nd : H1 dx = none := by rw [upd_ne ne] at ndx; exact ndx
  exact ⟨rfl, dx, [(fld, v)], upd_same, by rw [upd_ne ne]; exact upd_same, nd, h dx _ nd (same_made na nd ne) upd_same⟩
structure HasI (P : Program) (w : World) (K : PySem.W.Frag) (mg : Str → Option Value) (base : Heap) (C : Addr) (k : Nat) (ps : List Str) (sp : Sp) : Prop where
  ex : ∃ fI fd, FnOk P w K mg base CX0 k fI fd ps sp ∧ PySem.W.findIn K (.ref C) "__init__" = some (some (.ref fI)) ∧ PySem.W.typeIn K (.ref fI) = some (.type "function") ∧ Binds K fd ps []
structure ErrC (K : PySem.W.Frag) (mg : Str → Option Value) (x : Str) (C : Addr) : Prop where
  gC : mg x = some (.ref C)
  ox : OexC K C
  xf : XfC K C
  ec : ExcC K C
  self : PySem.W.exmOne K (.ref C) (.ref C) = some true
/-- raise C(e, ..) -/
theorem ps_raiseC {X : Cx} {x : Str} {C : Addr} {k j : Nat} {ps : List Str} {sp : Sp} {e : Expr} {es : List Expr} {ta : TA} {W : WX} {p pos pos2 : Pos} (hc : X.calm = true) (tk : Takes X W) (E : ErrC X.K X.mg x C) (I : HasI X.prog X.w X.K X.mg X.base C j ps sp) (hr : Room k X.A) (hj : j + 1 ≤ k) (hg : Gl X x) (ha : PA X (e :: es) ta)
    (hdb : (x == ("__debug__" : Str)) = false := by decide) (he : starEach (e :: es) X.env = (false, eval e X.env) :: starEach es X.env := by rfl) (hpl : (backTo pos (starEach es X.env)).any (·.1) = false := by rfl) :
    PS X (.Raise (some (.Call (.Name x p) (e :: es) [] pos)) none pos2) (fun _ σ H => tMkO C sp [] ta σ H fun cls d H' => W cls d σ H') := by
  obtain ⟨fI, fd, F1, iC, tI, hb⟩ := I.ex
  exact ps_raise hc tk (pmk_oex E.ox iC tI F1 (hr.mono hj) hb .nil pass0 hg E.gC ha hdb he hpl)
theorem rd_mkO {C : Addr} {sp : Sp} {ta : TA} {σ : L2.St} {H : Hp} {Q : XK} (h : ta σ H fun vs H1 => vs.length ≤ 1000 ∧ ∀ a, H1 a = none → sp (.ref a :: (vs ++ [])) (upd H1 a (exo a C none))
  (fun v H2 => v = .non ∧ ∃ (d : Addr) (fs : List (Str × V)), H2 a = some (exo a C (some d)) ∧ H2 d = some (exd d fs) ∧ H1 d = none ∧ Q (.ref C) (some d) (upd (del H2 a) d (.xd fs))) (fun _ _ _ => False)) : tMkO C sp [] ta σ H Q := h
theorem rd_ckw {r : List V → List V → Hp → VK → Prop} {t tk : TA} {σ : L2.St} {H : Hp} {Q : VK} (h : t σ H fun vs H1 => tk σ H1 fun zs H2 => r vs zs H2 Q) : tCKw r t tk σ H Q := h
theorem rd_xf {a C : Addr} {cls : Value} {d : Option Addr} {f : Str} {te : TE} {σ : L2.St} {H : Hp} {Q : VK} (h : te σ H fun x H1 => x = .ref a ∧ cls = .ref C ∧ ∃ (dd : Addr) (fs : List (Str × V)) (v : V), d = some dd ∧ H1 dd = some (.xd fs) ∧ fs.lookup f = some v ∧ Q v H1) : tXf a cls d C f te σ H Q := h
theorem rd_iTup {K : PySem.W.Frag} {te : TE} {σ : L2.St} {H : Hp} {R : It → Hp → Prop} (h : te σ H fun x H1 => ∃ a, x = .ref a ∧ (∃ xs, SqT K H1 a xs) ∧ R (Itt K a) H1) : iTup K te σ H R := h
theorem rd_lc {wi : TI} {g : TG} {tt : TT} {te : TE} {vs : List Nat} {σ : L2.St} {H : Hp} {Q : VK} (h : wi σ H fun J H1 => ∀ D, H1 D = none → ∃ W : Nat → Nat → Hp → Prop, (∃ m, W 0 m (upd H1 D (.lst []))) ∧ ∀ i m H, W i m H →
  (J.stop i H ∧ Q (.ref D) H) ∨ (J.go i H ∧ ∃ Nx : Hp → Prop, (∀ H', Nx H' → ∃ m', m' < m ∧ W (i + 1) m' H') ∧ ∀ x H', J.yld i H x H' → g x (wipe σ vs) H' fun σ2 H2 => wipe σ2 vs = wipe σ vs ∧ tt σ2 H2 fun b H3 =>
    if b = true then te σ2 H3 fun y H4 => ∃ acc, H4 D = some (.lst acc) ∧ acc.length < sizeLine ∧ Nx (upd H4 D (.lst (acc ++ [y]))) else Nx H3)) : tLc wi g tt te vs σ H Q := h
/-! ### defs that raise -/
structure HasX (P : Program) (w : World) (K : PySem.W.Frag) (mg : Str → Option Value) (base : Heap) (x : Str) (k : Nat) (ps : List Str) (sp : Sp) : Prop where
  ex : ∃ f fd, FnOk P w K mg base (L2.CX P w) k f fd ps sp ∧ mg x = some (.ref f) ∧ PySem.W.keepIn K (.ref f) = true ∧ Binds K fd ps []
theorem HasX.mono {P : Program} {w : World} {K : PySem.W.Frag} {mg : Str → Option Value} {base : Heap} {x : Str} {j k : Nat} {ps : List Str} {sp : Sp} (h : HasX P w K mg base x j ps sp) (l : j ≤ k) : HasX P w K mg base x k ps sp := by
  obtain ⟨f, fd, F, r⟩ := h.ex
  exact ⟨f, fd, F.mono l, r⟩
/-- called with keywords alone: g puts the keywords' values (named ks) in the parameters' order -/
structure HasK (P : Program) (w : World) (K : PySem.W.Frag) (mg : Str → Option Value) (base : Heap) (CX : CXT) (x : Str) (k : Nat) (ps ks : List Str) (g : {α : Type} → List α → List α) (sp : Sp) : Prop where
  ex : ∃ f fd, FnOk P w K mg base CX k f fd ps sp ∧ mg x = some (.ref f) ∧ PySem.W.keepIn K (.ref f) = true ∧ (∀ (s : Shared) (ws : List Value), ws.length = ks.length → BindsTo s fd ⟨[], ks.zip ws⟩ (ps.zip (g ws))) ∧ (∀ (vs : List V) (ws : List Value), vs.length = ks.length → Vals vs ws → Vals (g vs) (g ws))
theorem HasK.mono {P : Program} {w : World} {K : PySem.W.Frag} {mg : Str → Option Value} {base : Heap} {CX : CXT} {x : Str} {j k : Nat} {ps ks : List Str} {g : {α : Type} → List α → List α} {sp : Sp} (h : HasK P w K mg base CX x j ps ks g sp) (l : j ≤ k) : HasK P w K mg base CX x k ps ks g sp := by
  obtain ⟨f, fd, F, r⟩ := h.ex
  exact ⟨f, fd, F.mono l, r⟩
def tCallKS (sp : Sp) (n : Nat) (g : List V → List V) (E : L2.St → XK) (tk : TA) : TE := fun σ H Q => tk σ H fun zs H1 => zs.length = n ∧ sp (g zs) H1 Q (E σ)
section
variable {X : Cx} {x : Str} {k : Nat} {ps ks : List Str} {sp : Sp} {e : Expr} {es : List Expr} {t tk : TA} {p pos : Pos} {W : WX} {kws : List Keyword} {CX : CXT}
/-- a call within a try, or in a def that lets errors out -/
theorem pe_callX (h : HasX X.prog X.w X.K X.mg X.base x k ps sp) (hr : Room k X.A) (hg : Gl X x) (tk : Takes X W) (ha : PA X (e :: es) t)
    (hdb : (x == ("__debug__" : Str)) = false := by decide) (he : starEach (e :: es) X.env = (false, eval e X.env) :: starEach es X.env := by rfl) (hpl : (backTo pos (starEach es X.env)).any (·.1) = false := by rfl) :
    PE X (.Call (.Name x p) (e :: es) [] pos) (tCallS sp (WE W) t) := by
  obtain ⟨f, fd, F, hm, hk, hb⟩ := h.ex
  exact pe_callS F hr hg hm hk hb (fun σ => passAt tk σ) ha hdb he hpl
theorem pe_callKS {g : {α : Type} → List α → List α} {E : L2.St → XK} (h : HasK X.prog X.w X.K X.mg X.base CX x k ps ks g sp) (hr : Room k X.A) (hg : Gl X x) (hx : ∀ σ, PassesAt CX X σ (E σ)) (hkw : PK X kws tk)
    (hall : (backToKw pos (keywordEach kws X.env)).all (·.1.isSome) = true := by rfl) (hks : (backToKw pos (keywordEach kws X.env)).filterMap (·.1) = ks := by rfl) (hdb : (x == ("__debug__" : Str)) = false := by decide)
    (hpl : ((backTo pos (starEach [] X.env)).any (·.1) || (backToKw pos (keywordEach kws X.env)).any (·.1.isNone)) = false := by rfl) :
    PE X (.Call (.Name x p) [] kws pos) (tCallKS sp ks.length g E tk) := by
  obtain ⟨f, fd, F, hm, hk, hb, hrel⟩ := h.ex
  refine ⟨fun pins s σ H Q I h => ?_⟩
  refine wpAny_Call_Name_kw (ld_glob I hg hm ?_ hdb)
  refine PySem.W.callWith_KW0 (h₀ := X.base) I.ok.mod.kin hk hall ?_ hpl
  refine thn (hkw.run pos pins s σ H _ I h) fun ws s2 ⟨zs, H2, I2, rz, l2, q2⟩ => ⟨I2.kIn, ?_⟩
  rw [hks]
  have r2 := hrel zs ws l2 rz
  refine wpAny_call (codeAny_mono (F.run X.A X.stack s2 H2 ⟨[], ks.zip ws⟩ (g ws) (g zs) Q (E σ) hr I2.env0 (hb s2 ws (rz.length.symm.trans l2)) r2 q2) fun r s' hq => ?_)
  cases r with
  | error e => exact hx σ pins H2 s2 e s' I2 hq
  | ok fl =>
    cases fl with
    | ret u => exact I2.after hq
    | next => exact False.elim hq
    | brk => exact False.elim hq
    | cont => exact False.elim hq
theorem pass0S : ∀ σ, PassesAt CX0 X σ (fun _ _ _ => False) := fun _ _ _ _ _ _ _ h => h.elim
theorem rd_callS {σ : L2.St} {H : Hp} {E : L2.St → XK} {tA : TA} {Q : VK} (h : tA σ H fun vs H1 => sp vs H1 Q (E σ)) : tCallS sp E tA σ H Q := h
theorem rd_callKS {n : Nat} {g : List V → List V} {σ : L2.St} {H : Hp} {E : L2.St → XK} {tA : TA} {Q : VK} (h : tA σ H fun zs H1 => zs.length = n ∧ sp (g zs) H1 Q (E σ)) : tCallKS sp n g E tA σ H Q := h
end

def topS (i : Nat) : Stmt := PySem.Challenge.pw_outshiners_k05_ceilings_and_numbers.main.body.getD i (.Pass ⟨0, 0, 0, 0⟩)
abbrev s_law_store : Stmt := topS 16
theorem sc_law_store : FnScope ["script"] ["script"] (defScope s_law_store) := ⟨rfl, rfl, rfl, by decide +kernel, rfl, by decide +kernel, by decide +kernel⟩
abbrev s_law_stir : Stmt := topS 17
theorem sc_law_stir : FnScope ["store", "cell", "one", "two"] ["store", "cell"] (defScope s_law_stir) := ⟨rfl, rfl, rfl, by decide +kernel, rfl, by decide +kernel, by decide +kernel⟩
abbrev s_law_take : Stmt := topS 18
theorem sc_law_take : FnScope ["store", "many", "cells", "cell", "rest"] ["store", "many"] (defScope s_law_take) := ⟨rfl, rfl, rfl, by decide +kernel, rfl, by decide +kernel, by decide +kernel⟩
abbrev s_law_pick : Stmt := topS 19
theorem sc_law_pick : FnScope ["store", "items"] ["store", "items"] (defScope s_law_pick) := ⟨rfl, rfl, rfl, by decide +kernel, rfl, by decide +kernel, by decide +kernel⟩
abbrev s_law_shuffled : Stmt := topS 20
theorem sc_law_shuffled : FnScope ["store", "items", "mixed", "k", "j", "held"] ["store", "items"] (defScope s_law_shuffled) := ⟨rfl, rfl, rfl, by decide +kernel, rfl, by decide +kernel, by decide +kernel⟩
abbrev s_law_unlike : Stmt := topS 21
theorem sc_law_unlike : FnScope ["items", "kept", "item"] ["items"] (defScope s_law_unlike) := ⟨rfl, rfl, rfl, by decide +kernel, rfl, by decide +kernel, by decide +kernel⟩
structure Blt (mg : Str → Option Value) : Prop where
  len : mg "len" = none
  int : mg "int" = none
  max : mg "max" = none
  min : mg "min" = none
  range : mg "range" = none
  list' : mg "list" = none
  tuple : mg "tuple" = none
  bool : mg "bool" = none
  sorted : mg "sorted" = none
  isinstance : mg "isinstance" = none
  str : mg "str" = none
  dict : mg "dict" = none
  ValueError : mg "ValueError" = none
  g_LIMIT : ∃ t, mg "LIMIT" = some (.int 1000000000000 t)
local macro_rules | `(tactic| walk_at "sideA") => `(tactic| first | assumption | exact Z.sl_of (by assumption) | exact upd_same | (show (0 : Int) < _; omega) | exact Or.inl ⟨by omega, by omega⟩ | exact Or.inr ⟨by omega, by omega⟩)
local macro_rules | `(tactic| walk_at "tyofA") => `(tactic| first | exact TyOf.int _ | exact TyOf.bl _ | exact TyOf.non | exact TyOf.str _ | (apply TyOf.lst; assumption) | (apply TyOf.tup; assumption))
local macro_rules | `(tactic| walk_at "rd1A") => `(tactic| first
  | with_reducible first
    | refine rd_seq ?_ | refine rd_asg ?_ | refine rd_c ?_ | refine rd_op ?_ | refine rd_cons ?_ | refine rd_nil ?_ | refine rd_cb ?_ | refine rd_call ?_ | refine rd_I0 ?_ | refine rd_eqI ?_ | refine rd_bx ?_ | refine rd_nn ?_ | refine rd_int1 ?_ | refine rd_max2 ?_ | refine rd_min2 ?_
    | refine rd_ret ?_ | refine rd_ifS ?_ | refine rd_test ?_ | refine rd_tB ?_ | refine rd_not ?_ | refine rd_and ?_ | refine rd_or ?_ | refine rd_un ?_ | refine rd_U ?_ | refine rd_next ?_ | refine rd_drop ?_ | refine rd_andV ?_ | refine rd_orV ?_ | refine rd_notV ?_ | refine rd_if ?_ | refine rd_neI ?_
    | refine rd_lst ?_ | refine rd_tup ?_ | refine rd_sl ?_ | refine rd_bm ?_ | refine rd_chain ?_ | refine rd_asgS ?_ | refine iteT ?_ | refine iteF ?_ | refine if_nn ?_ | refine if_nf ?_ | refine if_nt ?_ | refine if_nnN ?_ | refine if_n_int ?_ | refine if_n_bl ?_ | refine if_n_str ?_ | refine if_n_ref ?_ | refine if_nN_int ?_ | refine if_nN_bl ?_ | refine if_nN_str ?_ | refine if_nN_ref ?_ | refine rd_eqB ?_ | refine rd_eqS ?_ | refine rd_neB ?_ | refine rd_part ?_ | refine rd_nopart ?_ | refine rd_for ?_ | refine rd_iRng1 ?_ | refine rd_iList ?_ | refine rd_iTup ?_ | refine rd_lc ?_ | refine rd_callS ?_ | refine rd_callKS ?_ | refine rd_mkO ?_ | refine rd_ckw ?_ | refine rd_xf ?_
    | refine rd_p9 ?_ | refine rd_p11 ?_ | refine rd_p12 ?_ | refine rd_p13 ?_ | refine rd_p18 ?_ | refine rd_p30 ?_ | refine rd_p40 ?_
  | ((with_reducible refine rd_var (v := ?v) ?hv ?_); (case hv => exact rfl))
  | ((with_reducible refine rd_setS (j := ?j) ?he ?_); (case he => exact rfl))
  | ((with_reducible refine rd_isi (a := ?a) (b := ?b) ?ty ?k ?_); (case ty => first | exact TyOf.int _ | exact TyOf.bl _ | exact TyOf.non | exact TyOf.str _); (case k => with_reducible first | exact kb_int_int | exact kb_int_bool | exact kb_int_str | exact kb_int_dict | exact kb_int_list | exact kb_int_tuple | exact kb_bool_int | exact kb_bool_bool | exact kb_bool_str | exact kb_bool_dict | exact kb_bool_list | exact kb_bool_tuple | exact kb_NoneType_int | exact kb_NoneType_bool | exact kb_NoneType_str | exact kb_NoneType_dict | exact kb_NoneType_list | exact kb_NoneType_tuple | exact kb_str_int | exact kb_str_bool | exact kb_str_str | exact kb_str_dict | exact kb_str_list | exact kb_str_tuple))
  | ((with_reducible refine rd_isiL (b := ?b) (by assumption) ?k ?_); (case k => with_reducible first | exact kb_list_int | exact kb_list_bool | exact kb_list_str | exact kb_list_dict | exact kb_list_list | exact kb_list_tuple))
  | ((with_reducible refine rd_isiT (b := ?b) (by assumption) ?k ?_); (case k => with_reducible first | exact kb_tuple_int | exact kb_tuple_bool | exact kb_tuple_str | exact kb_tuple_dict | exact kb_tuple_list | exact kb_tuple_tuple))
  | ((with_reducible refine rd_I ?hc ?_); (case hc => walk_at "sideA"))
  | ((with_reducible refine rd_ixL (xs := ?xs) (v := ?v) ?hh ?he ?_); (case hh => first | exact upd_same | assumption); (case he => exact rfl)))
local macro_rules | `(tactic| walk_at "rdA") => `(tactic| repeat walk_at "rd1A")

section
variable {P : Program} {w : World} {K : PySem.W.Frag} {mg : Str → Option Value} {base : Heap}
/-! ### _law_store -/
def spStore (K : PySem.W.Frag) : Sp := fun vs H Q _ => ∃ a, ∃ ns : List Int, vs = [.ref a] ∧ SqL K H a (ns.map V.int) ∧ ∀ (S : Sto) H', StoreOk S H' → Same H H' → Q (.ref S.1) H'
theorem ok_store {k : Nat} {f : Addr} {fd : FuncData} (F : Fun K "_law_store" "_law_store" s_law_store f fd) (T : Blt mg) : FnOk P w K mg base CX0 (k + 1) f fd ["script"] (spStore K) := by
  refine F.ok sc_law_store (fun vs H Q E h => ?_) (fun cdv A outer s H vs Q E hr h => ?_)
  · obtain ⟨a, ns, rfl, _⟩ := h; rfl
  · obtain ⟨a, ns, rfl, hL, q⟩ := h
    refine ⟨_, (pss_one (ps_ret (pe_lst (pa_cons (pe_callTy call_list_of (by rfl) T.list' (by decide +kernel) (pa_cons (pv 0) pa_nil)) (pa_cons pe_int (pa_cons pe_int (pa_cons pe_int (pa_cons pe_int (pa_cons pe_int (pa_cons pe_int pa_nil)))))))))), ?_⟩
    walk_at "rdA"
    refine ⟨a, _, rfl, .inl hL, fun q0 nq0 => ?_⟩
    walk_at "rdA"
    refine ⟨sz (by simp), fun S nS => ?_⟩
    have n2 : q0 ≠ S := fun e => by rw [← e, upd_same] at nS; cases nS
    refine q (S, q0) _ ⟨ns, 0, 0, 0, 0, 1, 1, n2, upd_same, by rw [upd_ne n2, upd_same], by omega, by omega, by omega, by omega, by omega⟩ ((same_new nq0).trans (same_new nS))
/-! ### _law_stir -/
def spStir : Sp := fun vs H Q _ => ∃ S n q a b c d e f, vs = [.ref S, .int n] ∧ H S = some (.lst [.ref q, .int a, .int b, .int c, .int d, .int e, .int f]) ∧ 0 ≤ e ∧ e < 2147483647 ∧ 0 ≤ f ∧ f < 2147483647 ∧ 
  ∀ d' e' f', 0 ≤ e' → e' < 2147483647 → 0 ≤ f' → f' < 2147483647 → Q .non (upd H S (.lst [.ref q, .int a, .int b, .int c, .int d', .int e', .int f']))
theorem ok_stir {k : Nat} {f : Addr} {fd : FuncData} (F : Fun K "_law_stir" "_law_stir" s_law_stir f fd) (T : Blt mg) : FnOk P w K mg base CX0 (k + 1) f fd ["store", "cell"] spStir := by
  refine F.ok sc_law_stir (fun vs H Q E h => ?_) (fun cdv A outer s H vs Q E hr h => ?_)
  · obtain ⟨S, n, q, a, b, c, d, e, f, rfl, _⟩ := h; rfl
  · obtain ⟨S, n, q, a, b, c, d, e, f', rfl, hs, h1, h2, h3, h4, h⟩ := h
    refine ⟨_, (pss_cons (ps_asg (pe_op op_add (pe_callTy call_int1 (by rfl) T.int (by decide +kernel) (pa_cons (pe_ix ix_list (pv 0) pe_int (fun _ _ => rfl)) pa_nil)) pe_int) (pg_sub (pv 0) pe_int set_list))
 (pss_cons (ps_set (i := 2) sc_law_stir.nd rfl (.inl rfl) (pe_op op_add (pe_op op_add (pe_op op_mul (pe_callTy call_int1 (by rfl) T.int (by decide +kernel) (pa_cons (pe_ix ix_list (pv 0) pe_int (fun _ _ => rfl)) pa_nil)) pe_int) (pe_op op_mod (pe_callTy call_int1 (by rfl) T.int (by decide +kernel) (pa_cons (pv 1) pa_nil)) pe_int)) (pe_callTy call_int1 (by rfl) T.int (by decide +kernel) (pa_cons (pe_ix ix_list (pv 0) pe_int (fun _ _ => rfl)) pa_nil))))
 (pss_cons (ps_asg (pe_op op_mod (pe_callTy call_int1 (by rfl) T.int (by decide +kernel) (pa_cons (pv 2) pa_nil)) pe_int) (pg_sub (pv 0) pe_int set_list))
 (pss_cons (ps_set (i := 3) sc_law_stir.nd rfl (.inl rfl) (pe_op op_add (pe_op op_add (pe_op op_add (pe_op op_mul (pe_callTy call_int1 (by rfl) T.int (by decide +kernel) (pa_cons (pe_ix ix_list (pv 0) pe_int (fun _ _ => rfl)) pa_nil)) pe_int) (pe_op op_mul (pe_callTy call_int1 (by rfl) T.int (by decide +kernel) (pa_cons (pe_ix ix_list (pv 0) pe_int (fun _ _ => rfl)) pa_nil)) pe_int)) (pe_op op_mod (pe_callTy call_int1 (by rfl) T.int (by decide +kernel) (pa_cons (pv 1) pa_nil)) pe_int)) (pe_callTy call_int1 (by rfl) T.int (by decide +kernel) (pa_cons (pe_ix ix_list (pv 0) pe_int (fun _ _ => rfl)) pa_nil))))
 (pss_one (ps_asg (pe_op op_mod (pe_callTy call_int1 (by rfl) T.int (by decide +kernel) (pa_cons (pv 3) pa_nil)) pe_int) (pg_sub (pv 0) pe_int set_list))))))), ?_⟩
    rw [← upd_id hs]
    walk_at "rdA"
    refine h _ _ _ ?_ ?_ ?_ ?_ <;> omega
/-! ### _law_take -/
def spTake : Sp := fun vs H Q _ => ∃ (S : Sto), ∃ m, vs = [.ref S.1, .int m] ∧ m < 2 ^ 200 ∧ StoreOk S H ∧ ∀ r H', 0 ≤ r → r < max 1 m → StoreOk S H' → ExS S H H' → Q (.int r) H'
theorem ok_take {k : Nat} {f : Addr} {fd : FuncData} (F : Fun K "_law_take" "_law_take" s_law_take f fd) (T : Blt mg) (H_law_stir : Has P w K mg base "_law_stir" k ["store", "cell"] spStir) : FnOk P w K mg base CX0 (k + 1) f fd ["store", "many"] spTake := by
  refine F.ok sc_law_take (fun vs H Q E h => ?_) (fun cdv A outer s H vs Q E hr h => ?_)
  · obtain ⟨S, m, rfl, _⟩ := h; rfl
  · obtain ⟨S, m, rfl, hm, hS, h⟩ := h
    refine ⟨_, (pss_cons (ps_set (i := 1) sc_law_take.nd rfl (.inl rfl) (pe_callB (call_max2 rfl) (by rfl) T.max (by decide +kernel) (pa_cons pe_int (pa_cons (pe_callTy call_int1 (by rfl) T.int (by decide +kernel) (pa_cons (pv 1) pa_nil)) pa_nil))))
 (pss_cons (ps_set (i := 2) sc_law_take.nd rfl (.inl rfl) (pe_ix ix_list (pv 0) pe_int (fun _ _ => rfl)))
 (C8.pss_cut (ps_if (PW.pt (pw_and (pt_cmpR op_eq (pe_callTy call_int1 (by rfl) T.int (by decide +kernel) (pa_cons (pe_ix ix_list (pv 0) pe_int (fun _ _ => rfl)) pa_nil)) pe_int (nomark _)) (pw_and (pt_cmpR op_eq (pe_callTy call_int1 (by rfl) T.int (by decide +kernel) (pa_cons (pe_ix ix_list (pv 0) pe_int (fun _ _ => rfl)) pa_nil)) pe_int (nomark _)) (pw_and1 (pt_cmpR op_lt (pe_callTy call_int1 (by rfl) T.int (by decide +kernel) (pa_cons (pe_ix ix_list (pv 0) pe_int (fun _ _ => rfl)) pa_nil)) (pe_callB call_len_seq (by rfl) T.len (by decide +kernel) (pa_cons (pv 2) pa_nil)) (nomark _)))))) (pss_cons (ps_set (i := 3) sc_law_take.nd rfl (.inl rfl) (pe_callTy call_int1 (by rfl) T.int (by decide +kernel) (pa_cons (pe_ix ix_list (pv 2) (pe_callTy call_int1 (by rfl) T.int (by decide +kernel) (pa_cons (pe_ix ix_list (pv 0) pe_int (fun _ _ => rfl)) pa_nil)) (fun _ _ => rfl)) pa_nil)))
 (pss_cons (ps_asg (pe_op op_add (pe_callTy call_int1 (by rfl) T.int (by decide +kernel) (pa_cons (pe_ix ix_list (pv 0) pe_int (fun _ _ => rfl)) pa_nil)) pe_int) (pg_sub (pv 0) pe_int set_list))
 (pss_cons (ps_asg pe_int (pg_sub (pv 0) pe_int set_list))
 (pss_cons (ps_expr (pe_callH H_law_stir hr (by rfl) (pa_cons (pv 0) (pa_cons (pv 3) pa_nil))))
 (pss_one (ps_if (pt_cmpR op_ge (pv 3) (pe_op op_pow pe_int pe_int) (nomark _)) (pss_cons (ps_asg (pv 3) (pg_sub (pv 0) pe_int set_list))
 (pss_one (ps_asg pe_int (pg_sub (pv 0) pe_int set_list)))) pss_nil)))))) pss_nil)
 (pss_cons (ps_set (i := 4) sc_law_take.nd rfl (.inl rfl) (pe_callTy call_int1 (by rfl) T.int (by decide +kernel) (pa_cons (pe_ix ix_list (pv 0) pe_int (fun _ _ => rfl)) pa_nil)))
 (pss_cons (ps_if (pt_cmpR op_gt (pv 4) pe_int (nomark _)) (pss_cons (ps_asg (pe_op op_fdivW (pv 4) (pv 1)) (pg_sub (pv 0) pe_int set_list))
 (pss_one (ps_ret (pe_op op_mod (pe_callTy call_int1 (by rfl) T.int (by decide +kernel) (pa_cons (pv 4) pa_nil)) (pv 1))))) pss_nil)
 (pss_cons (ps_expr (pe_callH H_law_stir hr (by rfl) (pa_cons (pv 0) (pa_cons pe_int pa_nil))))
 (pss_cons (ps_asg (pe_callB (call_max2 rfl) (by rfl) T.max (by decide +kernel) (pa_cons pe_int (pa_cons (pe_op op_sub (pe_callTy call_int1 (by rfl) T.int (by decide +kernel) (pa_cons (pe_ix ix_list (pv 0) pe_int (fun _ _ => rfl)) pa_nil)) pe_int) pa_nil))) (pg_sub (pv 0) pe_int set_list))
 (pss_one (ps_ret (pe_op op_mod (pe_callTy call_int1 (by rfl) T.int (by decide +kernel) (pa_cons (pe_op op_add (pe_op op_mul (pe_callTy call_int1 (by rfl) T.int (by decide +kernel) (pa_cons (pe_ix ix_list (pv 0) pe_int (fun _ _ => rfl)) pa_nil)) pe_int) (pe_callTy call_int1 (by rfl) T.int (by decide +kernel) (pa_cons (pe_ix ix_list (pv 0) pe_int (fun _ _ => rfl)) pa_nil))) pa_nil)) (pv 1))))))))))), ?_⟩
    obtain ⟨S, q⟩ := S
    obtain ⟨cells, a, b, c, d, e, f', nq, hs, hq, h0, h1, h2, h3, h4⟩ := hS
    dsimp only at nq hs hq ⊢
    rw [← upd_id hs]
    walk_at "rdA"
    obtain ⟨M, hM⟩ : ∃ M, M = (if m > 1 then m else 1) := ⟨_, rfl⟩
    rw [← hM]
    have hM1 : 1 ≤ M := by rw [hM]; split <;> omega
    have hM2 : M = max 1 m := by rw [hM]; split <;> omega
    have hM3 : M < 2 ^ 200 := by rw [hM]; split <;> omega
    clear hM
    refine rd_cut (fun σ' H' => ∃ a b c d e f y, σ' = [some (.ref S), some (.int M), some (.ref q), y, none] ∧ H' = upd H S (.lst [.ref q, .int a, .int b, .int c, .int d, .int e, .int f]) ∧ 0 ≤ a ∧ 0 ≤ e ∧ e < 2147483647 ∧ 0 ≤ f ∧ f < 2147483647) ?_ ?_
    · walk_at "rdA"
      refine if_dec (fun hb => ?_) (fun hb => ?_)
      · walk_at "rdA"
        refine if_dec (fun hc => ?_) (fun hc => ?_)
        · walk_at "rdA"
          refine rd_seqL (by rw [upd_ne nq]; exact hq) ?_
          walk_at "rdA"
          refine if_dec (fun hl => ?_) (fun hl => ?_)
          · obtain ⟨n, _, _, en⟩ := atI_ints h0 (by simpa using hl)
            walk_at "rdA"
            refine rd_ixL (by rw [upd_ne nq]; exact hq) en ?_
            walk_at "rdA"
            refine ⟨S, n, q, a + 1, b, 3, d, e, f', rfl, upd_same, h1, h2, h3, h4, fun d' e' f'' g1 g2 g3 g4 => ?_⟩
            rw [upd_upd]
            walk_at "rdA"
            refine if_dec (fun hn => ?_) (fun hn => ?_)
            · walk_at "rdA"
              exact ⟨_, _, _, _, _, _, _, rfl, rfl, by omega, g1, g2, g3, g4⟩
            · walk_at "rdA"
              exact ⟨_, _, _, _, _, _, _, rfl, rfl, by omega, g1, g2, g3, g4⟩
          · walk_at "rdA"
            exact ⟨_, _, _, _, _, _, _, rfl, rfl, h0, h1, h2, h3, h4⟩
        · walk_at "rdA"
          exact ⟨_, _, _, _, _, _, _, rfl, rfl, h0, h1, h2, h3, h4⟩
      · walk_at "rdA"
        exact ⟨_, _, _, _, _, _, _, rfl, rfl, h0, h1, h2, h3, h4⟩
    · rintro σ' H' ⟨a, b, c, d, e, f, y, rfl, rfl, h0, h1, h2, h3, h4⟩
      have fin : ∀ (r a b c d e f : Int), 0 ≤ r → r < M → 0 ≤ a → 0 ≤ e → e < 2147483647 → 0 ≤ f → f < 2147483647 → Q (.int r) (upd H S (.lst [.ref q, .int a, .int b, .int c, .int d, .int e, .int f])) := fun r a b c d e f r0 r1 h0 h1 h2 h3 h4 =>
        h r _ r0 (by omega) ⟨cells, a, b, c, d, e, f, nq, upd_same, by rw [upd_ne nq]; exact hq, h0, h1, h2, h3, h4⟩ (ExS.updS (S := (S, q)))
      walk_at "rdA"
      refine if_dec (fun hb => ?_) (fun hb => ?_)
      · walk_at "rdA"
        refine rd_I (wide_div (b := 200) (by omega) (by omega) (by omega) (by omega)) ?_
        walk_at "rdA"
        exact fin _ _ _ _ _ _ _ (Int.emod_nonneg _ (by omega)) (Int.emod_lt_of_pos _ (by omega)) h0 h1 h2 h3 h4
      · walk_at "rdA"
        refine ⟨S, 0, q, a, b, c, d, e, f, rfl, upd_same, h1, h2, h3, h4, fun d' e' f'' g1 g2 g3 g4 => ?_⟩
        rw [upd_upd]
        walk_at "rdA"
        exact fin _ _ _ _ _ _ _ (Int.emod_nonneg _ (by omega)) (Int.emod_lt_of_pos _ (by omega)) h0 g1 g2 g3 g4
/-! ### _law_pick -/
def spPick : Sp := fun vs H Q _ => ∃ (S : Sto), ∃ a xs, vs = [.ref S.1, .ref a] ∧ StoreOk S H ∧ At S H a (.lst xs) ∧ 0 < xs.length ∧ xs.length < 1000000 ∧ ∀ v H', v ∈ xs → StoreOk S H' → ExS S H H' → Q v H'
theorem ok_pick {k : Nat} {f : Addr} {fd : FuncData} (F : Fun K "_law_pick" "_law_pick" s_law_pick f fd) (T : Blt mg) (H_law_take : Has P w K mg base "_law_take" k ["store", "many"] spTake) : FnOk P w K mg base CX0 (k + 1) f fd ["store", "items"] spPick := by
  refine F.ok sc_law_pick (fun vs H Q E h => ?_) (fun cdv A outer s H vs Q E hr h => ?_)
  · obtain ⟨S, a, xs, rfl, _⟩ := h; rfl
  · obtain ⟨S, a, xs, rfl, hS, hA, l0, l1, h⟩ := h
    refine ⟨_, (pss_one (ps_ret (pe_ix ix_list (pv 1) (pe_callH H_law_take hr (by rfl) (pa_cons (pv 0) (pa_cons (pe_callB call_len_seq (by rfl) T.len (by decide +kernel) (pa_cons (pv 1) pa_nil)) pa_nil))) (fun _ _ => rfl)))), ?_⟩
    walk_at "rdA"
    refine rd_seqL hA.2 ?_
    walk_at "rdA"
    refine ⟨S, _, rfl, by omega, hS, fun r H' r0 r1 hS' he => ?_⟩
    obtain ⟨hb, e⟩ := atI_get (xs := xs) (i := r) r0 (by omega)
    exact rd_ixL (he _ _ hA.1 hA.2) e (h _ _ (List.getElem_mem hb) hS' he)
/-! ### _law_shuffled -/
def spShuffled : Sp := fun vs H Q _ => ∃ (S : Sto), ∃ a xs, vs = [.ref S.1, .ref a] ∧ StoreOk S H ∧ At S H a (.lst xs) ∧ xs.length < 1000000 ∧ ∀ p ys H', ys.Perm xs → H p = none → At S H' p (.lst ys) → StoreOk S H' → ExS S H H' → Q (.ref p) H'
theorem ok_shuffled {k : Nat} {f : Addr} {fd : FuncData} (F : Fun K "_law_shuffled" "_law_shuffled" s_law_shuffled f fd) (T : Blt mg) (H_law_take : Has P w K mg base "_law_take" k ["store", "many"] spTake) : FnOk P w K mg base CX0 (k + 1) f fd ["store", "items"] spShuffled := by
  refine F.ok sc_law_shuffled (fun vs H Q E h => ?_) (fun cdv A outer s H vs Q E hr h => ?_)
  · obtain ⟨S, a, xs, rfl, _⟩ := h; rfl
  · obtain ⟨S, a, xs, rfl, hS, hA, l1, h⟩ := h
    refine ⟨_, (pss_cons (ps_set (i := 2) sc_law_shuffled.nd rfl (.inl rfl) (pe_callTy call_list_of (by rfl) T.list' (by decide +kernel) (pa_cons (pv 1) pa_nil)))
 (pss_cons (ps_for PassesOwn.never rfl (pi_range1 rfl T.range (pa_cons (pe_callB call_len_seq (by rfl) T.len (by decide +kernel) (pa_cons (pv 2) pa_nil)) pa_nil)) (pg_name (i := 3) sc_law_shuffled.nd rfl (.inl rfl)) (pss_cons (ps_set (i := 4) sc_law_shuffled.nd rfl (.inl rfl) (pe_op op_add (pv 3) (pe_callH H_law_take hr (by rfl) (pa_cons (pv 0) (pa_cons (pe_op op_sub (pe_callB call_len_seq (by rfl) T.len (by decide +kernel) (pa_cons (pv 2) pa_nil)) (pv 3)) pa_nil)))))
 (pss_cons (ps_set (i := 5) sc_law_shuffled.nd rfl (.inl rfl) (pe_ix ix_list (pv 2) (pv 3) (fun _ _ => rfl)))
 (pss_cons (ps_asg (pe_ix ix_list (pv 2) (pv 4) (fun _ _ => rfl)) (pg_sub (pv 2) (pv 3) set_list))
 (pss_one (ps_asg (pv 5) (pg_sub (pv 2) (pv 4) set_list)))))))
 (pss_one (ps_ret (pv 2))))), ?_⟩
    walk_at "rdA"
    refine rd_seqL hA.2 fun p np => ?_
    walk_at "rdA"
    refine rd_seqL upd_same ?_
    walk_at "rdA"
    have pS : p ≠ S.1 := hS.ne1 np
    have pS2 : p ≠ S.2 := hS.ne2 np
    refine ⟨_, rfl, by omega, by omega, for_rng (fun i σ H' => ∃ ys y3 y4 y5, σ = [some (.ref S.1), some (.ref a), some (.ref p), y3, y4, y5] ∧ ys.Perm xs ∧ H' p = some (.lst ys) ∧ StoreOk S H' ∧ ExS S H H') ⟨xs, _, _, _, rfl, .refl _, upd_same, hS.new np, .new np⟩ ?_ ?_⟩
    · rintro i σ H' hi ⟨ys, y3, y4, y5, rfl, hp, eH, hS', hE⟩
      have hl : ys.length = xs.length := hp.length_eq
      have hi' : i < xs.length := by simpa using hi
      walk_at "rdA"
      refine rd_seqL eH ?_
      walk_at "rdA"
      refine ⟨S, _, rfl, by omega, hS', fun r H2 r0 r1 hS2 hE2 => ?_⟩
      have eH2 := hE2 _ _ pS eH
      walk_at "rdA"
      obtain ⟨hb, e⟩ := atI_get (xs := ys) (i := (i : Int)) (by omega) (by omega)
      refine rd_ixL eH2 e ?_
      walk_at "rdA"
      obtain ⟨hb2, e2⟩ := atI_get (xs := ys) (i := (i : Int) + r) (by omega) (by omega)
      refine rd_ixL eH2 e2 ?_
      walk_at "rdA"
      refine rd_setL eH2 (ixN_nat (by omega) (by omega)) ?_
      walk_at "rdA"
      refine rd_setL upd_same (ixN_nat (by omega) (by rw [List.length_set]; omega)) ?_
      rw [upd_upd]
      walk_at "rdA"
      refine ⟨_, _, _, _, rfl, (swap_perm hb hb2).trans hp, upd_same, store_upd hS2 pS pS2, (hE.trans hE2).mut np⟩
    · rintro σ H' ⟨ys, y3, y4, y5, rfl, hp, eH, hS', hE⟩
      walk_at "rdA"
      exact h p ys H' hp np ⟨pS, eH⟩ hS' hE
/-! ### _law_unlike -/
def spUnlike : Sp := fun vs H Q _ => ∃ a, ∃ ns : List Int, vs = [.ref a] ∧ H a = some (.lst (ns.map V.int)) ∧ ns.length < 100000 ∧ ∀ p, ∀ ms : List Int, ∀ H', (∀ m ∈ ms, m ∈ ns) → ms.length ≤ ns.length → H p = none → H' p = some (.lst (ms.map V.int)) → Same H H' → Q (.ref p) H'
theorem ok_unlike {k : Nat} {f : Addr} {fd : FuncData} (F : Fun K "_law_unlike" "_law_unlike" s_law_unlike f fd) (T : Blt mg) : FnOk P w K mg base CX0 (k + 1) f fd ["items"] spUnlike := by
  refine F.ok sc_law_unlike (fun vs H Q E h => ?_) (fun cdv A outer s H vs Q E hr h => ?_)
  · obtain ⟨a, ns, rfl, _⟩ := h; rfl
  · obtain ⟨a, ns, rfl, hA, l1, h⟩ := h
    refine ⟨_, (pss_cons (ps_set (i := 1) sc_law_unlike.nd rfl (.inl rfl) (pe_lst pa_nil))
 (pss_cons (ps_for PassesOwn.never rfl (pi_list (pv 0)) (pg_name (i := 2) sc_law_unlike.nd rfl (.inl rfl)) (pss_one (ps_if (pt_cmpR op_notIn_seq (pv 2) (pv 1) (by rfl)) (pss_one (ps_expr (pe_bm PySem.F.plainAttrs_list PySem.F.slot_list_append PySem.F.type_list_append mt_append (pv 1) (pa_cons (pv 2) pa_nil)))) pss_nil)))
 (pss_one (ps_ret (pv 1))))), ?_⟩
    walk_at "rdA"
    refine ⟨Nat.zero_le _, fun p np => ?_⟩
    walk_at "rdA"
    refine ⟨a, rfl, ⟨_, sl_of (same_new np _ _ hA)⟩, for_lst (xs := ns.map V.int) (fun i σ H' => ∃ ms : List Int, ∃ y2, σ = [some (.ref a), some (.ref p), y2] ∧ (∀ m ∈ ms, m ∈ ns) ∧ ms.length ≤ i ∧ H' p = some (.lst (ms.map V.int)) ∧ Same H H') ⟨[], _, rfl, by simp, by simp, upd_same, same_new np⟩ ?_ ?_ ?_⟩
    · rintro i σ H' ⟨ms, y2, rfl, _, _, _, hE⟩
      exact hE _ _ hA
    · rintro i x σ H' hi ⟨ms, y2, rfl, hm, hl, eH, hE⟩
      obtain ⟨n, hn, rfl⟩ := get_map hi
      have hil : i < ns.length := by
        have := (List.getElem?_eq_some_iff.mp hn).1; exact this
      walk_at "rdA"
      refine ⟨p, _, rfl, .inl (sl_of eH), rfl, flat_ints _, ?_⟩
      walk_at "rdA"
      refine if_bool (fun hb => ?_) (fun hb => ?_)
      · walk_at "rdA"
        refine ⟨.inl ⟨rfl, _, .inl (.inl eH)⟩, ?_⟩
        walk_at "rdA"
        refine ⟨p, _, _, rfl, rfl, eH, ?_, ?_⟩
        · rw [List.length_map]; exact Nat.lt_of_lt_of_le (by omega : ms.length < 100000) (by decide)
        · walk_at "rdA"
          refine ⟨ms ++ [n], _, rfl, ?_, ?_, ?_, ?_⟩
          · intro m hm'
            rcases List.mem_append.mp hm' with h1 | h1
            · exact hm m h1
            · rw [List.mem_singleton.mp h1]; exact List.mem_of_getElem? hn
          · rw [List.length_append]; simp; omega
          · rw [upd_same, List.map_append]; rfl
          · exact same_mut hE np
      · walk_at "rdA"
        exact ⟨ms, _, rfl, hm, by omega, eH, hE⟩
    · rintro σ H' ⟨ms, y2, rfl, hm, hl, eH, hE⟩
      walk_at "rdA"
      exact h p ms H' hm (by simpa using hl) np eH hE
end

abbrev s_law_number : Stmt := topS 22
theorem sc_law_number : FnScope ["store", "kind"] ["store"] (defScope s_law_number) := ⟨rfl, rfl, rfl, by decide +kernel, rfl, by decide +kernel, by decide +kernel⟩
abbrev s_law_clamped : Stmt := topS 23
theorem sc_law_clamped : FnScope ["number"] ["number"] (defScope s_law_clamped) := ⟨rfl, rfl, rfl, by decide +kernel, rfl, by decide +kernel, by decide +kernel⟩
abbrev s_law_pool : Stmt := topS 24
theorem sc_law_pool : FnScope ["store", "many", "kind", "ends", "start", "step", "numbers", "k"] ["store"] (defScope s_law_pool) := ⟨rfl, rfl, rfl, by decide +kernel, rfl, by decide +kernel, by decide +kernel⟩

section
variable {P : Program} {w : World} {K : PySem.W.Frag} {mg : Str → Option Value} {base : Heap}
/-! ### _law_number -/
def spNumber : Sp := fun vs H Q _ => ∃ S : Sto, vs = [.ref S.1] ∧ StoreOk S H ∧ ∀ n H', InR n → StoreOk S H' → ExS S H H' → Q (.int n) H'
theorem ok_number {k : Nat} {f : Addr} {fd : FuncData} (F : Fun K "_law_number" "_law_number" s_law_number f fd) (T : Blt mg) (H_law_take : Has P w K mg base "_law_take" k ["store", "many"] spTake) (H_law_pick : Has P w K mg base "_law_pick" k ["store", "items"] spPick) : FnOk P w K mg base CX0 (k + 1) f fd ["store"] spNumber := by
  refine F.ok sc_law_number (fun vs H Q E h => ?_) (fun cdv A outer s H vs Q E hr h => ?_)
  · obtain ⟨S, rfl, _⟩ := h; rfl
  · obtain ⟨S, rfl, hS, h⟩ := h
    refine ⟨_, (pss_cons (ps_set (i := 1) sc_law_number.nd rfl (.inl rfl) (pe_callH H_law_take hr (by rfl) (pa_cons (pv 0) (pa_cons pe_int pa_nil))))
 (pss_cons (ps_if (pt_cmpR op_eq (pv 1) pe_int (nomark _)) (pss_one (ps_ret (pe_op op_sub (pe_callH H_law_take hr (by rfl) (pa_cons (pv 0) (pa_cons pe_int pa_nil))) pe_int))) pss_nil)
 (pss_cons (ps_if (pt_cmpR op_eq (pv 1) pe_int (nomark _)) (pss_one (ps_ret (pe_callH H_law_pick hr (by rfl) (pa_cons (pv 0) (pa_cons (pe_lst (pa_cons pe_int (pa_cons pe_int (pa_cons (pe_un un_neg pe_int) (pa_cons (pe_op op_pow pe_int pe_int) (pa_cons (pe_un un_neg (pe_op op_pow pe_int pe_int)) (pa_cons (pe_op op_sub (pe_op op_pow pe_int pe_int) pe_int) (pa_cons (pe_op op_sub pe_int (pe_op op_pow pe_int pe_int)) (pa_cons pe_int pa_nil))))))))) pa_nil))))) pss_nil)
 (pss_one (ps_ret (pe_op op_sub (pe_callH H_law_take hr (by rfl) (pa_cons (pv 0) (pa_cons (pe_op op_add (pe_op op_mul pe_int (pe_op op_pow pe_int pe_int)) pe_int) pa_nil))) (pe_op op_pow pe_int pe_int))))))), ?_⟩
    walk_at "rdA"
    refine ⟨S, 3, rfl, by omega, hS, fun r H1 r0 r1 hS1 e1 => ?_⟩
    walk_at "rdA"
    refine if_dec (fun hk => ?_) (fun hk => ?_)
    · walk_at "rdA"
      refine ⟨S, 19, rfl, by omega, hS1, fun r2 H2 _ _ hS2 e2 => ?_⟩
      walk_at "rdA"
      exact h _ _ ⟨by omega, by omega⟩ hS2 (e1.trans e2)
    · walk_at "rdA"
      refine if_dec (fun hk => ?_) (fun hk => ?_)
      · walk_at "rdA"
        refine ⟨sz (by simp), fun p np => ?_⟩
        walk_at "rdA"
        refine ⟨S, p, _, rfl, hS1.new np, .new hS1 np, by simp, by simp, fun v H2 hv hS2 e2 => ?_⟩
        have e3 := e1.trans ((ExS.new np).trans e2)
        simp only [List.mem_cons, List.not_mem_nil, or_false] at hv
        rcases hv with rfl | rfl | rfl | rfl | rfl | rfl | rfl | rfl <;> exact h _ _ ⟨by omega, by omega⟩ hS2 e3
      · walk_at "rdA"
        refine ⟨S, _, rfl, by omega, hS1, fun r2 H2 _ _ hS2 e2 => ?_⟩
        walk_at "rdA"
        exact h _ _ ⟨by omega, by omega⟩ hS2 (e1.trans e2)
/-! ### _law_clamped -/
def spClamped : Sp := fun vs H Q _ => ∃ n, vs = [.int n] ∧ ∀ m, InR m → (InR n → m = n) → Q (.int m) H
theorem ok_clamped {k : Nat} {f : Addr} {fd : FuncData} (F : Fun K "_law_clamped" "_law_clamped" s_law_clamped f fd) (T : Blt mg) : FnOk P w K mg base CX0 (k + 1) f fd ["number"] spClamped := by
  refine F.ok sc_law_clamped (fun vs H Q E h => ?_) (fun cdv A outer s H vs Q E hr h => ?_)
  · obtain ⟨n, rfl, _⟩ := h; rfl
  · obtain ⟨n, rfl, h⟩ := h
    refine ⟨_, (pss_one (ps_ret (pe_callB (call_max2 rfl) (by rfl) T.max (by decide +kernel) (pa_cons (pe_un un_neg (pe_op op_pow pe_int pe_int)) (pa_cons (pe_callB (call_min2 rfl) (by rfl) T.min (by decide +kernel) (pa_cons (pe_op op_pow pe_int pe_int) (pa_cons (pv 0) pa_nil))) pa_nil))))), ?_⟩
    walk_at "rdA"
    refine h _ ?_ (fun hn => ?_)
    · unfold InR; split <;> split <;> omega
    · unfold InR at hn; split <;> split <;> omega
/-! ### _law_pool -/
def spPool : Sp := fun vs H Q _ => ∃ S : Sto, vs = [.ref S.1] ∧ StoreOk S H ∧ ∀ p, ∀ ns : List Int, ∀ H', (∀ n ∈ ns, InR n) → 2 ≤ ns.length → ns.length ≤ 6 → At S H' p (.lst (ns.map V.int)) → StoreOk S H' → ExS S H H' → Q (.ref p) H'
theorem ok_pool {k : Nat} {f : Addr} {fd : FuncData} (F : Fun K "_law_pool" "_law_pool" s_law_pool f fd) (T : Blt mg) (H_law_take : Has P w K mg base "_law_take" k ["store", "many"] spTake) (H_law_shuffled : Has P w K mg base "_law_shuffled" k ["store", "items"] spShuffled) : FnOk P w K mg base CX0 (k + 1) f fd ["store"] spPool := by
  refine F.ok sc_law_pool (fun vs H Q E h => ?_) (fun cdv A outer s H vs Q E hr h => ?_)
  · obtain ⟨S, rfl, _⟩ := h; rfl
  · obtain ⟨S, rfl, hS, h⟩ := h
    refine ⟨_, (pss_cons (ps_set (i := 1) sc_law_pool.nd rfl (.inl rfl) (pe_op op_add pe_int (pe_callH H_law_take hr (by rfl) (pa_cons (pv 0) (pa_cons pe_int pa_nil)))))
 (pss_cons (ps_set (i := 2) sc_law_pool.nd rfl (.inl rfl) (pe_callH H_law_take hr (by rfl) (pa_cons (pv 0) (pa_cons pe_int pa_nil))))
 (pss_cons (ps_if (pt_cmpR op_eq (pv 2) pe_int (nomark _)) (pss_cons (ps_set (i := 3) sc_law_pool.nd rfl (.inl rfl) (pe_lst (pa_cons (pe_un un_neg (pe_op op_pow pe_int pe_int)) (pa_cons (pe_op op_sub pe_int (pe_op op_pow pe_int pe_int)) (pa_cons (pe_un un_neg pe_int) (pa_cons pe_int (pa_cons (pe_op op_sub (pe_op op_pow pe_int pe_int) pe_int) (pa_cons (pe_op op_pow pe_int pe_int) pa_nil))))))))
 (pss_one (ps_ret (pe_callB cr_sortedI (by rfl) T.sorted (by decide +kernel) (pa_cons (pe_slice sl_list (pe_callH H_law_shuffled hr (by rfl) (pa_cons (pv 0) (pa_cons (pv 3) pa_nil))) po_none (po_some (pv 1))) pa_nil))))) pss_nil)
 (pss_cons (ps_set (i := 4) sc_law_pool.nd rfl (.inl rfl) (pe_op op_sub (pe_callH H_law_take hr (by rfl) (pa_cons (pv 0) (pa_cons pe_int pa_nil))) pe_int))
 (pss_cons (ps_set (i := 5) sc_law_pool.nd rfl (.inl rfl) pe_int)
 (C8.pss_cut (ps_if (pt_cmpR op_eq (pv 2) pe_int (nomark _)) (pss_cons (ps_set (i := 4) sc_law_pool.nd rfl (.inl rfl) (pe_op op_sub (pe_callH H_law_take hr (by rfl) (pa_cons (pv 0) (pa_cons pe_int pa_nil))) pe_int))
 (pss_one (ps_set (i := 5) sc_law_pool.nd rfl (.inl rfl) pe_int))) pss_nil)
 (C8.pss_cut (ps_if (pt_cmpR op_eq (pv 2) pe_int (nomark _)) (pss_cons (ps_set (i := 4) sc_law_pool.nd rfl (.inl rfl) (pe_op op_sub (pe_callH H_law_take hr (by rfl) (pa_cons (pv 0) (pa_cons (pe_op op_pow pe_int pe_int) pa_nil))) (pe_op op_pow pe_int pe_int)))
 (pss_one (ps_set (i := 5) sc_law_pool.nd rfl (.inl rfl) (pe_op op_mul pe_int (pe_op op_pow pe_int pe_int))))) pss_nil)
 (pss_cons (ps_set (i := 6) sc_law_pool.nd rfl (.inl rfl) (pe_lst (pa_cons (pv 4) pa_nil)))
 (pss_cons (ps_for PassesOwn.never rfl (pi_range1 rfl T.range (pa_cons (pe_op op_sub (pv 1) pe_int) pa_nil)) (pg_name (i := 7) sc_law_pool.nd rfl (.inl rfl)) (pss_one (ps_expr (pe_bm PySem.F.plainAttrs_list PySem.F.slot_list_append PySem.F.type_list_append mt_append (pv 6) (pa_cons (pe_op op_add (pe_op op_add (pe_ix ix_list (pv 6) (pv 7) (fun _ _ => rfl)) pe_int) (pe_callH H_law_take hr (by rfl) (pa_cons (pv 0) (pa_cons (pv 5) pa_nil)))) pa_nil)))))
 (pss_one (ps_ret (pv 6)))))))))))), ?_⟩
    walk_at "rdA"
    refine ⟨S, 5, rfl, by omega, hS, fun m H1 m0 m1 hS1 e1 => ?_⟩
    walk_at "rdA"
    refine ⟨S, 4, rfl, by omega, hS1, fun kd H2 k0 k1 hS2 e2 => ?_⟩
    have e2 := e1.trans e2
    walk_at "rdA"
    refine if_dec (fun hk => ?_) (fun hk => ?_)
    · walk_at "rdA"
      refine ⟨sz (by simp), fun p np => ?_⟩
      walk_at "rdA"
      refine ⟨S, p, _, rfl, hS2.new np, .new hS2 np, by simp, fun p2 ys H3 hp _ hA3 hS3 e3 => ?_⟩
      walk_at "rdA"
      refine ⟨_, rfl, p2, ys, rfl, sl_of hA3.2, fun p3 np3 => ?_⟩
      walk_at "rdA"
      obtain ⟨M, hM⟩ : ∃ M : Nat, (M : Int) = 2 + m := ⟨(2 + m).toNat, by omega⟩
      obtain ⟨ms, em, hm⟩ := ints_of (ns := [-1000000000000, 1 - 1000000000000, -1, 0, 1000000000000 - 1, 1000000000000]) (ys := ys.take M) (fun y hy => by
        have := hp.mem_iff.mp (List.mem_of_mem_take hy)
        simpa using this)
      have l6 : ys.length = 6 := by rw [hp.length_eq]; rfl
      have lm : ms.length = M := by
        have := congrArg List.length em
        rw [List.length_take, List.length_map, l6] at this
        omega
      rw [← hM, cut_to, em]
      refine ⟨p3, ms, rfl, sl_of upd_same, fun ns' p4 hp4 _ np4 => ?_⟩
      have hS4 := (hS3.new (o := .lst (ms.map V.int)) np3)
      refine h p4 ns' _ (fun n hn => ?_) (by rw [hp4.length_eq]; omega) (by rw [hp4.length_eq]; omega) (.new hS4 np4) (hS4.new np4) (((e2.trans (.new np)).trans e3).trans ((ExS.new np3).trans (.new np4)))
      have := hm n (hp4.mem_iff.mp hn)
      simp only [List.mem_cons, List.not_mem_nil, or_false] at this
      unfold InR
      omega
    · walk_at "rdA"
      refine ⟨S, 5, rfl, by omega, hS2, fun s0 H3 s00 s01 hS3 e3 => ?_⟩
      have e3 := e2.trans e3
      walk_at "rdA"
      refine rd_cut (fun σ' H' => ∃ s0 st : Int, σ' = [some (.ref S.1), some (.int (2 + m)), some (.int kd), none, some (.int s0), some (.int st), none, none] ∧ -1000000000000 ≤ s0 ∧ 1 ≤ st ∧ st ≤ 300000000000 ∧ s0 + 5 * st ≤ 1000000000000 ∧ StoreOk S H' ∧ ExS S H H') ?_ ?_
      · walk_at "rdA"
        refine if_dec (fun hk => ?_) (fun hk => ?_)
        · walk_at "rdA"
          refine ⟨S, 100, rfl, by omega, hS3, fun s1 H4 s10 s11 hS4 e4 => ?_⟩
          walk_at "rdA"
          exact ⟨_, _, rfl, by omega, by omega, by omega, by omega, hS4, e3.trans e4⟩
        · walk_at "rdA"
          exact ⟨_, _, rfl, by omega, by omega, by omega, by omega, hS3, e3⟩
      · rintro σ' H4 ⟨s0, st, rfl, a0, a1, a2, a3, hS4, e4⟩
        refine rd_cut (fun σ' H' => ∃ s0 st : Int, σ' = [some (.ref S.1), some (.int (2 + m)), some (.int kd), none, some (.int s0), some (.int st), none, none] ∧ -1000000000000 ≤ s0 ∧ 1 ≤ st ∧ st ≤ 300000000000 ∧ s0 + 5 * st ≤ 1000000000000 ∧ StoreOk S H' ∧ ExS S H H') ?_ ?_
        · walk_at "rdA"
          refine if_dec (fun hk => ?_) (fun hk => ?_)
          · walk_at "rdA"
            refine ⟨S, _, rfl, by omega, hS4, fun s1 H5 s10 s11 hS5 e5 => ?_⟩
            walk_at "rdA"
            exact ⟨_, _, rfl, by omega, by omega, by omega, by omega, hS5, e4.trans e5⟩
          · walk_at "rdA"
            exact ⟨_, _, rfl, a0, a1, a2, a3, hS4, e4⟩
        · rintro σ' H5 ⟨s0, st, rfl, a0, a1, a2, a3, hS5, e5⟩
          walk_at "rdA"
          refine ⟨sz (by simp), fun p np => ?_⟩
          have pS := hS5.ne1 np
          have pS2 := hS5.ne2 np
          walk_at "rdA"
          refine ⟨_, rfl, by omega, by omega, for_rng (fun i σ H' => ∃ ms : List Int, ∃ y, σ = [some (.ref S.1), some (.int (2 + m)), some (.int kd), none, some (.int s0), some (.int st), some (.ref p), y] ∧ ms.length = i + 1 ∧ (∀ n ∈ ms, -1000000000000 ≤ n ∧ n ≤ s0 + i * st) ∧ H' p = some (.lst (ms.map V.int)) ∧ StoreOk S H' ∧ ExS S H5 H') ⟨[s0], _, rfl, rfl, by simp; omega, upd_same, hS5.new np, .new np⟩ ?_ ?_⟩
          · rintro i σ H6 hi ⟨ms, y, rfl, hl, hb, eH, hS6, e6⟩
            walk_at "rdA"
            obtain ⟨n, hn, _, en⟩ := atI_ints (xs := ms) (i := (i : Int)) (by omega) (by omega)
            refine ⟨.inl ⟨rfl, _, .inl (.inl eH)⟩, ?_⟩
            walk_at "rdA"
            refine rd_ixL eH en ?_
            walk_at "rdA"
            refine ⟨S, _, rfl, by omega, hS6, fun r H7 r0 r1 hS7 e7 => ?_⟩
            walk_at "rdA"
            have eH7 := e7 _ _ pS eH
            have hn' := hb n hn
            refine ⟨p, _, _, rfl, rfl, eH7, ?_, ?_⟩
            · rw [List.length_map]; exact Nat.lt_of_lt_of_le (by omega : ms.length < 100000) (by decide)
            · walk_at "rdA"
              have em : ((i + 1 : Nat) : Int) * st = i * st + st := by rw [Int.natCast_add, Int.add_mul]; simp
              have e0 : 0 ≤ (i : Int) * st := Int.mul_nonneg (by omega) (by omega)
              refine ⟨ms ++ [n + 1 + r], _, rfl, by rw [List.length_append, hl]; rfl, ?_, ?_, store_upd hS7 pS pS2, (e6.trans e7).mut np⟩
              · intro x hx
                rcases List.mem_append.mp hx with h1 | h1
                · have := hb x h1; omega
                · have := List.mem_singleton.mp h1; omega
              · rw [upd_same, List.map_append]; rfl
          · rintro σ H6 ⟨ms, y, rfl, hl, hb, eH, hS6, e6⟩
            walk_at "rdA"
            have e7 : ((2 + m - 1).toNat : Int) * st ≤ 5 * st := Int.mul_le_mul_of_nonneg_right (by omega) (by omega)
            exact h p ms H6 (fun n hn => by have := hb n hn; exact ⟨by omega, by omega⟩) (by omega) (by omega) ⟨pS, eH⟩ hS6 (e5.trans e6)
end

abbrev s_law_near : Stmt := topS 25
theorem sc_law_near : FnScope ["store", "pool"] ["store", "pool"] (defScope s_law_near) := ⟨rfl, rfl, rfl, by decide +kernel, rfl, by decide +kernel, by decide +kernel⟩
abbrev s_law_bad_number : Stmt := topS 26
theorem sc_law_bad_number : FnScope ["store", "keyed", "far", "kind"] ["store", "keyed"] (defScope s_law_bad_number) := ⟨rfl, rfl, rfl, by decide +kernel, rfl, by decide +kernel, by decide +kernel⟩
abbrev s_law_is_number : Stmt := topS 28
theorem sc_law_is_number : FnScope ["value"] ["value"] (defScope s_law_is_number) := ⟨rfl, rfl, rfl, by decide +kernel, rfl, by decide +kernel, by decide +kernel⟩

section
variable {P : Program} {w : World} {K : PySem.W.Frag} {mg : Str → Option Value} {base : Heap}
/-! ### _law_near -/
def spNear : Sp := fun vs H Q _ => ∃ S : Sto, ∃ p, ∃ ns : List Int, vs = [.ref S.1, .ref p] ∧ StoreOk S H ∧ At S H p (.lst (ns.map V.int)) ∧ 0 < ns.length ∧ ns.length < 1000 ∧ ∀ n H', InR n → StoreOk S H' → ExS S H H' → Q (.int n) H'
theorem ok_near {k : Nat} {f : Addr} {fd : FuncData} (F : Fun K "_law_near" "_law_near" s_law_near f fd) (T : Blt mg) (H_law_take : Has P w K mg base "_law_take" k ["store", "many"] spTake) (H_law_pick : Has P w K mg base "_law_pick" k ["store", "items"] spPick)
    (H_law_clamped : Has P w K mg base "_law_clamped" k ["number"] spClamped) : FnOk P w K mg base CX0 (k + 1) f fd ["store", "pool"] spNear := by
  refine F.ok sc_law_near (fun vs H Q E h => ?_) (fun cdv A outer s H vs Q E hr h => ?_)
  · obtain ⟨S, p, ns, rfl, _⟩ := h; rfl
  · obtain ⟨S, p, ns, rfl, hS, hA, l0, l1, h⟩ := h
    refine ⟨_, (pss_one (ps_ret (pe_callH H_law_clamped hr (by rfl) (pa_cons (pe_op op_add (pe_callH H_law_pick hr (by rfl) (pa_cons (pv 0) (pa_cons (pv 1) pa_nil))) (pe_ix ix_list (pe_lst (pa_cons pe_int (pa_cons pe_int (pa_cons pe_int (pa_cons (pe_un un_neg pe_int) pa_nil))))) (pe_callH H_law_take hr (by rfl) (pa_cons (pv 0) (pa_cons pe_int pa_nil))) (fun _ _ => rfl))) pa_nil)))), ?_⟩
    walk_at "rdA"
    refine ⟨S, p, _, rfl, hS, hA, by simpa using l0, by rw [List.length_map]; omega, fun v H1 hv hS1 e1 => ?_⟩
    obtain ⟨n, hn, rfl⟩ := List.mem_map.mp hv
    walk_at "rdA"
    refine ⟨sz (by simp), fun q nq => ?_⟩
    walk_at "rdA"
    refine ⟨S, 4, rfl, by omega, hS1.new nq, fun r H2 r0 r1 hS2 e2 => ?_⟩
    have hq := e2 _ _ (hS1.ne1 nq) upd_same
    have e3 := e1.trans ((ExS.new nq).trans e2)
    obtain ⟨hb, en⟩ := atI_get (xs := [V.int 0, .int 0, .int 1, .int (-1)]) (i := r) r0 (by simp; omega)
    refine rd_ixL hq en ?_
    obtain ⟨d, hd⟩ : ∃ d, [V.int 0, .int 0, .int 1, .int (-1)][r.toNat] = .int d := by
      have : r.toNat = 0 ∨ r.toNat = 1 ∨ r.toNat = 2 ∨ r.toNat = 3 := by omega
      rcases this with e | e | e | e <;> simp only [e] <;> exact ⟨_, rfl⟩
    rw [hd]
    walk_at "rdA"
    refine ⟨_, rfl, fun m hm _ => ?_⟩
    exact h m H2 hm hS2 e3
/-! ### _law_bad_number -/
def spBadNum : Sp := fun vs H Q _ => ∃ S : Sto, ∃ kd, vs = [.ref S.1, .bl kd] ∧ StoreOk S H ∧ ∀ v H', Bad v → (kd = true → ∃ n, v = .int n) → StoreOk S H' → ExS S H H' → Q v H'
theorem ok_bad_number {k : Nat} {f : Addr} {fd : FuncData} (F : Fun K "_law_bad_number" "_law_bad_number" s_law_bad_number f fd) (T : Blt mg) (H_law_take : Has P w K mg base "_law_take" k ["store", "many"] spTake) (H_law_pick : Has P w K mg base "_law_pick" k ["store", "items"] spPick) : FnOk P w K mg base CX0 (k + 1) f fd ["store", "keyed"] spBadNum := by
  refine F.ok sc_law_bad_number (fun vs H Q E h => ?_) (fun cdv A outer s H vs Q E hr h => ?_)
  · obtain ⟨S, kd, rfl, _⟩ := h; rfl
  · obtain ⟨S, kd, rfl, hS, h⟩ := h
    refine ⟨_, (pss_cons (ps_set (i := 2) sc_law_bad_number.nd rfl (.inl rfl) (pe_lst (pa_cons (pe_op op_add (pe_op op_pow pe_int pe_int) pe_int) (pa_cons (pe_op op_sub (pe_un un_neg (pe_op op_pow pe_int pe_int)) pe_int) (pa_cons (pe_op op_pow pe_int pe_int) (pa_cons (pe_un un_neg (pe_op op_pow pe_int pe_int)) (pa_cons (pe_op op_add (pe_op op_add (pe_op op_pow pe_int pe_int) pe_int) (pe_callH H_law_take hr (by rfl) (pa_cons (pv 0) (pa_cons (pe_op op_pow pe_int pe_int) pa_nil)))) pa_nil)))))))
 (pss_cons (ps_set (i := 3) sc_law_bad_number.nd rfl (.inl rfl) (pe_callH H_law_take hr (by rfl) (pa_cons (pv 0) (pa_cons pe_int pa_nil))))
 (pss_cons (ps_if (PW.pt (pw_or (pt_val (pv 1)) (pw_or1 (pt_cmpR op_eq (pv 3) pe_int (nomark _))))) (pss_one (ps_ret (pe_callH H_law_pick hr (by rfl) (pa_cons (pv 0) (pa_cons (pv 2) pa_nil))))) pss_nil)
 (pss_one (ps_ret (pe_cmpR op_eq (pv 3) pe_int (nomark _))))))), ?_⟩
    walk_at "rdA"
    refine ⟨S, _, rfl, by omega, hS, fun r H1 r0 r1 hS1 e1 => ?_⟩
    walk_at "rdA"
    refine ⟨sz (by simp), fun p np => ?_⟩
    walk_at "rdA"
    refine ⟨S, 3, rfl, by omega, hS1.new np, fun c H2 c0 c1 hS2 e2 => ?_⟩
    have hp := e2 _ _ (hS1.ne1 np) upd_same
    have e3 := e1.trans ((ExS.new np).trans e2)
    have go : ∀ v H', v ∈ [V.int (1000000000000 + 1), .int (-1000000000000 - 1), .int 10000000000000, .int (-1000000000000000000000000000000), .int (1000000000000 + 1 + r)] → StoreOk S H' → ExS S H2 H' → Q v H' := fun v H' hv hS' e' => by
      have : ∃ n, v = .int n ∧ ¬ InR n := by
        simp only [List.mem_cons, List.not_mem_nil, or_false] at hv
        rcases hv with rfl | rfl | rfl | rfl | rfl <;> exact ⟨_, rfl, by unfold InR; omega⟩
      obtain ⟨n, rfl, hn⟩ := this
      exact h _ _ (.inr ⟨n, rfl, hn⟩) (fun _ => ⟨n, rfl⟩) hS' (e3.trans e')
    walk_at "rdA"
    refine if_bool (fun hk => ?_) (fun hk => ?_)
    · walk_at "rdA"
      exact ⟨S, p, _, rfl, hS2, ⟨hS1.ne1 np, hp⟩, by simp, by simp, go⟩
    · walk_at "rdA"
      refine if_dec (fun hc => ?_) (fun hc => ?_)
      · walk_at "rdA"
        exact ⟨S, p, _, rfl, hS2, ⟨hS1.ne1 np, hp⟩, by simp, by simp, go⟩
      · walk_at "rdA"
        exact h _ _ (.inl ⟨_, rfl⟩) (fun e => by rw [e] at hk; cases hk) hS2 e3
/-! ### _law_is_number -/
def spIsNum : Sp := fun vs H Q _ => ∃ v, vs = [v] ∧ Sc v ∧ Q (.bl (isNum v)) H
theorem ok_is_number {k : Nat} {f : Addr} {fd : FuncData} (F : Fun K "_law_is_number" "_law_is_number" s_law_is_number f fd) (T : Blt mg) : FnOk P w K mg base CX0 (k + 1) f fd ["value"] spIsNum := by
  refine F.ok sc_law_is_number (fun vs H Q E h => ?_) (fun cdv A outer s H vs Q E hr h => ?_)
  · obtain ⟨v, rfl, _⟩ := h; rfl
  · obtain ⟨v, rfl, hv, h⟩ := h
    refine ⟨_, (pss_one (ps_ret (pe_and (pe_callB call_isi (by rfl) T.isinstance (by decide +kernel) (pa_cons (pv 0) (pa_cons (pe_bltn (v := .ty "int") rfl T.int (by decide +kernel) rfl) pa_nil))) (pe_and (pe_not (pe_callB call_isi (by rfl) T.isinstance (by decide +kernel) (pa_cons (pv 0) (pa_cons (pe_bltn (v := .ty "bool") rfl T.bool (by decide +kernel) rfl) pa_nil)))) (pe_one (pe_chain op_le op_le (pe_un un_neg (pe_op op_pow pe_int pe_int)) (pv 0) (pe_op op_pow pe_int pe_int))))))), ?_⟩
    cases v <;> first | exact hv.elim | skip
    · walk_at "rdA"; exact h
    · walk_at "rdA"; exact h
    · rename_i n
      walk_at "rdA"
      have hh : ∀ b : Bool, b = isNum (.int n) → Q (.bl b) H := fun b e => by rw [e]; exact h
      refine if_dec (fun h1 => ?_) (fun h1 => ?_)
      · walk_at "rdA"
        refine hh _ ?_
        unfold isNum InR; simp [h1]
      · refine hh _ ?_
        unfold isNum InR; simp [h1]
    · walk_at "rdA"; exact h
end

abbrev s_law_match : Stmt := topS 29
theorem sc_law_match : FnScope ["left", "right", "strict", "k"] ["left", "right", "strict"] (defScope s_law_match) := ⟨rfl, rfl, rfl, by decide +kernel, rfl, by decide +kernel, by decide +kernel⟩
abbrev s_law_same : Stmt := topS 31
theorem sc_law_same : FnScope ["actual", "expected"] ["actual", "expected"] (defScope s_law_same) := ⟨rfl, rfl, rfl, by decide +kernel, rfl, by decide +kernel, by decide +kernel⟩

section
variable {P : Program} {w : World} {K : PySem.W.Frag} {mg : Str → Option Value} {base : Heap}
/-! ### _law_match, _law_same -/
def spMatch (n : Nat) : Sp := fun vs H Q _ => ∃ x y st, vs = [x, y, .bl st] ∧ ((Sc x ∧ Sc y ∧ ∀ H', Same H H' → Q (.bl (decide (x = y))) H') ∨ (Alike H n x y ∧ ∀ H', Same H H' → Q (.bl true) H'))
theorem ok_match0 {k : Nat} {f : Addr} {fd : FuncData} (F : Fun K "_law_match" "_law_match" s_law_match f fd) (T : Blt mg) : FnOk P w K mg base CX0 (k + 1) f fd ["left", "right", "strict"] (spMatch 0) := by
  refine F.ok sc_law_match (fun vs H Q E h => ?_) (fun cdv A outer s H vs Q E hr h => ?_)
  · obtain ⟨x, y, st, rfl, _⟩ := h; rfl
  · obtain ⟨x, y, st, rfl, h⟩ := h
    have h : Sc x ∧ Sc y ∧ ∀ H', Same H H' → Q (.bl (decide (x = y))) H' := by
      rcases h with h | ⟨⟨h1, rfl⟩, h⟩
      · exact h
      · exact ⟨h1, h1, fun H' e => by rw [decide_eq_true rfl]; exact h H' e⟩
    refine ⟨_, (pss_cons (ps_if (PW.pt (pw_or (pt_cmpR op_isN (pv 0) pe_non (nomark _)) (pw_or1 (pt_cmpR op_isN (pv 1) pe_non (nomark _))))) (pss_one (ps_ret (pe_and (pe_cmpR op_isN (pv 0) pe_non (nomark _)) (pe_one (pe_cmpR op_isN (pv 1) pe_non (nomark _)))))) pss_nil)
 (pss_cons (ps_if (PW.pt (pw_or (pt_val (pe_callB call_isi (by rfl) T.isinstance (by decide +kernel) (pa_cons (pv 0) (pa_cons (pe_bltn (v := .ty "bool") rfl T.bool (by decide +kernel) rfl) pa_nil)))) (pw_or1 (pt_val (pe_callB call_isi (by rfl) T.isinstance (by decide +kernel) (pa_cons (pv 1) (pa_cons (pe_bltn (v := .ty "bool") rfl T.bool (by decide +kernel) rfl) pa_nil))))))) (pss_one (ps_ret (pe_and (pe_callB call_isi (by rfl) T.isinstance (by decide +kernel) (pa_cons (pv 0) (pa_cons (pe_bltn (v := .ty "bool") rfl T.bool (by decide +kernel) rfl) pa_nil))) (pe_and (pe_callB call_isi (by rfl) T.isinstance (by decide +kernel) (pa_cons (pv 1) (pa_cons (pe_bltn (v := .ty "bool") rfl T.bool (by decide +kernel) rfl) pa_nil))) (pe_one (pe_cmpR op_eq (pv 0) (pv 1) (nomark _))))))) pss_nil)
 (pss_cons (ps_if (PW.pt (pw_or (pt_val (pe_callB call_isi (by rfl) T.isinstance (by decide +kernel) (pa_cons (pv 0) (pa_cons (pe_bltn (v := .ty "int") rfl T.int (by decide +kernel) rfl) pa_nil)))) (pw_or1 (pt_val (pe_callB call_isi (by rfl) T.isinstance (by decide +kernel) (pa_cons (pv 1) (pa_cons (pe_bltn (v := .ty "int") rfl T.int (by decide +kernel) rfl) pa_nil))))))) (pss_one (ps_ret (pe_and (pe_callB call_isi (by rfl) T.isinstance (by decide +kernel) (pa_cons (pv 0) (pa_cons (pe_bltn (v := .ty "int") rfl T.int (by decide +kernel) rfl) pa_nil))) (pe_and (pe_callB call_isi (by rfl) T.isinstance (by decide +kernel) (pa_cons (pv 1) (pa_cons (pe_bltn (v := .ty "int") rfl T.int (by decide +kernel) rfl) pa_nil))) (pe_one (pe_cmpR op_eq (pv 0) (pv 1) (nomark _))))))) pss_nil)
 (pss_cons (ps_if (PW.pt (pw_or (pt_val (pe_callB call_isi (by rfl) T.isinstance (by decide +kernel) (pa_cons (pv 0) (pa_cons (pe_bltn (v := .ty "str") rfl T.str (by decide +kernel) rfl) pa_nil)))) (pw_or1 (pt_val (pe_callB call_isi (by rfl) T.isinstance (by decide +kernel) (pa_cons (pv 1) (pa_cons (pe_bltn (v := .ty "str") rfl T.str (by decide +kernel) rfl) pa_nil))))))) (pss_one (ps_ret (pe_and (pe_callB call_isi (by rfl) T.isinstance (by decide +kernel) (pa_cons (pv 0) (pa_cons (pe_bltn (v := .ty "str") rfl T.str (by decide +kernel) rfl) pa_nil))) (pe_and (pe_callB call_isi (by rfl) T.isinstance (by decide +kernel) (pa_cons (pv 1) (pa_cons (pe_bltn (v := .ty "str") rfl T.str (by decide +kernel) rfl) pa_nil))) (pe_one (pe_cmpR op_eq (pv 0) (pv 1) (nomark _))))))) pss_nil)
 (pss_cons (ps_if (PW.pt (pw_or (pt_val (pe_callB call_isi (by rfl) T.isinstance (by decide +kernel) (pa_cons (pv 0) (pa_cons (pe_bltn (v := .ty "dict") rfl T.dict (by decide +kernel) rfl) pa_nil)))) (pw_or1 (pt_val (pe_callB call_isi (by rfl) T.isinstance (by decide +kernel) (pa_cons (pv 1) (pa_cons (pe_bltn (v := .ty "dict") rfl T.dict (by decide +kernel) rfl) pa_nil))))))) (pss_one ps_never) pss_nil)
 (pss_cons (ps_if (PW.pt (pw_or (pt_not (pt_val (pe_callB call_isiT (by rfl) T.isinstance (by decide +kernel) (pa_cons (pv 0) (pa_cons (pe_tup (pa_cons (pe_bltn (v := .ty "list") rfl T.list' (by decide +kernel) rfl) (pa_cons (pe_bltn (v := .ty "tuple") rfl T.tuple (by decide +kernel) rfl) pa_nil))) pa_nil))))) (pw_or1 (pt_not (pt_val (pe_callB call_isiT (by rfl) T.isinstance (by decide +kernel) (pa_cons (pv 1) (pa_cons (pe_tup (pa_cons (pe_bltn (v := .ty "list") rfl T.list' (by decide +kernel) rfl) (pa_cons (pe_bltn (v := .ty "tuple") rfl T.tuple (by decide +kernel) rfl) pa_nil))) pa_nil)))))))) (pss_one (ps_ret pe_bl)) pss_nil)
 (pss_cons (ps_if (PW.pt (pw_or (pt_cmpR op_ne (pe_callB call_len_seq (by rfl) T.len (by decide +kernel) (pa_cons (pv 0) pa_nil)) (pe_callB call_len_seq (by rfl) T.len (by decide +kernel) (pa_cons (pv 1) pa_nil)) (nomark _)) (pw_or1 (PW.pt (pw_and (pt_val (pv 2)) (pw_and1 (pt_cmpR op_ne (pe_callB call_isi (by rfl) T.isinstance (by decide +kernel) (pa_cons (pv 0) (pa_cons (pe_bltn (v := .ty "list") rfl T.list' (by decide +kernel) rfl) pa_nil))) (pe_callB call_isi (by rfl) T.isinstance (by decide +kernel) (pa_cons (pv 1) (pa_cons (pe_bltn (v := .ty "list") rfl T.list' (by decide +kernel) rfl) pa_nil))) (nomark _)))))))) (pss_one (ps_ret pe_bl)) pss_nil)
 (pss_cons ps_never
 (pss_one (ps_ret pe_bl)))))))))), ?_⟩
    obtain ⟨hx, hy, h⟩ := h
    have h := h H (Same.refl H)
    cases x <;> first | exact hx.elim | skip
    all_goals cases y <;> first | exact hy.elim | skip
    all_goals walk_at "rdA"
    all_goals first | exact h | (have e := h; simp at e ⊢; exact e)
theorem ok_matchS {n : Nat} {k : Nat} {f : Addr} {fd : FuncData} (F : Fun K "_law_match" "_law_match" s_law_match f fd) (T : Blt mg) (H_law_match : Has P w K mg base "_law_match" k ["left", "right", "strict"] (spMatch n)) : FnOk P w K mg base CX0 (k + 1) f fd ["left", "right", "strict"] (spMatch (n + 1)) := by
  refine F.ok sc_law_match (fun vs H Q E h => ?_) (fun cdv A outer s H vs Q E hr h => ?_)
  · obtain ⟨x, y, st, rfl, _⟩ := h; rfl
  · obtain ⟨x, y, st, rfl, h⟩ := h
    have h : (Sc x ∧ Sc y ∧ ∀ H', Same H H' → Q (.bl (decide (x = y))) H') ∨ ((∃ (a b : Addr) (xs ys : List V), x = .ref a ∧ y = .ref b ∧ ((H a = some (.lst xs) ∧ H b = some (.lst ys)) ∨ (H a = some (.tup xs) ∧ H b = some (.tup ys))) ∧ xs.length = ys.length ∧ xs.length ≤ 100000 ∧ ∀ (i : Nat) (u v : V), xs[i]? = some u → ys[i]? = some v → Alike H n u v) ∧ ∀ H', Same H H' → Q (.bl true) H') := by
      rcases h with h | ⟨⟨h1, rfl⟩ | h1, h⟩
      · exact .inl h
      · exact .inl ⟨h1, h1, fun H' e => by rw [decide_eq_true rfl]; exact h H' e⟩
      · exact .inr ⟨h1, h⟩
    refine ⟨_, (pss_cons (ps_if (PW.pt (pw_or (pt_cmpR op_isN (pv 0) pe_non (nomark _)) (pw_or1 (pt_cmpR op_isN (pv 1) pe_non (nomark _))))) (pss_one (ps_ret (pe_and (pe_cmpR op_isN (pv 0) pe_non (nomark _)) (pe_one (pe_cmpR op_isN (pv 1) pe_non (nomark _)))))) pss_nil)
 (pss_cons (ps_if (PW.pt (pw_or (pt_val (pe_callB call_isi (by rfl) T.isinstance (by decide +kernel) (pa_cons (pv 0) (pa_cons (pe_bltn (v := .ty "bool") rfl T.bool (by decide +kernel) rfl) pa_nil)))) (pw_or1 (pt_val (pe_callB call_isi (by rfl) T.isinstance (by decide +kernel) (pa_cons (pv 1) (pa_cons (pe_bltn (v := .ty "bool") rfl T.bool (by decide +kernel) rfl) pa_nil))))))) (pss_one (ps_ret (pe_and (pe_callB call_isi (by rfl) T.isinstance (by decide +kernel) (pa_cons (pv 0) (pa_cons (pe_bltn (v := .ty "bool") rfl T.bool (by decide +kernel) rfl) pa_nil))) (pe_and (pe_callB call_isi (by rfl) T.isinstance (by decide +kernel) (pa_cons (pv 1) (pa_cons (pe_bltn (v := .ty "bool") rfl T.bool (by decide +kernel) rfl) pa_nil))) (pe_one (pe_cmpR op_eq (pv 0) (pv 1) (nomark _))))))) pss_nil)
 (pss_cons (ps_if (PW.pt (pw_or (pt_val (pe_callB call_isi (by rfl) T.isinstance (by decide +kernel) (pa_cons (pv 0) (pa_cons (pe_bltn (v := .ty "int") rfl T.int (by decide +kernel) rfl) pa_nil)))) (pw_or1 (pt_val (pe_callB call_isi (by rfl) T.isinstance (by decide +kernel) (pa_cons (pv 1) (pa_cons (pe_bltn (v := .ty "int") rfl T.int (by decide +kernel) rfl) pa_nil))))))) (pss_one (ps_ret (pe_and (pe_callB call_isi (by rfl) T.isinstance (by decide +kernel) (pa_cons (pv 0) (pa_cons (pe_bltn (v := .ty "int") rfl T.int (by decide +kernel) rfl) pa_nil))) (pe_and (pe_callB call_isi (by rfl) T.isinstance (by decide +kernel) (pa_cons (pv 1) (pa_cons (pe_bltn (v := .ty "int") rfl T.int (by decide +kernel) rfl) pa_nil))) (pe_one (pe_cmpR op_eq (pv 0) (pv 1) (nomark _))))))) pss_nil)
 (pss_cons (ps_if (PW.pt (pw_or (pt_val (pe_callB call_isi (by rfl) T.isinstance (by decide +kernel) (pa_cons (pv 0) (pa_cons (pe_bltn (v := .ty "str") rfl T.str (by decide +kernel) rfl) pa_nil)))) (pw_or1 (pt_val (pe_callB call_isi (by rfl) T.isinstance (by decide +kernel) (pa_cons (pv 1) (pa_cons (pe_bltn (v := .ty "str") rfl T.str (by decide +kernel) rfl) pa_nil))))))) (pss_one (ps_ret (pe_and (pe_callB call_isi (by rfl) T.isinstance (by decide +kernel) (pa_cons (pv 0) (pa_cons (pe_bltn (v := .ty "str") rfl T.str (by decide +kernel) rfl) pa_nil))) (pe_and (pe_callB call_isi (by rfl) T.isinstance (by decide +kernel) (pa_cons (pv 1) (pa_cons (pe_bltn (v := .ty "str") rfl T.str (by decide +kernel) rfl) pa_nil))) (pe_one (pe_cmpR op_eq (pv 0) (pv 1) (nomark _))))))) pss_nil)
 (pss_cons (ps_if (PW.pt (pw_or (pt_val (pe_callB call_isi (by rfl) T.isinstance (by decide +kernel) (pa_cons (pv 0) (pa_cons (pe_bltn (v := .ty "dict") rfl T.dict (by decide +kernel) rfl) pa_nil)))) (pw_or1 (pt_val (pe_callB call_isi (by rfl) T.isinstance (by decide +kernel) (pa_cons (pv 1) (pa_cons (pe_bltn (v := .ty "dict") rfl T.dict (by decide +kernel) rfl) pa_nil))))))) (pss_one ps_never) pss_nil)
 (pss_cons (ps_if (PW.pt (pw_or (pt_not (pt_val (pe_callB call_isiT (by rfl) T.isinstance (by decide +kernel) (pa_cons (pv 0) (pa_cons (pe_tup (pa_cons (pe_bltn (v := .ty "list") rfl T.list' (by decide +kernel) rfl) (pa_cons (pe_bltn (v := .ty "tuple") rfl T.tuple (by decide +kernel) rfl) pa_nil))) pa_nil))))) (pw_or1 (pt_not (pt_val (pe_callB call_isiT (by rfl) T.isinstance (by decide +kernel) (pa_cons (pv 1) (pa_cons (pe_tup (pa_cons (pe_bltn (v := .ty "list") rfl T.list' (by decide +kernel) rfl) (pa_cons (pe_bltn (v := .ty "tuple") rfl T.tuple (by decide +kernel) rfl) pa_nil))) pa_nil)))))))) (pss_one (ps_ret pe_bl)) pss_nil)
 (C8.pss_cut (ps_if (PW.pt (pw_or (pt_cmpR op_ne (pe_callB call_len_seq (by rfl) T.len (by decide +kernel) (pa_cons (pv 0) pa_nil)) (pe_callB call_len_seq (by rfl) T.len (by decide +kernel) (pa_cons (pv 1) pa_nil)) (nomark _)) (pw_or1 (PW.pt (pw_and (pt_val (pv 2)) (pw_and1 (pt_cmpR op_ne (pe_callB call_isi (by rfl) T.isinstance (by decide +kernel) (pa_cons (pv 0) (pa_cons (pe_bltn (v := .ty "list") rfl T.list' (by decide +kernel) rfl) pa_nil))) (pe_callB call_isi (by rfl) T.isinstance (by decide +kernel) (pa_cons (pv 1) (pa_cons (pe_bltn (v := .ty "list") rfl T.list' (by decide +kernel) rfl) pa_nil))) (nomark _)))))))) (pss_one (ps_ret pe_bl)) pss_nil)
 (pss_cons (ps_for PassesOwn.never rfl (pi_range1 rfl T.range (pa_cons (pe_callB call_len_seq (by rfl) T.len (by decide +kernel) (pa_cons (pv 0) pa_nil)) pa_nil)) (pg_name (i := 3) sc_law_match.nd rfl (.inl rfl)) (pss_one (ps_if (pt_not (pt_val (pe_callH H_law_match hr (by rfl) (pa_cons (pe_ix ix_seq (pv 0) (pv 3) (fun _ _ => rfl)) (pa_cons (pe_ix ix_seq (pv 1) (pv 3) (fun _ _ => rfl)) (pa_cons (pv 2) pa_nil)))))) (pss_one (ps_ret pe_bl)) pss_nil)))
 (pss_one (ps_ret pe_bl)))))))))), ?_⟩
    rcases h with ⟨hx, hy, h⟩ | ⟨⟨a, b, xs, ys, rfl, rfl, hab, hl, h100, hi⟩, hq⟩
    · have h := h H (Same.refl H)
      cases x <;> first | exact hx.elim | skip
      all_goals cases y <;> first | exact hy.elim | skip
      all_goals walk_at "rdA"
      all_goals first | exact h | (have e := h; simp at e ⊢; exact e)
    · rcases hab with ⟨ha, hb⟩ | ⟨ha, hb⟩
      · walk_at "rdA"
        refine ⟨sz (by simp), fun p np => ?_⟩
        walk_at "rdA"
        have ha1 := same_new (o := .tup [V.ty "list", V.ty "tuple"]) np _ _ ha
        have hb1 := same_new (o := .tup [V.ty "list", V.ty "tuple"]) np _ _ hb
        refine rd_isiLT upd_same (.lst ha1) ka_list ?_
        walk_at "rdA"
        refine ⟨sz (by simp), fun p2 np2 => ?_⟩
        walk_at "rdA"
        have s2 := (same_new (o := .tup [V.ty "list", V.ty "tuple"]) np).trans (same_new (o := .tup [V.ty "list", V.ty "tuple"]) np2)
        have ha2 := s2 _ _ ha
        have hb2 := s2 _ _ hb
        refine rd_isiLT upd_same (.lst hb2) ka_list ?_
        walk_at "rdA"
        refine rd_cut (fun σ' H' => σ' = [some (.ref a), some (.ref b), some (.bl st), none] ∧ Same H H') ?_ ?_
        · walk_at "rdA"
          refine rd_seqL ha2 ?_
          walk_at "rdA"
          refine rd_seqL hb2 ?_
          walk_at "rdA"
          refine if_ndec (fun hne => absurd (by rw [hl]) hne) (fun _ => ?_)
          walk_at "rdA"
          refine if_bool (fun hst => ?_) (fun hst => ?_)
          · walk_at "rdA"
            first | rw [decTF] | rw [show decide (false = false) = true from rfl]
            walk_at "rdA"
            exact ⟨rfl, s2⟩
          · walk_at "rdA"
            exact ⟨rfl, s2⟩
        · rintro σ' H3 ⟨rfl, s3⟩
          have ha3 := s3 _ _ ha
          have hb3 := s3 _ _ hb
          walk_at "rdA"
          refine rd_seqL ha3 ?_
          walk_at "rdA"
          refine ⟨_, rfl, by omega, ?_, for_rng (fun i σ H' => ∃ y, σ = [some (.ref a), some (.ref b), some (.bl st), y] ∧ Same H H') ⟨none, rfl, s3⟩ ?_ ?_⟩
          · omega
          · rintro i σ H4 hi4 ⟨y, rfl, s4⟩
            have ha4 := s4 _ _ ha
            have hb4 := s4 _ _ hb
            obtain ⟨c1, e1⟩ := atI_get (xs := xs) (i := (i : Int)) (by omega) (by omega)
            obtain ⟨c2, e2⟩ := atI_get (xs := ys) (i := (i : Int)) (by omega) (by omega)
            walk_at "rdA"
            refine rd_ixQL ha4 e1 ?_
            walk_at "rdA"
            refine rd_ixQL hb4 e2 ?_
            walk_at "rdA"
            refine ⟨_, _, _, rfl, .inr ⟨(hi i _ _ (by simp) (by simp)).same s4, fun H5 s5 => ?_⟩⟩
            walk_at "rdA"
            exact ⟨_, rfl, s4.trans s5⟩
          · rintro σ H4 ⟨y, rfl, s4⟩
            walk_at "rdA"
            exact hq H4 s4
      · walk_at "rdA"
        refine ⟨sz (by simp), fun p np => ?_⟩
        walk_at "rdA"
        have ha1 := same_new (o := .tup [V.ty "list", V.ty "tuple"]) np _ _ ha
        have hb1 := same_new (o := .tup [V.ty "list", V.ty "tuple"]) np _ _ hb
        refine rd_isiLT upd_same (.tup ha1) ka_tuple ?_
        walk_at "rdA"
        refine ⟨sz (by simp), fun p2 np2 => ?_⟩
        walk_at "rdA"
        have s2 := (same_new (o := .tup [V.ty "list", V.ty "tuple"]) np).trans (same_new (o := .tup [V.ty "list", V.ty "tuple"]) np2)
        have ha2 := s2 _ _ ha
        have hb2 := s2 _ _ hb
        refine rd_isiLT upd_same (.tup hb2) ka_tuple ?_
        walk_at "rdA"
        refine rd_cut (fun σ' H' => σ' = [some (.ref a), some (.ref b), some (.bl st), none] ∧ Same H H') ?_ ?_
        · walk_at "rdA"
          refine rd_seqT ha2 ?_
          walk_at "rdA"
          refine rd_seqT hb2 ?_
          walk_at "rdA"
          refine if_ndec (fun hne => absurd (by rw [hl]) hne) (fun _ => ?_)
          walk_at "rdA"
          refine if_bool (fun hst => ?_) (fun hst => ?_)
          · walk_at "rdA"
            first | rw [decTF] | rw [show decide (false = false) = true from rfl]
            walk_at "rdA"
            exact ⟨rfl, s2⟩
          · walk_at "rdA"
            exact ⟨rfl, s2⟩
        · rintro σ' H3 ⟨rfl, s3⟩
          have ha3 := s3 _ _ ha
          have hb3 := s3 _ _ hb
          walk_at "rdA"
          refine rd_seqT ha3 ?_
          walk_at "rdA"
          refine ⟨_, rfl, by omega, ?_, for_rng (fun i σ H' => ∃ y, σ = [some (.ref a), some (.ref b), some (.bl st), y] ∧ Same H H') ⟨none, rfl, s3⟩ ?_ ?_⟩
          · omega
          · rintro i σ H4 hi4 ⟨y, rfl, s4⟩
            have ha4 := s4 _ _ ha
            have hb4 := s4 _ _ hb
            obtain ⟨c1, e1⟩ := atI_get (xs := xs) (i := (i : Int)) (by omega) (by omega)
            obtain ⟨c2, e2⟩ := atI_get (xs := ys) (i := (i : Int)) (by omega) (by omega)
            walk_at "rdA"
            refine rd_ixQT ha4 e1 ?_
            walk_at "rdA"
            refine rd_ixQT hb4 e2 ?_
            walk_at "rdA"
            refine ⟨_, _, _, rfl, .inr ⟨(hi i _ _ (by simp) (by simp)).same s4, fun H5 s5 => ?_⟩⟩
            walk_at "rdA"
            exact ⟨_, rfl, s4.trans s5⟩
          · rintro σ H4 ⟨y, rfl, s4⟩
            walk_at "rdA"
            exact hq H4 s4
def spSame (n : Nat) : Sp := fun vs H Q _ => ∃ x y, vs = [x, y] ∧ ((Sc x ∧ Sc y ∧ ∀ H', Same H H' → Q (.bl (decide (x = y))) H') ∨ (Alike H n x y ∧ ∀ H', Same H H' → Q (.bl true) H'))
theorem ok_same {n : Nat} {k : Nat} {f : Addr} {fd : FuncData} (F : Fun K "_law_same" "_law_same" s_law_same f fd) (T : Blt mg) (H_law_match : Has P w K mg base "_law_match" k ["left", "right", "strict"] (spMatch n)) : FnOk P w K mg base CX0 (k + 1) f fd ["actual", "expected"] (spSame n) := by
  refine F.ok sc_law_same (fun vs H Q E h => ?_) (fun cdv A outer s H vs Q E hr h => ?_)
  · obtain ⟨x, y, rfl, _⟩ := h; rfl
  · obtain ⟨x, y, rfl, h⟩ := h
    refine ⟨_, (pss_one (ps_ret (pe_callH H_law_match hr (by rfl) (pa_cons (pv 0) (pa_cons (pv 1) (pa_cons pe_bl pa_nil)))))), ?_⟩
    walk_at "rdA"
    exact ⟨_, _, _, rfl, h⟩
end

abbrev sBadNumber___init__ : Stmt := inClass (topS 3) 0
theorem scBadNumber___init__ : FnScope ["self", "number"] ["self", "number"] (defScope sBadNumber___init__) := ⟨rfl, rfl, rfl, by decide +kernel, rfl, by decide +kernel, by decide +kernel⟩
abbrev sis_number : Stmt := topS 8
theorem scis_number : FnScope ["value"] ["value"] (defScope sis_number) := ⟨rfl, rfl, rfl, by decide +kernel, rfl, by decide +kernel, by decide +kernel⟩
abbrev scheck_number : Stmt := topS 9
theorem sccheck_number : FnScope ["value"] ["value"] (defScope scheck_number) := ⟨rfl, rfl, rfl, by decide +kernel, rfl, by decide +kernel, by decide +kernel⟩
abbrev scheck_open_number : Stmt := topS 10
theorem sccheck_open_number : FnScope ["value"] ["value"] (defScope scheck_open_number) := ⟨rfl, rfl, rfl, by decide +kernel, rfl, by decide +kernel, by decide +kernel⟩
abbrev smay_take : Stmt := topS 11
theorem scmay_take : FnScope ["light", "ceiling"] ["light", "ceiling"] (defScope smay_take) := ⟨rfl, rfl, rfl, by decide +kernel, rfl, by decide +kernel, by decide +kernel⟩
abbrev stold_ends : Stmt := topS 13
theorem sctold_ends : FnScope ["first", "second", "end"] ["first", "second"] (defScope stold_ends) := ⟨rfl, rfl, rfl, by decide +kernel, rfl, by decide +kernel, by decide +kernel⟩
abbrev slesser_end : Stmt := topS 14
theorem sclesser_end : FnScope ["first", "second"] ["first", "second"] (defScope slesser_end) := ⟨rfl, rfl, rfl, by decide +kernel, rfl, by decide +kernel, by decide +kernel⟩
abbrev slower_ceiling : Stmt := topS 12
theorem sclower_ceiling : FnScope ["first", "second"] ["first", "second"] (defScope slower_ceiling) := ⟨rfl, rfl, rfl, by decide +kernel, rfl, by decide +kernel, by decide +kernel⟩

def isOpen : V → Bool
  | .non => true
  | v => isNum v
def under : V → V → Bool
  | _, .non => true
  | .int l, .int c => decide (l ≤ c)
  | _, _ => false
def ofV : V → List Int
  | .int i => [i]
  | _ => []
def tl (x y : V) : List Int := ofV x ++ ofV y
def lowC : V → V → V
  | .int i, .int j => .int (if j < i then j else i)
  | .non, y => y
  | x, _ => x
def NI (v : V) : Prop := v = .non ∨ ∃ i, v = .int i
section
variable {P : Program} {w : World} {K : PySem.W.Frag} {mg : Str → Option Value} {base : Heap} {C : Addr}
/-! ### the error -/
theorem ok_BadNumber_init {k : Nat} {f : Addr} {fd : FuncData} (F : Fun K "__init__" "BadNumber.__init__" sBadNumber___init__ f fd) : FnOk P w K mg base CX0 (k + 1) f fd ["self", "number"] (spInit1 K "number") := by
  refine F.ok scBadNumber___init__ (fun vs H Q E h => ?_) (fun cdv A outer s H vs Q E hr h => ?_)
  · obtain ⟨a, C, v, rfl, _⟩ := h; rfl
  · obtain ⟨a, C, v, rfl, ox, nf, ha, h⟩ := h
    refine ⟨_, (pss_one (ps_ost (pv 0) (pv 1))), ?_⟩
    exact ⟨v, rfl, .ref a, rfl, a, C, rfl, ox, nf, .inl ⟨ha, h⟩⟩
/-! ### is_number, check_number, check_open_number -/
theorem ok_p_is_number {k : Nat} {f : Addr} {fd : FuncData} (F : Fun K "is_number" "is_number" sis_number f fd) (T : Blt mg) : FnOk P w K mg base CX0 (k + 1) f fd ["value"] spIsNum := by
  refine F.ok scis_number (fun vs H Q E h => ?_) (fun cdv A outer s H vs Q E hr h => ?_)
  · obtain ⟨v, rfl, _⟩ := h; rfl
  · obtain ⟨v, rfl, hv, h⟩ := h
    refine ⟨_, (pss_one (ps_ret (pe_and (pe_callB call_isi (by rfl) T.isinstance (by decide +kernel) (pa_cons (pv 0) (pa_cons (pe_bltn (v := .ty "int") rfl T.int (by decide +kernel) rfl) pa_nil))) (pe_and (pe_not (pe_callB call_isi (by rfl) T.isinstance (by decide +kernel) (pa_cons (pv 0) (pa_cons (pe_bltn (v := .ty "bool") rfl T.bool (by decide +kernel) rfl) pa_nil)))) (pe_one (pe_chain op_le op_le (pe_un un_neg (pe_globI rfl T.g_LIMIT)) (pv 0) (pe_globI rfl T.g_LIMIT))))))), ?_⟩
    cases v <;> first | exact hv.elim | skip
    · walk_at "rdA"; exact h
    · walk_at "rdA"; exact h
    · rename_i n
      walk_at "rdA"
      have hh : ∀ b : Bool, b = isNum (.int n) → Q (.bl b) H := fun b e => by rw [e]; exact h
      refine if_dec (fun h1 => ?_) (fun h1 => ?_)
      · walk_at "rdA"
        refine hh _ ?_
        unfold isNum InR; simp [h1]
      · refine hh _ ?_
        unfold isNum InR; simp [h1]
    · walk_at "rdA"; exact h
def Err (E : XK) (C : Addr) (H : Hp) (v : V) : Prop := ∀ d H', Same H H' → H' d = some (.xd [("number", v)]) → E (.ref C) (some d) H'
def spCheck (C : Addr) : Sp := fun vs H Q E => ∃ v, vs = [v] ∧ Sc v ∧ (isNum v = true → Q v H) ∧ (isNum v = false → Err E C H v)
theorem ok_check_number {k : Nat} {f : Addr} {fd : FuncData} (F : Fun K "check_number" "check_number" scheck_number f fd) (T : Blt mg) (E_BadNumber : ErrC K mg "BadNumber" C) (I_BadNumber : HasI P w K mg base C 1 ["self", "number"] (spInit1 K "number")) (N_BadNumber_number : PySem.W.findIn K (.ref C) "number" = some none)
    (His_number : Has P w K mg base "is_number" k ["value"] spIsNum) (hk : 2 ≤ k) : FnOk P w K mg base (L2.CX P w) (k + 1) f fd ["value"] (spCheck C) := by
  refine F.okX sccheck_number (fun vs H Q E h => ?_) (fun cdv A outer s H vs Q E hr h => ?_)
  · obtain ⟨v, rfl, _⟩ := h; rfl
  · obtain ⟨v, rfl, hv, h1, h2⟩ := h
    refine ⟨_, (pss_cons (ps_if (pt_not (pt_val (pe_callH His_number hr (by rfl) (pa_cons (pv 0) pa_nil)))) (pss_one (ps_raiseC rfl (takes_of rfl rfl rfl rfl) E_BadNumber I_BadNumber hr (by omega) (by rfl) (pa_cons (pv 0) pa_nil))) pss_nil)
 (pss_one (ps_ret (pv 0)))), ?_⟩
    walk_at "rdA"
    refine ⟨v, rfl, hv, ?_⟩
    walk_at "rdA"
    refine if_nbool (fun hn => ?_) (fun hn => ?_)
    · walk_at "rdA"
      exact rd_mk1 E_BadNumber.ox N_BadNumber_number fun d H' _ sm e => h2 hn d H' sm e
    · walk_at "rdA"
      exact h1 hn
def spCheckO (C : Addr) : Sp := fun vs H Q E => ∃ v, vs = [v] ∧ Sc v ∧ (isOpen v = true → Q v H) ∧ (isOpen v = false → Err E C H v)
theorem ok_check_open_number {k : Nat} {f : Addr} {fd : FuncData} (F : Fun K "check_open_number" "check_open_number" scheck_open_number f fd) (T : Blt mg) (Hcheck_number : HasX P w K mg base "check_number" k ["value"] (spCheck C)) : FnOk P w K mg base (L2.CX P w) (k + 1) f fd ["value"] (spCheckO C) := by
  refine F.okX sccheck_open_number (fun vs H Q E h => ?_) (fun cdv A outer s H vs Q E hr h => ?_)
  · obtain ⟨v, rfl, _⟩ := h; rfl
  · obtain ⟨v, rfl, hv, h1, h2⟩ := h
    refine ⟨_, (pss_cons (ps_if (pt_cmpR op_isN (pv 0) pe_non (nomark _)) (pss_one (ps_ret pe_non)) pss_nil)
 (pss_one (ps_ret (pe_callX Hcheck_number hr (by rfl) (takes_of rfl rfl rfl rfl) (pa_cons (pv 0) pa_nil))))), ?_⟩
    cases v <;> first | exact hv.elim | skip
    · walk_at "rdA"; exact h1 rfl
    all_goals walk_at "rdA"
    all_goals exact ⟨_, rfl, trivial, h1, h2⟩
/-! ### may_take -/
def spMay (C : Addr) : Sp := fun vs H Q E => ∃ l c, vs = [l, c] ∧ Sc l ∧ Sc c ∧ (isNum l = true → isOpen c = true → Q (.bl (under l c)) H) ∧ (isNum l = false → Err E C H l) ∧ (isNum l = true → isOpen c = false → Err E C H c)
theorem ok_may_take {k : Nat} {f : Addr} {fd : FuncData} (F : Fun K "may_take" "may_take" smay_take f fd) (T : Blt mg) (Hcheck_number : HasX P w K mg base "check_number" k ["value"] (spCheck C)) (Hcheck_open_number : HasX P w K mg base "check_open_number" k ["value"] (spCheckO C)) : FnOk P w K mg base (L2.CX P w) (k + 1) f fd ["light", "ceiling"] (spMay C) := by
  refine F.okX scmay_take (fun vs H Q E h => ?_) (fun cdv A outer s H vs Q E hr h => ?_)
  · obtain ⟨l, c, rfl, _⟩ := h; rfl
  · obtain ⟨l, c, rfl, hl, hc, h1, h2, h3⟩ := h
    refine ⟨_, (pss_cons (ps_expr (pe_callX Hcheck_number hr (by rfl) (takes_of rfl rfl rfl rfl) (pa_cons (pv 0) pa_nil)))
 (pss_cons (ps_expr (pe_callX Hcheck_open_number hr (by rfl) (takes_of rfl rfl rfl rfl) (pa_cons (pv 1) pa_nil)))
 (pss_one (ps_ret (pe_or (pe_cmpR op_isN (pv 1) pe_non (nomark _)) (pe_one (pe_cmpR op_le (pv 0) (pv 1) (nomark _)))))))), ?_⟩
    walk_at "rdA"
    refine ⟨l, rfl, hl, fun nl => ?_, h2⟩
    walk_at "rdA"
    refine ⟨c, rfl, hc, fun oc => ?_, h3 nl⟩
    have h1 := h1 nl oc
    cases l with
    | int i =>
      cases c with
      | non => walk_at "rdA"; exact h1
      | int j => walk_at "rdA"; exact h1
      | _ => cases oc
    | _ => cases nl
/-! ### told_ends, lesser_end, lower_ceiling -/
def keepN : V → Option V
  | .non => none
  | v => some v
theorem keep_tl {x y : V} (hx : NI x) (hy : NI y) : [x, y].filterMap keepN = (tl x y).map V.int := by
  rcases hx with rfl | ⟨i, rfl⟩ <;> rcases hy with rfl | ⟨j, rfl⟩ <;> rfl
def spTold : Sp := fun vs H Q _ => ∃ x y, vs = [x, y] ∧ NI x ∧ NI y ∧ ∀ p H', Same H H' → H' p = some (.lst ((tl x y).map V.int)) → Q (.ref p) H'
theorem ok_told_ends {k : Nat} {f : Addr} {fd : FuncData} (F : Fun K "told_ends" "told_ends" stold_ends f fd) (T : Blt mg) : FnOk P w K mg base CX0 (k + 1) f fd ["first", "second"] spTold := by
  refine F.ok sctold_ends (fun vs H Q E h => ?_) (fun cdv A outer s H vs Q E hr h => ?_)
  · obtain ⟨x, y, rfl, _⟩ := h; rfl
  · obtain ⟨x, y, rfl, hx, hy, h⟩ := h
    refine ⟨_, (pss_one (ps_ret (pe_lc (own := [("end", 2)]) (g := gName 2) (by rfl) sctold_ends.nd (pi_tup (pe_tup (pa_cons (pv 0) (pa_cons (pv 1) pa_nil)))) (blkOk_by (own := [("end", 2)]) (N := ["first", "second", "end"]) (sc := defScope stold_ends) (by decide +kernel)) (fun _ _ _ _ _ => pg_name (i := 2) sctold_ends.nd rfl (Or.inl rfl)) (fun _ _ _ _ _ => (pts_one (pt_cmpR op_notN (pv 2) pe_non (nomark _)))) (fun _ _ _ _ _ => (pv 2))))), ?_⟩
    walk_at "rdA"
    refine ⟨sz (by simp), fun tp ntp => ?_⟩
    refine ⟨tp, rfl, ⟨_, st_of upd_same⟩, fun D nD => lc_tup (xs := [x, y]) (fun i H' => Same H H' ∧ H' tp = some (.tup [x, y]) ∧ H' D = some (.lst (([x, y].take i).filterMap keepN))) ⟨(same_new ntp).trans (same_new nD), same_new nD _ _ upd_same, upd_same⟩ (fun i H' _ hp => st_of hp.2.1) (fun i z H' hz hp => ?_) (fun H' hp => ?_)⟩
    · obtain ⟨s1, s2, s3⟩ := hp
      have hD : D ≠ tp := (ne_of_none upd_same nD).symm
      have ntD : H D = none := by rw [upd_ne hD] at nD; exact nD
      have ez : ([x, y].take (i + 1)).filterMap keepN = ([x, y].take i).filterMap keepN ++ (match keepN z with | none => [] | some v => [v]) := by
        rw [List.take_add_one, hz, List.filterMap_append]
        cases e : keepN z <;> simp [e]
      have hzn : NI z := by
        have := List.mem_of_getElem? hz
        simp at this
        rcases this with rfl | rfl <;> assumption
      refine ⟨rfl, ?_⟩
      rcases hzn with rfl | ⟨n, rfl⟩
      · walk_at "rdA"
        refine ⟨s1, s2, ?_⟩
        rw [ez, s3]; simp [keepN]
      · walk_at "rdA"
        refine ⟨_, s3, ?_, ?_, ?_, ?_⟩
        · have := List.length_filterMap_le keepN ([x, y].take i)
          have h2 : ([x, y].take i).length ≤ 2 := by rw [List.length_take]; simp; omega
          exact Nat.lt_of_le_of_lt (by omega : _ ≤ 2) (by decide)
        · exact same_mut s1 ntD
        · rw [upd_ne hD.symm]; exact s2
        · rw [upd_same, ez]; rfl
    · obtain ⟨s1, s2, s3⟩ := hp
      refine h D H' s1 ?_
      rw [s3, ← keep_tl hx hy]; rfl
def spLesser : Sp := fun vs H Q _ => ∃ x y, vs = [x, y] ∧ NI x ∧ NI y ∧ ∀ H', Same H H' → Q (lowC x y) H'
theorem ok_lesser_end {k : Nat} {f : Addr} {fd : FuncData} (F : Fun K "lesser_end" "lesser_end" slesser_end f fd) (T : Blt mg) (Htold_ends : Has P w K mg base "told_ends" k ["first", "second"] spTold) : FnOk P w K mg base CX0 (k + 1) f fd ["first", "second"] spLesser := by
  refine F.ok sclesser_end (fun vs H Q E h => ?_) (fun cdv A outer s H vs Q E hr h => ?_)
  · obtain ⟨x, y, rfl, _⟩ := h; rfl
  · obtain ⟨x, y, rfl, hx, hy, h⟩ := h
    refine ⟨_, (pss_one (ps_ret (pe_callBK (cr_minD rfl hr.units) (by rfl) T.min (by decide +kernel) (pa_cons (pe_callH Htold_ends hr (by rfl) (pa_cons (pv 0) (pa_cons (pv 1) pa_nil))) pa_nil) (pk_cons pe_non pk_nil)))), ?_⟩
    walk_at "rdA"
    refine ⟨x, y, rfl, hx, hy, fun p H' s1 hp => ?_⟩
    walk_at "rdA"
    have h := h H' s1
    refine ⟨p, _, .non, rfl, rfl, sl_of hp, fun e => ?_, fun m hm hl => ?_⟩
    · rcases hx with rfl | ⟨i, rfl⟩ <;> rcases hy with rfl | ⟨j, rfl⟩ <;> first | exact h | cases e
    · rcases hx with rfl | ⟨i, rfl⟩ <;> rcases hy with rfl | ⟨j, rfl⟩ <;> simp [tl, ofV] at hm hl <;> (try simp [lowC] at h)
      · subst hm; exact h
      · subst hm; exact h
      · have : m = if j < i then j else i := by split <;> omega
        rw [this]; exact h
def spLowerC (C : Addr) : Sp := fun vs H Q E => ∃ x y, vs = [x, y] ∧ Sc x ∧ Sc y ∧ (isOpen x = true → isOpen y = true → ∀ H', Same H H' → Q (lowC x y) H') ∧ (isOpen x = false → Err E C H x) ∧ (isOpen x = true → isOpen y = false → Err E C H y)
theorem open_NI {x : V} (h : isOpen x = true) : NI x := by
  cases x <;> first | exact .inl rfl | exact .inr ⟨_, rfl⟩ | cases h
theorem ok_lower_ceiling {k : Nat} {f : Addr} {fd : FuncData} (F : Fun K "lower_ceiling" "lower_ceiling" slower_ceiling f fd) (T : Blt mg) (Hcheck_open_number : HasX P w K mg base "check_open_number" k ["value"] (spCheckO C)) (Hlesser_end : Has P w K mg base "lesser_end" k ["first", "second"] spLesser) : FnOk P w K mg base (L2.CX P w) (k + 1) f fd ["first", "second"] (spLowerC C) := by
  refine F.okX sclower_ceiling (fun vs H Q E h => ?_) (fun cdv A outer s H vs Q E hr h => ?_)
  · obtain ⟨l, c, rfl, _⟩ := h; rfl
  · obtain ⟨l, c, rfl, hl, hc, h1, h2, h3⟩ := h
    refine ⟨_, (pss_cons (ps_expr (pe_callX Hcheck_open_number hr (by rfl) (takes_of rfl rfl rfl rfl) (pa_cons (pv 0) pa_nil)))
 (pss_cons (ps_expr (pe_callX Hcheck_open_number hr (by rfl) (takes_of rfl rfl rfl rfl) (pa_cons (pv 1) pa_nil)))
 (pss_one (ps_ret (pe_callH Hlesser_end hr (by rfl) (pa_cons (pv 0) (pa_cons (pv 1) pa_nil))))))), ?_⟩
    walk_at "rdA"
    refine ⟨l, rfl, hl, fun nl => ?_, h2⟩
    walk_at "rdA"
    refine ⟨c, rfl, hc, fun oc => ?_, h3 nl⟩
    walk_at "rdA"
    exact ⟨l, c, rfl, open_NI nl, open_NI oc, h1 nl oc⟩
end

abbrev s_law_tried : Stmt := topS 32
theorem sc_law_tried : FnScope ["numbers", "told", "number"] ["numbers"] (defScope s_law_tried) := ⟨rfl, rfl, rfl, by decide +kernel, rfl, by decide +kernel, by decide +kernel⟩
abbrev s_law_bar : Stmt := topS 27
theorem sc_law_bar : FnScope ["store", "pool", "kind"] ["store", "pool"] (defScope s_law_bar) := ⟨rfl, rfl, rfl, by decide +kernel, rfl, by decide +kernel, by decide +kernel⟩
abbrev s_law_asked : Stmt := topS 33
theorem sc_law_asked : FnScope ["k", "one", "two", "e", "fits"] ["k", "one", "two"] (defScope s_law_asked) := ⟨rfl, rfl, rfl, by decide +kernel, rfl, by decide +kernel, by decide +kernel⟩

theorem pe_globC {X : Cx} {x : Str} {C : Addr} {pos : Pos} (hg : Gl X x) (hm : X.mg x = some (.ref C)) (hd : (x == ("__debug__" : Str)) = false := by decide) : PE X (.Name x pos) (tC (.ref C)) := pe_glob hg hm rfl hd
def Nm (v : V) : Prop := ∃ n, v = .int n ∧ InR n
def Bar (v : V) : Prop := v = .non ∨ Nm v
theorem Bar.open {v : V} (h : Bar v) : isOpen v = true := by
  rcases h with rfl | ⟨n, rfl, h⟩
  · rfl
  · show decide (InR n) = true
    exact decide_eq_true h
theorem Bar.sc {v : V} (h : Bar v) : Sc v := by
  rcases h with rfl | ⟨n, rfl, h⟩ <;> trivial
theorem Bar.ni {v : V} (h : Bar v) : NI v := by
  rcases h with rfl | ⟨n, rfl, h⟩
  · exact .inl rfl
  · exact .inr ⟨n, rfl⟩
theorem num_of {n : Int} (h : InR n) : isNum (.int n) = true := decide_eq_true h
section
variable {P : Program} {w : World} {K : PySem.W.Frag} {mg : Str → Option Value} {base : Heap} {C : Addr}
/-! ### _law_tried -/
def spTried : Sp := fun vs H Q _ => ∃ a, ∃ ns : List Int, vs = [.ref a] ∧ H a = some (.lst (ns.map V.int)) ∧ (∀ n ∈ ns, InR n) ∧ ns.length ≤ 1000 ∧ ∀ p, ∀ ms : List Int, ∀ H', (∀ m ∈ ms, InR m) → ms.length ≤ 10000 → Same H H' → H p = none → H' p = some (.lst (ms.map V.int)) → Q (.ref p) H'
theorem ok_tried {k : Nat} {f : Addr} {fd : FuncData} (F : Fun K "_law_tried" "_law_tried" s_law_tried f fd) (T : Blt mg) (H_law_clamped : Has P w K mg base "_law_clamped" k ["number"] spClamped) (H_law_unlike : Has P w K mg base "_law_unlike" k ["items"] spUnlike) : FnOk P w K mg base CX0 (k + 1) f fd ["numbers"] spTried := by
  refine F.ok sc_law_tried (fun vs H Q E h => ?_) (fun cdv A outer s H vs Q E hr h => ?_)
  · obtain ⟨a, ns, rfl, _⟩ := h; rfl
  · obtain ⟨a, ns, rfl, hA, hns, l1, h⟩ := h
    refine ⟨_, (pss_cons (ps_set (i := 1) sc_law_tried.nd rfl (.inl rfl) (pe_lst (pa_cons (pe_un un_neg (pe_op op_pow pe_int pe_int)) (pa_cons (pe_op op_pow pe_int pe_int) pa_nil))))
 (pss_cons (ps_for PassesOwn.never rfl (pi_list (pv 0)) (pg_name (i := 2) sc_law_tried.nd rfl (.inl rfl)) (pss_one (ps_set (i := 1) sc_law_tried.nd rfl (.inl rfl) (pe_op op_cat (pv 1) (pe_lst (pa_cons (pe_callH H_law_clamped hr (by rfl) (pa_cons (pe_op op_sub (pv 2) pe_int) pa_nil)) (pa_cons (pv 2) (pa_cons (pe_callH H_law_clamped hr (by rfl) (pa_cons (pe_op op_add (pv 2) pe_int) pa_nil)) pa_nil))))))))
 (pss_one (ps_ret (pe_callB cr_sortedI (by rfl) T.sorted (by decide +kernel) (pa_cons (pe_callH H_law_unlike hr (by rfl) (pa_cons (pv 1) pa_nil)) pa_nil)))))), ?_⟩
    walk_at "rdA"
    refine ⟨sz (by simp), fun t nt => ?_⟩
    walk_at "rdA"
    refine ⟨a, rfl, ⟨_, sl_of (same_new nt _ _ hA)⟩, for_lst (xs := ns.map V.int) (fun i σ H' => ∃ t y, ∃ ts : List Int, σ = [some (.ref a), some (.ref t), y] ∧ H' t = some (.lst (ts.map V.int)) ∧ (∀ n ∈ ts, InR n) ∧ ts.length ≤ 2 + 3 * i ∧ Same H H') ⟨t, none, [-1000000000000, 1000000000000], rfl, upd_same, by simp [InR], by simp, same_new nt⟩ ?_ ?_ ?_⟩
    · rintro i σ H' ⟨t, y, ts, rfl, _, _, _, sm⟩
      exact sm _ _ hA
    · rintro i x σ H' hi ⟨t, y, ts, rfl, ht, hts, hl, sm⟩
      obtain ⟨n, hn, rfl⟩ := get_map hi
      have hil : i < ns.length := (List.getElem?_eq_some_iff.mp hn).1
      have hnR := hns n (List.mem_of_getElem? hn)
      walk_at "rdA"
      refine ⟨_, rfl, fun m1 r1 _ => ?_⟩
      walk_at "rdA"
      refine ⟨_, rfl, fun m2 r2 _ => ?_⟩
      walk_at "rdA"
      refine ⟨sz (by simp), fun u nu => ?_⟩
      refine ⟨t, u, _, _, rfl, rfl, same_new nu _ _ ht, upd_same, sz (by simp; omega), fun p np => ?_⟩
      walk_at "rdA"
      refine ⟨p, _, ts ++ [m1, n, m2], rfl, ?_, ?_, ?_, (sm.trans (same_new nu)).trans (same_new np)⟩
      · rw [upd_same, List.map_append]; rfl
      · intro z hz
        rcases List.mem_append.mp hz with h1 | h1
        · exact hts z h1
        · simp at h1
          rcases h1 with rfl | rfl | rfl <;> assumption
      · rw [List.length_append]; simp; omega
    · rintro σ H' ⟨t, y, ts, rfl, ht, hts, hl, sm⟩
      have hl : ts.length ≤ 2 + 3 * ns.length := by simpa using hl
      walk_at "rdA"
      refine ⟨t, ts, rfl, ht, by omega, fun p ms H2 hm lm np hp s2 => ?_⟩
      walk_at "rdA"
      refine ⟨p, ms, rfl, sl_of hp, fun ms' p2 hperm _ np2 => ?_⟩
      have sm3 := (sm.trans s2).trans (same_new (o := .lst (ms'.map V.int)) np2)
      exact h p2 ms' _ (fun z hz => hts z (hm z (hperm.mem_iff.mp hz))) (by rw [hperm.length_eq]; omega) sm3 ((sm.trans s2).free np2) upd_same
/-! ### _law_bar -/
def spBar : Sp := fun vs H Q _ => ∃ S : Sto, ∃ p, ∃ ns : List Int, vs = [.ref S.1, .ref p] ∧ StoreOk S H ∧ At S H p (.lst (ns.map V.int)) ∧ 0 < ns.length ∧ ns.length < 1000 ∧ (∀ n ∈ ns, InR n) ∧ ∀ v H', Bar v → StoreOk S H' → ExS S H H' → Q v H'
theorem ok_bar {k : Nat} {f : Addr} {fd : FuncData} (F : Fun K "_law_bar" "_law_bar" s_law_bar f fd) (T : Blt mg) (H_law_take : Has P w K mg base "_law_take" k ["store", "many"] spTake) (H_law_pick : Has P w K mg base "_law_pick" k ["store", "items"] spPick) (H_law_near : Has P w K mg base "_law_near" k ["store", "pool"] spNear) : FnOk P w K mg base CX0 (k + 1) f fd ["store", "pool"] spBar := by
  refine F.ok sc_law_bar (fun vs H Q E h => ?_) (fun cdv A outer s H vs Q E hr h => ?_)
  · obtain ⟨S, p, ns, rfl, _⟩ := h; rfl
  · obtain ⟨S, p, ns, rfl, hS, hA, l0, l1, hR, h⟩ := h
    refine ⟨_, (pss_cons (ps_set (i := 2) sc_law_bar.nd rfl (.inl rfl) (pe_callH H_law_take hr (by rfl) (pa_cons (pv 0) (pa_cons pe_int pa_nil))))
 (pss_cons (ps_if (pt_cmpR op_lt (pv 2) pe_int (nomark _)) (pss_one (ps_ret pe_non)) pss_nil)
 (pss_cons (ps_if (pt_cmpR op_eq (pv 2) pe_int (nomark _)) (pss_one (ps_ret (pe_callH H_law_near hr (by rfl) (pa_cons (pv 0) (pa_cons (pv 1) pa_nil))))) pss_nil)
 (pss_one (ps_ret (pe_callH H_law_pick hr (by rfl) (pa_cons (pv 0) (pa_cons (pv 1) pa_nil)))))))), ?_⟩
    walk_at "rdA"
    refine ⟨S, 4, rfl, by omega, hS, fun kd H1 k0 k1 hS1 e1 => ?_⟩
    walk_at "rdA"
    refine if_dec (fun h1 => ?_) (fun h1 => ?_)
    · walk_at "rdA"
      exact h _ _ (.inl rfl) hS1 e1
    · walk_at "rdA"
      refine if_dec (fun h2 => ?_) (fun h2 => ?_)
      · walk_at "rdA"
        refine ⟨S, p, ns, rfl, hS1, hA.back e1, l0, l1, fun n H2 hn hS2 e2 => ?_⟩
        exact h _ _ (.inr ⟨n, rfl, hn⟩) hS2 (e1.trans e2)
      · walk_at "rdA"
        refine ⟨S, p, _, rfl, hS1, hA.back e1, by simpa using l0, by rw [List.length_map]; omega, fun v H2 hv hS2 e2 => ?_⟩
        obtain ⟨n, hn, rfl⟩ := List.mem_map.mp hv
        exact h _ _ (.inr ⟨n, rfl, hR n hn⟩) hS2 (e1.trans e2)
/-! ### _law_asked -/
def askBad (k : Int) (one two : V) : Option V :=
  if k ≤ 1 then (if isNum one = true then (if isOpen two = true then none else some two) else some one)
  else if k ≤ 3 then (if isOpen one = true then (if isOpen two = true then none else some two) else some one)
  else (if isNum one = true then none else some one)
def askVal (k : Int) (one two : V) : V := if k ≤ 1 then .bl (under one two) else if k ≤ 3 then lowC one two else one
def errT (v : V) : HO := .tup [.str "BadNumber", v, .bl true, .bl false]
def spAsked : Sp := fun vs H Q _ => ∃ k one two, vs = [.int k, one, two] ∧ 0 ≤ k ∧ k ≤ 5 ∧ Sc one ∧ Sc two ∧ (askBad k one two = none → ∀ H', Same H H' → Q (askVal k one two) H') ∧ (∀ v, askBad k one two = some v → ∀ p H', Same H H' → H p = none → H' p = some (errT v) → Q (.ref p) H')
structure Errs (K : PySem.W.Frag) (mg : Str → Option Value) (C cO cN cS cR : Addr) : Prop where
  g_OutshinerError : mg "OutshinerError" = some (.ref cO)
  g_BadName : mg "BadName" = some (.ref cN)
  g_BadSpan : mg "BadSpan" = some (.ref cS)
  g_OutOfRange : mg "OutOfRange" = some (.ref cR)
  isO : PySem.W.kitOne K (.ref C) (.ref cO) = some true
  isV : PySem.W.kitOne K (.ref C) (.type "ValueError") = some true
  isN : PySem.W.kitOne K (.ref C) (.ref cN) = some false
  isS : PySem.W.kitOne K (.ref C) (.ref cS) = some false
  isR : PySem.W.kitOne K (.ref C) (.ref cR) = some false
theorem ok_asked {k : Nat} {f cO cN cS cR : Addr} {fd : FuncData} (F : Fun K "_law_asked" "_law_asked" s_law_asked f fd) (T : Blt mg) (TE : Errs K mg C cO cN cS cR) (E_BadNumber : ErrC K mg "BadNumber" C) (N_BadNumber_number : PySem.W.findIn K (.ref C) "number" = some none)
    (Hmay_take : HasX P w K mg base "may_take" k ["light", "ceiling"] (spMay C)) (HKmay_take_ceiling_light : HasK P w K mg base (L2.CX P w) "may_take" k ["light", "ceiling"] ["ceiling", "light"] List.reverse (spMay C))
    (Hlower_ceiling : HasX P w K mg base "lower_ceiling" k ["first", "second"] (spLowerC C)) (HKlower_ceiling_second_first : HasK P w K mg base (L2.CX P w) "lower_ceiling" k ["first", "second"] ["second", "first"] List.reverse (spLowerC C))
    (Hcheck_number : HasX P w K mg base "check_number" k ["value"] (spCheck C)) (HKcheck_number_value : HasK P w K mg base (L2.CX P w) "check_number" k ["value"] ["value"] id (spCheck C)) : FnOk P w K mg base CX0 (k + 1) f fd ["k", "one", "two"] spAsked := by
  refine F.ok sc_law_asked (fun vs H Q E h => ?_) (fun cdv A outer s H vs Q E hr h => ?_)
  · obtain ⟨k, one, two, rfl, _⟩ := h; rfl
  · obtain ⟨k, one, two, rfl, k0, k5, s1, s2, hv, he⟩ := h
    refine ⟨_, (pss_one (ps_try_as (i := 3) (Wout := fun _ _ _ _ => False) rfl rfl sc_law_asked.nd rfl rfl ⟨rfl, by decide, Or.inl E_BadNumber.gC⟩ takes0 (fun W pn xe tk _ => (pss_cons (ps_if (pt_cmpR op_eq (pv 0) pe_int (nomark _)) (pss_one (ps_ret (pe_callX Hmay_take hr (by rfl) tk (pa_cons (pv 1) (pa_cons (pv 2) pa_nil))))) pss_nil)
 (pss_cons (ps_if (pt_cmpR op_eq (pv 0) pe_int (nomark _)) (pss_one (ps_ret (pe_callKS (ks := ["ceiling", "light"]) HKmay_take_ceiling_light hr (by rfl) (fun σ => passAt tk σ) (pk_cons (pv 2) (pk_cons (pv 1) pk_nil))))) pss_nil)
 (pss_cons (ps_if (pt_cmpR op_eq (pv 0) pe_int (nomark _)) (pss_one (ps_ret (pe_callX Hlower_ceiling hr (by rfl) tk (pa_cons (pv 1) (pa_cons (pv 2) pa_nil))))) pss_nil)
 (pss_cons (ps_if (pt_cmpR op_eq (pv 0) pe_int (nomark _)) (pss_one (ps_ret (pe_callKS (ks := ["second", "first"]) HKlower_ceiling_second_first hr (by rfl) (fun σ => passAt tk σ) (pk_cons (pv 2) (pk_cons (pv 1) pk_nil))))) pss_nil)
 (pss_cons (ps_if (pt_cmpR op_eq (pv 0) pe_int (nomark _)) (pss_one (ps_ret (pe_callX Hcheck_number hr (by rfl) tk (pa_cons (pv 1) pa_nil)))) pss_nil)
 (pss_one (ps_ret (pe_callKS (ks := ["value"]) HKcheck_number_value hr (by rfl) (fun σ => passAt tk σ) (pk_cons (pv 1) pk_nil)))))))))) (fun a oe cls d pn hz hf => (pss_cons (ps_set (i := 4) sc_law_asked.nd rfl (.inl rfl) (pe_and (pe_callB (call_isX (K := K) rfl hz hf) (by rfl) T.isinstance (by decide +kernel) (pa_cons (pv 3) (pa_cons (pe_globC rfl TE.g_OutshinerError) pa_nil))) (pe_one (pe_callB (call_isX (K := K) rfl hz hf) (by rfl) T.isinstance (by decide +kernel) (pa_cons (pv 3) (pa_cons (pe_bltn (v := .ty "ValueError") rfl T.ValueError (by decide +kernel) rfl) pa_nil))))))
 (pss_one (ps_ret (pe_tup (pa_cons pe_str (pa_cons (pe_xf E_BadNumber.xf N_BadNumber_number hz hf (pv 3)) (pa_cons (pv 4) (pa_cons (pe_callB (call_isXT (K := K) rfl hz hf) (by rfl) T.isinstance (by decide +kernel) (pa_cons (pv 3) (pa_cons (pe_tup (pa_cons (pe_globC rfl TE.g_BadName) (pa_cons (pe_globC rfl TE.g_BadSpan) (pa_cons (pe_globC rfl TE.g_OutOfRange) pa_nil)))) pa_nil))) pa_nil))))))))))), ?_⟩
    have kany : PySem.W.kitAny K (.ref C) [.ref cN, .ref cS, .ref cR] = some false := kitAny_cons TE.isN (fun _ => kitAny_cons TE.isS (fun _ => kitAny_cons TE.isR (fun _ => rfl) (fun h => by cases h)) (fun h => by cases h)) (fun h => by cases h)
    walk_at "rdA"
    refine if_dec (fun hk => ?_) (fun hk0 => ?_)
    · subst hk
      walk_at "rdA"
      refine ⟨one, two, rfl, s1, s2, fun n1 o2 => ?_, fun n1 => ?_, fun n1 o2 => ?_⟩
      · exact hv (by simp [askBad, n1, o2]) H (Same.refl H)
      · refine fun d H' sm e => ?_
        refine ⟨true, E_BadNumber.self, fun _ a na => ?_, fun q => Bool.noConfusion q⟩
        walk_at "rdA"
        refine ⟨C, d, _, .ref cO, .ref cO, true, rfl, rfl, e, E_BadNumber.ec, rfl, fun _ r => r, TE.isO, ?_⟩
        walk_at "rdA"
        refine ⟨C, d, _, .ty "ValueError", .type "ValueError", true, rfl, rfl, e, E_BadNumber.ec, rfl, fun _ r => r, TE.isV, ?_⟩
        walk_at "rdA"
        refine ⟨rfl, rfl, d, _, one, rfl, e, (by simp [List.lookup]), ?_⟩
        walk_at "rdA"
        refine ⟨sz (by simp), fun tp ntp => ?_⟩
        walk_at "rdA"
        refine ⟨C, d, _, tp, _, _, false, rfl, rfl, same_new ntp _ _ e, E_BadNumber.ec, rfl, upd_same, .cons (.own _) (.cons (.own _) (.cons (.own _) .nil)), kany, ?_⟩
        walk_at "rdA"
        refine ⟨sz (by simp), fun p np => ?_⟩
        exact he one (by simp [askBad, n1]) p _ (sm.trans ((same_new ntp).trans (same_new np))) (sm.free ((same_new ntp).free np)) upd_same
      · refine fun d H' sm e => ?_
        refine ⟨true, E_BadNumber.self, fun _ a na => ?_, fun q => Bool.noConfusion q⟩
        walk_at "rdA"
        refine ⟨C, d, _, .ref cO, .ref cO, true, rfl, rfl, e, E_BadNumber.ec, rfl, fun _ r => r, TE.isO, ?_⟩
        walk_at "rdA"
        refine ⟨C, d, _, .ty "ValueError", .type "ValueError", true, rfl, rfl, e, E_BadNumber.ec, rfl, fun _ r => r, TE.isV, ?_⟩
        walk_at "rdA"
        refine ⟨rfl, rfl, d, _, two, rfl, e, (by simp [List.lookup]), ?_⟩
        walk_at "rdA"
        refine ⟨sz (by simp), fun tp ntp => ?_⟩
        walk_at "rdA"
        refine ⟨C, d, _, tp, _, _, false, rfl, rfl, same_new ntp _ _ e, E_BadNumber.ec, rfl, upd_same, .cons (.own _) (.cons (.own _) (.cons (.own _) .nil)), kany, ?_⟩
        walk_at "rdA"
        refine ⟨sz (by simp), fun p np => ?_⟩
        exact he two (by simp [askBad, n1, o2]) p _ (sm.trans ((same_new ntp).trans (same_new np))) (sm.free ((same_new ntp).free np)) upd_same
    · walk_at "rdA"
      refine if_dec (fun hk => ?_) (fun hk1 => ?_)
      · subst hk
        walk_at "rdA"
        refine ⟨rfl, one, two, rfl, s1, s2, fun n1 o2 => ?_, fun n1 => ?_, fun n1 o2 => ?_⟩
        · exact hv (by simp [askBad, n1, o2]) H (Same.refl H)
        · refine fun d H' sm e => ?_
          refine ⟨true, E_BadNumber.self, fun _ a na => ?_, fun q => Bool.noConfusion q⟩
          walk_at "rdA"
          refine ⟨C, d, _, .ref cO, .ref cO, true, rfl, rfl, e, E_BadNumber.ec, rfl, fun _ r => r, TE.isO, ?_⟩
          walk_at "rdA"
          refine ⟨C, d, _, .ty "ValueError", .type "ValueError", true, rfl, rfl, e, E_BadNumber.ec, rfl, fun _ r => r, TE.isV, ?_⟩
          walk_at "rdA"
          refine ⟨rfl, rfl, d, _, one, rfl, e, (by simp [List.lookup]), ?_⟩
          walk_at "rdA"
          refine ⟨sz (by simp), fun tp ntp => ?_⟩
          walk_at "rdA"
          refine ⟨C, d, _, tp, _, _, false, rfl, rfl, same_new ntp _ _ e, E_BadNumber.ec, rfl, upd_same, .cons (.own _) (.cons (.own _) (.cons (.own _) .nil)), kany, ?_⟩
          walk_at "rdA"
          refine ⟨sz (by simp), fun p np => ?_⟩
          exact he one (by simp [askBad, n1]) p _ (sm.trans ((same_new ntp).trans (same_new np))) (sm.free ((same_new ntp).free np)) upd_same
        · refine fun d H' sm e => ?_
          refine ⟨true, E_BadNumber.self, fun _ a na => ?_, fun q => Bool.noConfusion q⟩
          walk_at "rdA"
          refine ⟨C, d, _, .ref cO, .ref cO, true, rfl, rfl, e, E_BadNumber.ec, rfl, fun _ r => r, TE.isO, ?_⟩
          walk_at "rdA"
          refine ⟨C, d, _, .ty "ValueError", .type "ValueError", true, rfl, rfl, e, E_BadNumber.ec, rfl, fun _ r => r, TE.isV, ?_⟩
          walk_at "rdA"
          refine ⟨rfl, rfl, d, _, two, rfl, e, (by simp [List.lookup]), ?_⟩
          walk_at "rdA"
          refine ⟨sz (by simp), fun tp ntp => ?_⟩
          walk_at "rdA"
          refine ⟨C, d, _, tp, _, _, false, rfl, rfl, same_new ntp _ _ e, E_BadNumber.ec, rfl, upd_same, .cons (.own _) (.cons (.own _) (.cons (.own _) .nil)), kany, ?_⟩
          walk_at "rdA"
          refine ⟨sz (by simp), fun p np => ?_⟩
          exact he two (by simp [askBad, n1, o2]) p _ (sm.trans ((same_new ntp).trans (same_new np))) (sm.free ((same_new ntp).free np)) upd_same
      · walk_at "rdA"
        refine if_dec (fun hk => ?_) (fun hk2 => ?_)
        · subst hk
          walk_at "rdA"
          refine ⟨one, two, rfl, s1, s2, fun n1 o2 H2 sm2 => ?_, fun n1 => ?_, fun n1 o2 => ?_⟩
          · exact hv (by simp [askBad, n1, o2]) H2 sm2
          · refine fun d H' sm e => ?_
            refine ⟨true, E_BadNumber.self, fun _ a na => ?_, fun q => Bool.noConfusion q⟩
            walk_at "rdA"
            refine ⟨C, d, _, .ref cO, .ref cO, true, rfl, rfl, e, E_BadNumber.ec, rfl, fun _ r => r, TE.isO, ?_⟩
            walk_at "rdA"
            refine ⟨C, d, _, .ty "ValueError", .type "ValueError", true, rfl, rfl, e, E_BadNumber.ec, rfl, fun _ r => r, TE.isV, ?_⟩
            walk_at "rdA"
            refine ⟨rfl, rfl, d, _, one, rfl, e, (by simp [List.lookup]), ?_⟩
            walk_at "rdA"
            refine ⟨sz (by simp), fun tp ntp => ?_⟩
            walk_at "rdA"
            refine ⟨C, d, _, tp, _, _, false, rfl, rfl, same_new ntp _ _ e, E_BadNumber.ec, rfl, upd_same, .cons (.own _) (.cons (.own _) (.cons (.own _) .nil)), kany, ?_⟩
            walk_at "rdA"
            refine ⟨sz (by simp), fun p np => ?_⟩
            exact he one (by simp [askBad, n1]) p _ (sm.trans ((same_new ntp).trans (same_new np))) (sm.free ((same_new ntp).free np)) upd_same
          · refine fun d H' sm e => ?_
            refine ⟨true, E_BadNumber.self, fun _ a na => ?_, fun q => Bool.noConfusion q⟩
            walk_at "rdA"
            refine ⟨C, d, _, .ref cO, .ref cO, true, rfl, rfl, e, E_BadNumber.ec, rfl, fun _ r => r, TE.isO, ?_⟩
            walk_at "rdA"
            refine ⟨C, d, _, .ty "ValueError", .type "ValueError", true, rfl, rfl, e, E_BadNumber.ec, rfl, fun _ r => r, TE.isV, ?_⟩
            walk_at "rdA"
            refine ⟨rfl, rfl, d, _, two, rfl, e, (by simp [List.lookup]), ?_⟩
            walk_at "rdA"
            refine ⟨sz (by simp), fun tp ntp => ?_⟩
            walk_at "rdA"
            refine ⟨C, d, _, tp, _, _, false, rfl, rfl, same_new ntp _ _ e, E_BadNumber.ec, rfl, upd_same, .cons (.own _) (.cons (.own _) (.cons (.own _) .nil)), kany, ?_⟩
            walk_at "rdA"
            refine ⟨sz (by simp), fun p np => ?_⟩
            exact he two (by simp [askBad, n1, o2]) p _ (sm.trans ((same_new ntp).trans (same_new np))) (sm.free ((same_new ntp).free np)) upd_same
        · walk_at "rdA"
          refine if_dec (fun hk => ?_) (fun hk3 => ?_)
          · subst hk
            walk_at "rdA"
            refine ⟨rfl, one, two, rfl, s1, s2, fun n1 o2 H2 sm2 => ?_, fun n1 => ?_, fun n1 o2 => ?_⟩
            · exact hv (by simp [askBad, n1, o2]) H2 sm2
            · refine fun d H' sm e => ?_
              refine ⟨true, E_BadNumber.self, fun _ a na => ?_, fun q => Bool.noConfusion q⟩
              walk_at "rdA"
              refine ⟨C, d, _, .ref cO, .ref cO, true, rfl, rfl, e, E_BadNumber.ec, rfl, fun _ r => r, TE.isO, ?_⟩
              walk_at "rdA"
              refine ⟨C, d, _, .ty "ValueError", .type "ValueError", true, rfl, rfl, e, E_BadNumber.ec, rfl, fun _ r => r, TE.isV, ?_⟩
              walk_at "rdA"
              refine ⟨rfl, rfl, d, _, one, rfl, e, (by simp [List.lookup]), ?_⟩
              walk_at "rdA"
              refine ⟨sz (by simp), fun tp ntp => ?_⟩
              walk_at "rdA"
              refine ⟨C, d, _, tp, _, _, false, rfl, rfl, same_new ntp _ _ e, E_BadNumber.ec, rfl, upd_same, .cons (.own _) (.cons (.own _) (.cons (.own _) .nil)), kany, ?_⟩
              walk_at "rdA"
              refine ⟨sz (by simp), fun p np => ?_⟩
              exact he one (by simp [askBad, n1]) p _ (sm.trans ((same_new ntp).trans (same_new np))) (sm.free ((same_new ntp).free np)) upd_same
            · refine fun d H' sm e => ?_
              refine ⟨true, E_BadNumber.self, fun _ a na => ?_, fun q => Bool.noConfusion q⟩
              walk_at "rdA"
              refine ⟨C, d, _, .ref cO, .ref cO, true, rfl, rfl, e, E_BadNumber.ec, rfl, fun _ r => r, TE.isO, ?_⟩
              walk_at "rdA"
              refine ⟨C, d, _, .ty "ValueError", .type "ValueError", true, rfl, rfl, e, E_BadNumber.ec, rfl, fun _ r => r, TE.isV, ?_⟩
              walk_at "rdA"
              refine ⟨rfl, rfl, d, _, two, rfl, e, (by simp [List.lookup]), ?_⟩
              walk_at "rdA"
              refine ⟨sz (by simp), fun tp ntp => ?_⟩
              walk_at "rdA"
              refine ⟨C, d, _, tp, _, _, false, rfl, rfl, same_new ntp _ _ e, E_BadNumber.ec, rfl, upd_same, .cons (.own _) (.cons (.own _) (.cons (.own _) .nil)), kany, ?_⟩
              walk_at "rdA"
              refine ⟨sz (by simp), fun p np => ?_⟩
              exact he two (by simp [askBad, n1, o2]) p _ (sm.trans ((same_new ntp).trans (same_new np))) (sm.free ((same_new ntp).free np)) upd_same
          · walk_at "rdA"
            refine if_dec (fun hk => ?_) (fun hk4 => ?_)
            · subst hk
              walk_at "rdA"
              refine ⟨one, rfl, s1, fun n1 => ?_, fun n1 => ?_⟩
              · exact hv (by simp [askBad, n1]) H (Same.refl H)
              · refine fun d H' sm e => ?_
                refine ⟨true, E_BadNumber.self, fun _ a na => ?_, fun q => Bool.noConfusion q⟩
                walk_at "rdA"
                refine ⟨C, d, _, .ref cO, .ref cO, true, rfl, rfl, e, E_BadNumber.ec, rfl, fun _ r => r, TE.isO, ?_⟩
                walk_at "rdA"
                refine ⟨C, d, _, .ty "ValueError", .type "ValueError", true, rfl, rfl, e, E_BadNumber.ec, rfl, fun _ r => r, TE.isV, ?_⟩
                walk_at "rdA"
                refine ⟨rfl, rfl, d, _, one, rfl, e, (by simp [List.lookup]), ?_⟩
                walk_at "rdA"
                refine ⟨sz (by simp), fun tp ntp => ?_⟩
                walk_at "rdA"
                refine ⟨C, d, _, tp, _, _, false, rfl, rfl, same_new ntp _ _ e, E_BadNumber.ec, rfl, upd_same, .cons (.own _) (.cons (.own _) (.cons (.own _) .nil)), kany, ?_⟩
                walk_at "rdA"
                refine ⟨sz (by simp), fun p np => ?_⟩
                exact he one (by simp [askBad, n1]) p _ (sm.trans ((same_new ntp).trans (same_new np))) (sm.free ((same_new ntp).free np)) upd_same
            · walk_at "rdA"
              have hk : k = 5 := by omega
              subst hk
              refine ⟨rfl, one, rfl, s1, fun n1 => ?_, fun n1 => ?_⟩
              · exact hv (by simp [askBad, n1]) H (Same.refl H)
              · refine fun d H' sm e => ?_
                refine ⟨true, E_BadNumber.self, fun _ a na => ?_, fun q => Bool.noConfusion q⟩
                walk_at "rdA"
                refine ⟨C, d, _, .ref cO, .ref cO, true, rfl, rfl, e, E_BadNumber.ec, rfl, fun _ r => r, TE.isO, ?_⟩
                walk_at "rdA"
                refine ⟨C, d, _, .ty "ValueError", .type "ValueError", true, rfl, rfl, e, E_BadNumber.ec, rfl, fun _ r => r, TE.isV, ?_⟩
                walk_at "rdA"
                refine ⟨rfl, rfl, d, _, one, rfl, e, (by simp [List.lookup]), ?_⟩
                walk_at "rdA"
                refine ⟨sz (by simp), fun tp ntp => ?_⟩
                walk_at "rdA"
                refine ⟨C, d, _, tp, _, _, false, rfl, rfl, same_new ntp _ _ e, E_BadNumber.ec, rfl, upd_same, .cons (.own _) (.cons (.own _) (.cons (.own _) .nil)), kany, ?_⟩
                walk_at "rdA"
                refine ⟨sz (by simp), fun p np => ?_⟩
                exact he one (by simp [askBad, n1]) p _ (sm.trans ((same_new ntp).trans (same_new np))) (sm.free ((same_new ntp).free np)) upd_same
end

abbrev s_law_due : Stmt := topS 34
theorem sc_law_due : FnScope ["values", "value"] ["values"] (defScope s_law_due) := ⟨rfl, rfl, rfl, by decide +kernel, rfl, by decide +kernel, by decide +kernel⟩
abbrev s_law_is_under : Stmt := topS 35
theorem sc_law_is_under : FnScope ["light", "bar"] ["light", "bar"] (defScope s_law_is_under) := ⟨rfl, rfl, rfl, by decide +kernel, rfl, by decide +kernel, by decide +kernel⟩
abbrev s_law_is_lower : Stmt := topS 36
theorem sc_law_is_lower : FnScope ["told", "bars", "lights", "light", "fine", "apart"] ["told", "bars", "lights"] (defScope s_law_is_lower) := ⟨rfl, rfl, rfl, by decide +kernel, rfl, by decide +kernel, by decide +kernel⟩

theorem keep_step {xs : List V} {j : Nat} {z : V} (hz : xs[j]? = some z) : (xs.take (j + 1)).filterMap keepN = (xs.take j).filterMap keepN ++ (match keepN z with | none => [] | some v => [v]) := by
  rw [List.take_add_one, hz, List.filterMap_append]
  cases e : keepN z <;> simp [e]
theorem keep_len {xs : List V} {j : Nat} (hl : xs.length < 100000) : ((xs.take j).filterMap keepN).length < sizeLine := by
  have := List.length_filterMap_le keepN (xs.take j)
  have h2 : (xs.take j).length ≤ xs.length := by rw [List.length_take]; omega
  exact Nat.lt_of_lt_of_le (by omega : _ < 100000) (by decide)
section
variable {P : Program} {w : World} {K : PySem.W.Frag} {mg : Str → Option Value} {base : Heap} {C : Addr}
/-! ### _law_due -/
def firstBad : List V → Option V
  | [] => none
  | v :: vs => if isOpen v = true then firstBad vs else some v
def spDue : Sp := fun vs H Q _ => ∃ a xs, vs = [.ref a] ∧ H a = some (.lst xs) ∧ (∀ x ∈ xs, Sc x) ∧ (firstBad xs = none → Q .non H) ∧ (∀ v, firstBad xs = some v → ∀ p H', Same H H' → H p = none → H' p = some (errT v) → Q (.ref p) H')
theorem open_iff {v : V} (h : Sc v) : isOpen v = (decide (v = .non) || isNum v) := by
  cases v <;> first | rfl | (simp [isOpen])
theorem ok_due {k : Nat} {f : Addr} {fd : FuncData} (F : Fun K "_law_due" "_law_due" s_law_due f fd) (T : Blt mg) (H_law_is_number : Has P w K mg base "_law_is_number" k ["value"] spIsNum) : FnOk P w K mg base CX0 (k + 1) f fd ["values"] spDue := by
  refine F.ok sc_law_due (fun vs H Q E h => ?_) (fun cdv A outer s H vs Q E hr h => ?_)
  · obtain ⟨a, xs, rfl, _⟩ := h; rfl
  · obtain ⟨a, xs, rfl, ha, hx, h1, h2⟩ := h
    refine ⟨_, (pss_cons (ps_for PassesOwn.never rfl (pi_list (pv 0)) (pg_name (i := 1) sc_law_due.nd rfl (.inl rfl)) (pss_one (ps_if (PW.pt (pw_and (pt_cmpR op_notN (pv 1) pe_non (nomark _)) (pw_and1 (pt_not (pt_val (pe_callH H_law_is_number hr (by rfl) (pa_cons (pv 1) pa_nil))))))) (pss_one (ps_ret (pe_tup (pa_cons pe_str (pa_cons (pv 1) (pa_cons pe_bl (pa_cons pe_bl pa_nil))))))) pss_nil)))
 (pss_one (ps_ret pe_non))), ?_⟩
    walk_at "rdA"
    refine ⟨a, rfl, ⟨_, sl_of ha⟩, for_lst (xs := xs) (fun i σ H' => ∃ y, σ = [some (.ref a), y] ∧ H = H' ∧ firstBad xs = firstBad (xs.drop i)) ⟨none, rfl, rfl, rfl⟩ ?_ ?_ ?_⟩
    · rintro i σ H' ⟨y, rfl, rfl, _⟩
      exact ha
    · rintro i x σ H' hi ⟨y, rfl, rfl, hf⟩
      obtain ⟨hil, ex⟩ := List.getElem?_eq_some_iff.mp hi
      have hd : xs.drop i = x :: xs.drop (i + 1) := by rw [← ex]; exact List.drop_eq_getElem_cons hil
      have hs := hx x (List.mem_of_getElem? hi)
      rw [hd] at hf
      have hf : firstBad xs = if isOpen x = true then firstBad (xs.drop (i + 1)) else some x := hf
      have bad : isOpen x = false → ∀ p H', Same H H' → H p = none → H' p = some (errT x) → Q (.ref p) H' := fun e => h2 x (by rw [hf, e]; rfl)
      cases x with
      | non =>
        walk_at "rdA"
        exact ⟨_, rfl, rfl, by rw [hf]; rfl⟩
      | bl b =>
        walk_at "rdA"
        refine ⟨_, rfl, hs, ?_⟩
        walk_at "rdA"
        refine if_nbool (fun hn => ?_) (fun hn => by cases hn)
        walk_at "rdA"
        refine ⟨sz (by simp), fun p np => ?_⟩
        exact bad rfl p _ (same_new np) np upd_same
      | int n =>
        walk_at "rdA"
        refine ⟨_, rfl, hs, ?_⟩
        walk_at "rdA"
        refine if_nbool (fun hn => ?_) (fun hn => ?_)
        · walk_at "rdA"
          refine ⟨sz (by simp), fun p np => ?_⟩
          exact bad hn p _ (same_new np) np upd_same
        · walk_at "rdA"
          exact ⟨_, rfl, rfl, by rw [hf, if_pos (show isOpen (.int n) = true from hn)]⟩
      | str z =>
        walk_at "rdA"
        refine ⟨_, rfl, hs, ?_⟩
        walk_at "rdA"
        refine if_nbool (fun hn => ?_) (fun hn => by cases hn)
        walk_at "rdA"
        refine ⟨sz (by simp), fun p np => ?_⟩
        exact bad rfl p _ (same_new np) np upd_same
      | _ => exact hs.elim
    · rintro σ H' ⟨y, rfl, rfl, hf⟩
      walk_at "rdA"
      exact h1 (by rw [hf, List.drop_length]; rfl)
/-! ### _law_is_under -/
def spUnder : Sp := fun vs H Q _ => ∃ n b, vs = [.int n, b] ∧ NI b ∧ Q (.bl (under (.int n) b)) H
theorem ok_is_under {k : Nat} {f : Addr} {fd : FuncData} (F : Fun K "_law_is_under" "_law_is_under" s_law_is_under f fd) (T : Blt mg) : FnOk P w K mg base CX0 (k + 1) f fd ["light", "bar"] spUnder := by
  refine F.ok sc_law_is_under (fun vs H Q E h => ?_) (fun cdv A outer s H vs Q E hr h => ?_)
  · obtain ⟨n, b, rfl, _⟩ := h; rfl
  · obtain ⟨n, b, rfl, hb, h⟩ := h
    refine ⟨_, (pss_one (ps_ret (pe_or (pe_cmpR op_isN (pv 1) pe_non (nomark _)) (pe_one (pe_cmpR op_le (pv 0) (pv 1) (nomark _)))))), ?_⟩
    rcases hb with rfl | ⟨i, rfl⟩
    · walk_at "rdA"; exact h
    · walk_at "rdA"; exact h
/-! ### _law_is_lower -/
theorem lower_one {x y : V} (hx : NI x) (hy : NI y) : lowC x y = x ∨ lowC x y = y := by
  rcases hx with rfl | ⟨i, rfl⟩
  · rcases hy with rfl | ⟨j, rfl⟩
    · exact .inl rfl
    · exact .inr rfl
  · rcases hy with rfl | ⟨j, rfl⟩
    · exact .inl rfl
    · show V.int (if j < i then j else i) = _ ∨ V.int (if j < i then j else i) = _
      by_cases h : j < i
      · rw [if_pos h]; exact .inr rfl
      · rw [if_neg h]; exact .inl rfl
theorem lower_ni {x y : V} (hx : NI x) (hy : NI y) : NI (lowC x y) := by
  rcases lower_one hx hy with e | e <;> rw [e] <;> assumption
theorem lower_non {x y : V} (hx : NI x) (hy : NI y) : decide (lowC x y = .non) = (decide (x = .non) && decide (y = .non)) := by
  rcases hx with rfl | ⟨i, rfl⟩ <;> rcases hy with rfl | ⟨j, rfl⟩ <;> simp [lowC]
theorem lower_under {x y : V} {n : Int} (hx : NI x) (hy : NI y) : under (.int n) (lowC x y) = (under (.int n) x && under (.int n) y) := by
  rcases hx with rfl | ⟨i, rfl⟩ <;> rcases hy with rfl | ⟨j, rfl⟩ <;> simp [lowC, under]
  by_cases h : j < i
  · rw [if_pos h]
    by_cases h2 : n ≤ j
    · have : n ≤ i := by omega
      simp [h2, this]
    · simp [h2]
  · rw [if_neg h]
    by_cases h2 : n ≤ i
    · have : n ≤ j := by omega
      simp [h2, this]
    · simp [h2]
theorem ni_sc {x : V} (h : NI x) : Sc x := by rcases h with rfl | ⟨i, rfl⟩ <;> trivial
theorem scal_ni {x y : V} (hx : NI x) (hy : NI y) : Sc x ∧ Sc y := ⟨ni_sc hx, ni_sc hy⟩
def spIsLower : Sp := fun vs H Q _ => ∃ b0 b1 ba la, ∃ ls : List Int, vs = [lowC b0 b1, .ref ba, .ref la] ∧ Bar b0 ∧ Bar b1 ∧ H ba = some (.lst [b0, b1]) ∧ H la = some (.lst (ls.map V.int)) ∧ (∀ l ∈ ls, InR l) ∧ ls.length ≤ 100000 ∧ ∀ H', Same H H' → Q (.bl true) H'
theorem low_bar {x y : V} (hx : Bar x) (hy : Bar y) : Bar (lowC x y) := by
  rcases lower_one hx.ni hy.ni with e | e <;> rw [e] <;> assumption
theorem ok_is_lower {k : Nat} {f : Addr} {fd : FuncData} (F : Fun K "_law_is_lower" "_law_is_lower" s_law_is_lower f fd) (T : Blt mg) (H_law_same : Has P w K mg base "_law_same" k ["actual", "expected"] (spSame 2)) (H_law_is_under : Has P w K mg base "_law_is_under" k ["light", "bar"] spUnder) (H_law_asked : Has P w K mg base "_law_asked" k ["k", "one", "two"] spAsked) : FnOk P w K mg base CX0 (k + 1) f fd ["told", "bars", "lights"] spIsLower := by
  refine F.ok sc_law_is_lower (fun vs H Q E h => ?_) (fun cdv A outer s H vs Q E hr h => ?_)
  · obtain ⟨_, _, _, _, _, rfl, _⟩ := h; rfl
  · obtain ⟨b0, b1, ba, la, ls, rfl, hb0, hb1, hba, hla, hls, ll, h⟩ := h
    have hB := low_bar hb0 hb1
    refine ⟨_, (C8.pss_cut (ps_if (PW.pt (pw_and (pt_not (pt_val (pe_callH H_law_same hr (by rfl) (pa_cons (pv 0) (pa_cons (pe_ix ix_list (pv 1) pe_int (fun _ _ => rfl)) pa_nil))))) (pw_and1 (pt_not (pt_val (pe_callH H_law_same hr (by rfl) (pa_cons (pv 0) (pa_cons (pe_ix ix_list (pv 1) pe_int (fun _ _ => rfl)) pa_nil)))))))) (pss_one (ps_ret pe_bl)) pss_nil)
 (C8.pss_cut (ps_if (pt_cmpR op_ne (pe_cmpR op_isN (pv 0) pe_non (nomark _)) (pe_and (pe_cmpR op_isN (pe_ix ix_list (pv 1) pe_int (fun _ _ => rfl)) pe_non (nomark _)) (pe_one (pe_cmpR op_isN (pe_ix ix_list (pv 1) pe_int (fun _ _ => rfl)) pe_non (nomark _)))) (nomark _)) (pss_one (ps_ret pe_bl)) pss_nil)
 (pss_cons (ps_for PassesOwn.never rfl (pi_list (pv 2)) (pg_name (i := 3) sc_law_is_lower.nd rfl (.inl rfl)) (C8.pss_cut (ps_set (i := 4) sc_law_is_lower.nd rfl (.inl rfl) (pe_and (pe_callH H_law_is_under hr (by rfl) (pa_cons (pv 3) (pa_cons (pe_ix ix_list (pv 1) pe_int (fun _ _ => rfl)) pa_nil))) (pe_one (pe_callH H_law_is_under hr (by rfl) (pa_cons (pv 3) (pa_cons (pe_ix ix_list (pv 1) pe_int (fun _ _ => rfl)) pa_nil))))))
 (C8.pss_cut (ps_if (PW.pt (pw_or (pt_cmpR op_ne (pe_callH H_law_is_under hr (by rfl) (pa_cons (pv 3) (pa_cons (pv 0) pa_nil))) (pv 4) (nomark _)) (pw_or1 (pt_not (pt_val (pe_callH H_law_same hr (by rfl) (pa_cons (pe_callH H_law_asked hr (by rfl) (pa_cons pe_int (pa_cons (pv 3) (pa_cons (pv 0) pa_nil)))) (pa_cons (pv 4) pa_nil)))))))) (pss_one (ps_ret pe_bl)) pss_nil)
 (pss_cons (ps_set (i := 5) sc_law_is_lower.nd rfl (.inl rfl) (pe_lst (pa_cons (pe_callH H_law_asked hr (by rfl) (pa_cons pe_int (pa_cons (pv 3) (pa_cons (pe_ix ix_list (pv 1) pe_int (fun _ _ => rfl)) pa_nil)))) (pa_cons (pe_callH H_law_asked hr (by rfl) (pa_cons pe_int (pa_cons (pv 3) (pa_cons (pe_ix ix_list (pv 1) pe_int (fun _ _ => rfl)) pa_nil)))) pa_nil))))
 (pss_one (ps_if (pt_not (pt_val (pe_callH H_law_same hr (by rfl) (pa_cons (pv 5) (pa_cons (pe_lst (pa_cons (pe_callH H_law_is_under hr (by rfl) (pa_cons (pv 3) (pa_cons (pe_ix ix_list (pv 1) pe_int (fun _ _ => rfl)) pa_nil))) (pa_cons (pe_callH H_law_is_under hr (by rfl) (pa_cons (pv 3) (pa_cons (pe_ix ix_list (pv 1) pe_int (fun _ _ => rfl)) pa_nil))) pa_nil))) pa_nil))))) (pss_one (ps_ret pe_bl)) pss_nil))))))
 (pss_one (ps_ret pe_bl))))), ?_⟩
    refine rd_cut (fun σ' H' => σ' = start ["told", "bars", "lights", "light", "fine", "apart"] [lowC b0 b1, .ref ba, .ref la] ∧ Same H H') ?_ ?_
    · walk_at "rdA"
      refine ⟨_, _, rfl, .inl ⟨hB.sc, hb0.sc, fun H1 s1 => ?_⟩⟩
      walk_at "rdA"
      refine if_nbool (fun hn => ?_) (fun hn => ?_)
      · have hba1 := s1 _ _ hba
        walk_at "rdA"
        refine ⟨_, _, rfl, .inl ⟨hB.sc, hb1.sc, fun H2 s2 => ?_⟩⟩
        have e : lowC b0 b1 = b1 := by
          rcases lower_one hb0.ni hb1.ni with e | e
          · rw [decide_eq_true e] at hn; cases hn
          · exact e
        rw [decide_eq_true e]
        walk_at "rdA"
        exact ⟨rfl, s1.trans s2⟩
      · walk_at "rdA"
        exact ⟨rfl, s1⟩
    · rintro σ' H1 ⟨rfl, s1⟩
      have hba1 := s1 _ _ hba
      have hla1 := s1 _ _ hla
      refine rd_cut (fun σ' H' => σ' = start ["told", "bars", "lights", "light", "fine", "apart"] [lowC b0 b1, .ref ba, .ref la] ∧ H' = H1) ?_ ?_
      · walk_at "rdA"
        refine if_dec (fun h0 => ?_) (fun h0 => ?_)
        · walk_at "rdA"
          refine if_ndec (fun hne => absurd (by rw [lower_non hb0.ni hb1.ni]; simp [h0]) hne) (fun _ => ?_)
          walk_at "rdA"
          exact ⟨rfl, rfl⟩
        · walk_at "rdA"
          refine if_ndec (fun hne => absurd (by rw [lower_non hb0.ni hb1.ni]; simp [h0]) hne) (fun _ => ?_)
          walk_at "rdA"
          exact ⟨rfl, rfl⟩
      · rintro σ' H2 ⟨rfl, rfl⟩
        walk_at "rdA"
        refine ⟨la, rfl, ⟨_, sl_of hla1⟩, for_lst (xs := ls.map V.int) (fun i σ H' => ∃ y3 y4 y5, σ = [some (lowC b0 b1), some (.ref ba), some (.ref la), y3, y4, y5] ∧ Same H H') ⟨_, _, _, rfl, s1⟩ ?_ ?_ ?_⟩
        · rintro i σ H' ⟨_, _, _, rfl, sm⟩
          exact sm _ _ hla
        · rintro i x σ H3 hi ⟨y3, y4, y5, rfl, sm⟩
          obtain ⟨n, hn, rfl⟩ := get_map hi
          have hnR := hls n (List.mem_of_getElem? hn)
          have hba3 := sm _ _ hba
          have nn := num_of hnR
          refine rd_cut (fun σ' H' => σ' = [some (lowC b0 b1), some (.ref ba), some (.ref la), some (.int n), some (.bl (under (.int n) (lowC b0 b1))), y5] ∧ Same H H') ?_ ?_
          · rw [lower_under hb0.ni hb1.ni]
            walk_at "rdA"
            refine ⟨_, _, rfl, hb0.ni, ?_⟩
            walk_at "rdA"
            refine if_bool (fun hu => ?_) (fun hu => ?_)
            · walk_at "rdA"
              refine ⟨_, _, rfl, hb1.ni, ?_⟩
              rw [hu, Bool.true_and]
              exact ⟨rfl, sm⟩
            · rw [hu, Bool.false_and]
              exact ⟨rfl, sm⟩
          · rintro σ' H4 ⟨rfl, sm4⟩
            have hba4 := sm4 _ _ hba
            refine rd_cut (fun σ' H' => σ' = [some (lowC b0 b1), some (.ref ba), some (.ref la), some (.int n), some (.bl (under (.int n) (lowC b0 b1))), y5] ∧ Same H H') ?_ ?_
            · walk_at "rdA"
              refine ⟨_, _, rfl, hB.ni, ?_⟩
              walk_at "rdA"
              refine if_ndec (fun hne => absurd rfl hne) (fun _ => ?_)
              walk_at "rdA"
              refine ⟨0, _, _, rfl, by omega, by omega, trivial, hB.sc, fun _ H5 s5 => ?_, fun v hv => ?_⟩
              · walk_at "rdA"
                refine ⟨_, _, rfl, .inl ⟨trivial, trivial, fun H6 s6 => ?_⟩⟩
                walk_at "rdA"
                refine if_nbool (fun hf => ?_) (fun _ => ?_)
                · simp [askVal] at hf
                · walk_at "rdA"
                  exact ⟨rfl, (sm4.trans s5).trans s6⟩
              · simp [askBad, nn, hB.open] at hv
            · rintro σ' H5 ⟨rfl, sm5⟩
              have hba5 := sm5 _ _ hba
              walk_at "rdA"
              refine ⟨0, _, _, rfl, by omega, by omega, trivial, hb0.sc, fun _ H6 s6 => ?_, fun v hv => ?_⟩
              · have hba6 := s6 _ _ hba5
                walk_at "rdA"
                refine ⟨1, _, _, rfl, by omega, by omega, trivial, hb1.sc, fun _ H7 s7 => ?_, fun v hv => ?_⟩
                · have hba7 := s7 _ _ hba6
                  walk_at "rdA"
                  refine ⟨sz (by simp), fun p np => ?_⟩
                  have hba8 := same_new (o := .lst [askVal 0 (.int n) b0, askVal 1 (.int n) b1]) np _ _ hba7
                  walk_at "rdA"
                  refine ⟨_, _, rfl, hb0.ni, ?_⟩
                  walk_at "rdA"
                  refine ⟨_, _, rfl, hb1.ni, ?_⟩
                  walk_at "rdA"
                  refine ⟨sz (by simp), fun p2 np2 => ?_⟩
                  walk_at "rdA"
                  refine ⟨_, _, rfl, .inr ⟨?_, fun H8 s8 => ?_⟩⟩
                  · refine .inr ⟨p, p2, _, _, rfl, rfl, .inl ⟨same_new np2 _ _ upd_same, upd_same⟩, rfl, by simp, fun i u v hu hv => ?_⟩
                    have : u = v := by
                      rw [← Option.some_inj, ← hu, ← hv]
                      rfl
                    subst this
                    have := List.mem_of_getElem? hu
                    simp [askVal] at this
                    rcases this with rfl | rfl <;> exact .inl ⟨trivial, rfl⟩
                  · walk_at "rdA"
                    exact ⟨_, _, _, rfl, (((sm5.trans s6).trans s7).trans ((same_new np).trans (same_new np2))).trans s8⟩
                · simp [askBad, nn, hb1.open] at hv
              · simp [askBad, nn, hb0.open] at hv
        · rintro σ H3 ⟨_, _, _, rfl, sm⟩
          walk_at "rdA"
          exact h H3 sm
end

abbrev s_law_value : Stmt := topS 37
theorem sc_law_value : FnScope ["store", "pool", "bar", "kind"] ["store", "pool", "bar"] (defScope s_law_value) := ⟨rfl, rfl, rfl, by decide +kernel, rfl, by decide +kernel, by decide +kernel⟩
abbrev s_law_refuses : Stmt := topS 38
theorem sc_law_refuses : FnScope ["store", "pool", "light", "bars", "k", "due", "told", "bar"] ["store", "pool"] (defScope s_law_refuses) := ⟨rfl, rfl, rfl, by decide +kernel, rfl, by decide +kernel, by decide +kernel⟩
abbrev s_law_is_told : Stmt := topS 39
theorem sc_law_is_told : FnScope ["value", "fine", "due"] ["value"] (defScope s_law_is_told) := ⟨rfl, rfl, rfl, by decide +kernel, rfl, by decide +kernel, by decide +kernel⟩

section
variable {P : Program} {w : World} {K : PySem.W.Frag} {mg : Str → Option Value} {base : Heap} {C : Addr}
/-! ### _law_value -/
def Vl (bar : Bool) (v : V) : Prop := (v = .non ∧ bar = true) ∨ (∃ n, v = .int n) ∨ ∃ b, v = .bl b
theorem Vl.sc {bar : Bool} {v : V} (h : Vl bar v) : Sc v := by rcases h with ⟨rfl, _⟩ | ⟨n, rfl⟩ | ⟨b, rfl⟩ <;> trivial
def spValue : Sp := fun vs H Q _ => ∃ S : Sto, ∃ p, ∃ ns : List Int, ∃ bar, vs = [.ref S.1, .ref p, .bl bar] ∧ StoreOk S H ∧ At S H p (.lst (ns.map V.int)) ∧ 0 < ns.length ∧ ns.length < 1000 ∧ ∀ v H', Vl bar v → StoreOk S H' → ExS S H H' → Q v H'
theorem ok_value {k : Nat} {f : Addr} {fd : FuncData} (F : Fun K "_law_value" "_law_value" s_law_value f fd) (T : Blt mg) (H_law_take : Has P w K mg base "_law_take" k ["store", "many"] spTake) (H_law_pick : Has P w K mg base "_law_pick" k ["store", "items"] spPick) (H_law_near : Has P w K mg base "_law_near" k ["store", "pool"] spNear) (H_law_number : Has P w K mg base "_law_number" k ["store"] spNumber) (H_law_bad_number : Has P w K mg base "_law_bad_number" k ["store", "keyed"] spBadNum) : FnOk P w K mg base CX0 (k + 1) f fd ["store", "pool", "bar"] spValue := by
  refine F.ok sc_law_value (fun vs H Q E h => ?_) (fun cdv A outer s H vs Q E hr h => ?_)
  · obtain ⟨S, p, ns, bar, rfl, _⟩ := h; rfl
  · obtain ⟨S, p, ns, bar, rfl, hS, hA, l0, l1, h⟩ := h
    refine ⟨_, (pss_cons (ps_set (i := 3) sc_law_value.nd rfl (.inl rfl) (pe_callH H_law_take hr (by rfl) (pa_cons (pv 0) (pa_cons pe_int pa_nil))))
 (pss_cons (ps_if (pt_cmpR op_eq (pv 3) pe_int (nomark _)) (pss_one (ps_ret (pe_callH H_law_bad_number hr (by rfl) (pa_cons (pv 0) (pa_cons pe_bl pa_nil))))) pss_nil)
 (pss_cons (ps_if (PW.pt (pw_and (pt_cmpR op_eq (pv 3) pe_int (nomark _)) (pw_and1 (pt_val (pv 2))))) (pss_one (ps_ret pe_non)) pss_nil)
 (pss_one (ps_ret (pe_callH H_law_pick hr (by rfl) (pa_cons (pv 0) (pa_cons (pe_lst (pa_cons (pe_callH H_law_near hr (by rfl) (pa_cons (pv 0) (pa_cons (pv 1) pa_nil))) (pa_cons (pe_callH H_law_number hr (by rfl) (pa_cons (pv 0) pa_nil)) pa_nil))) pa_nil)))))))), ?_⟩
    walk_at "rdA"
    refine ⟨S, 4, rfl, by omega, hS, fun kd H1 k0 k1 hS1 e1 => ?_⟩
    walk_at "rdA"
    refine if_dec (fun hk => ?_) (fun hk => ?_)
    · walk_at "rdA"
      refine ⟨S, false, rfl, hS1, fun v H2 hv _ hS2 e2 => ?_⟩
      refine h v H2 ?_ hS2 (e1.trans e2)
      rcases hv with ⟨b, rfl⟩ | ⟨n, rfl, _⟩
      · exact .inr (.inr ⟨b, rfl⟩)
      · exact .inr (.inl ⟨n, rfl⟩)
    · walk_at "rdA"
      refine if_dec (fun hk2 => ?_) (fun hk2 => ?_)
      · walk_at "rdA"
        refine if_bool (fun hb => ?_) (fun hb => ?_)
        · walk_at "rdA"
          exact h _ _ (.inl ⟨rfl, hb⟩) hS1 e1
        · walk_at "rdA"
          refine ⟨S, p, ns, rfl, hS1, hA.back e1, l0, l1, fun n H2 hn hS2 e2 => ?_⟩
          walk_at "rdA"
          refine ⟨S, rfl, hS2, fun n2 H3 hn2 hS3 e3 => ?_⟩
          walk_at "rdA"
          refine ⟨sz (by simp), fun q nq => ?_⟩
          walk_at "rdA"
          refine ⟨S, q, _, rfl, hS3.new nq, .new hS3 nq, by simp, by simp, fun v H4 hv hS4 e4 => ?_⟩
          refine h v H4 (.inr (.inl ?_)) hS4 (((e1.trans e2).trans e3).trans ((ExS.new nq).trans e4))
          simp at hv
          rcases hv with rfl | rfl <;> exact ⟨_, rfl⟩
      · walk_at "rdA"
        refine ⟨S, p, ns, rfl, hS1, hA.back e1, l0, l1, fun n H2 hn hS2 e2 => ?_⟩
        walk_at "rdA"
        refine ⟨S, rfl, hS2, fun n2 H3 hn2 hS3 e3 => ?_⟩
        walk_at "rdA"
        refine ⟨sz (by simp), fun q nq => ?_⟩
        walk_at "rdA"
        refine ⟨S, q, _, rfl, hS3.new nq, .new hS3 nq, by simp, by simp, fun v H4 hv hS4 e4 => ?_⟩
        refine h v H4 (.inr (.inl ?_)) hS4 (((e1.trans e2).trans e3).trans ((ExS.new nq).trans e4))
        simp at hv
        rcases hv with rfl | rfl <;> exact ⟨_, rfl⟩
/-! ### _law_is_told -/
theorem bad4 {v : V} (h : Sc v) (k : Int) (hk : 4 ≤ k) : askBad k v .non = if isNum v = true then none else some v := by
  unfold askBad
  rw [if_neg (by omega), if_neg (by omega)]
theorem errT_alike {H : Hp} {p q : Addr} {v : V} (hv : Sc v) (hp : H p = some (errT v)) (hq : H q = some (errT v)) : Alike H 1 (.ref p) (.ref q) := by
  refine .inr ⟨p, q, _, _, rfl, rfl, .inr ⟨hp, hq⟩, rfl, by simp, fun i u w hu hw => ?_⟩
  have : u = w := by rw [← Option.some_inj, ← hu, ← hw]
  subst this
  have := List.mem_of_getElem? hu
  simp at this
  rcases this with rfl | rfl | rfl | rfl <;> first | exact ⟨trivial, rfl⟩ | exact ⟨hv, rfl⟩
theorem pair_alike {H : Hp} {p q : Addr} {x y x' y' : V} {n : Nat} (hp : H p = some (.lst [x, y])) (hq : H q = some (.lst [x', y'])) (h1 : Alike H n x x') (h2 : Alike H n y y') : Alike H (n + 1) (.ref p) (.ref q) := by
  refine .inr ⟨p, q, _, _, rfl, rfl, .inl ⟨hp, hq⟩, rfl, by simp, fun i u w hu hw => ?_⟩
  match i, hu, hw with
  | 0, hu, hw =>
    cases hu; cases hw
    exact h1
  | 1, hu, hw =>
    cases hu; cases hw
    exact h2
  | i + 2, hu, hw => simp at hu
def spIsTold : Sp := fun vs H Q _ => ∃ v, vs = [v] ∧ Sc v ∧ ∀ H', Same H H' → Q (.bl true) H'
theorem ok_is_told {k : Nat} {f : Addr} {fd : FuncData} (F : Fun K "_law_is_told" "_law_is_told" s_law_is_told f fd) (T : Blt mg) (H_law_is_number : Has P w K mg base "_law_is_number" k ["value"] spIsNum) (His_number : Has P w K mg base "is_number" k ["value"] spIsNum) (HKis_number_value : HasK P w K mg base CX0 "is_number" k ["value"] ["value"] id spIsNum)
    (H_law_same : Has P w K mg base "_law_same" k ["actual", "expected"] (spSame 2)) (H_law_asked : Has P w K mg base "_law_asked" k ["k", "one", "two"] spAsked) : FnOk P w K mg base CX0 (k + 1) f fd ["value"] spIsTold := by
  refine F.ok sc_law_is_told (fun vs H Q E h => ?_) (fun cdv A outer s H vs Q E hr h => ?_)
  · obtain ⟨v, rfl, _⟩ := h; rfl
  · obtain ⟨v, rfl, hv, h⟩ := h
    refine ⟨_, (pss_cons (ps_set (i := 1) sc_law_is_told.nd rfl (.inl rfl) (pe_callH H_law_is_number hr (by rfl) (pa_cons (pv 0) pa_nil)))
 (pss_cons (ps_set (i := 2) sc_law_is_told.nd rfl (.inl rfl) (pv 0))
 (C8.pss_cut (ps_if (pt_not (pt_val (pv 1))) (pss_one (ps_set (i := 2) sc_law_is_told.nd rfl (.inl rfl) (pe_tup (pa_cons pe_str (pa_cons (pv 0) (pa_cons pe_bl (pa_cons pe_bl pa_nil))))))) pss_nil)
 (pss_cons (ps_if (pt_not (pt_val (pe_callH H_law_same hr (by rfl) (pa_cons (pe_lst (pa_cons (pe_callH His_number hr (by rfl) (pa_cons (pv 0) pa_nil)) (pa_cons (pe_callKS (ks := ["value"]) HKis_number_value hr (by rfl) pass0S (pk_cons (pv 0) pk_nil)) pa_nil))) (pa_cons (pe_lst (pa_cons (pv 1) (pa_cons (pv 1) pa_nil))) pa_nil))))) (pss_one (ps_ret pe_bl)) pss_nil)
 (pss_one (ps_ret (pe_callH H_law_same hr (by rfl) (pa_cons (pe_lst (pa_cons (pe_callH H_law_asked hr (by rfl) (pa_cons pe_int (pa_cons (pv 0) (pa_cons pe_non pa_nil)))) (pa_cons (pe_callH H_law_asked hr (by rfl) (pa_cons pe_int (pa_cons (pv 0) (pa_cons pe_non pa_nil)))) pa_nil))) (pa_cons (pe_lst (pa_cons (pv 2) (pa_cons (pv 2) pa_nil))) pa_nil))))))))), ?_⟩
    walk_at "rdA"
    refine ⟨v, rfl, hv, ?_⟩
    walk_at "rdA"
    refine rd_cut (fun σ' H' => ∃ due, σ' = [some v, some (.bl (isNum v)), some due] ∧ Same H H' ∧ ((isNum v = true ∧ due = v) ∨ (isNum v = false ∧ ∃ p, due = .ref p ∧ H' p = some (errT v)))) ?_ ?_
    · walk_at "rdA"
      refine if_nbool (fun hn => ?_) (fun hn => ?_)
      · walk_at "rdA"
        refine ⟨sz (by simp), fun p np => ?_⟩
        exact ⟨_, rfl, same_new np, .inr ⟨hn, p, rfl, upd_same⟩⟩
      · walk_at "rdA"
        exact ⟨_, rfl, Same.refl H, .inl ⟨hn, rfl⟩⟩
    · rintro σ' H1 ⟨due, rfl, s1, hd⟩
      walk_at "rdA"
      refine ⟨v, rfl, hv, ?_⟩
      walk_at "rdA"
      refine ⟨rfl, v, rfl, hv, ?_⟩
      walk_at "rdA"
      refine ⟨sz (by simp), fun p np => ?_⟩
      walk_at "rdA"
      refine ⟨sz (by simp), fun p2 np2 => ?_⟩
      walk_at "rdA"
      refine ⟨_, _, rfl, .inr ⟨pair_alike (same_new np2 _ _ upd_same) upd_same (.inl ⟨trivial, rfl⟩) (.inl ⟨trivial, rfl⟩), fun H2 s2 => ?_⟩⟩
      have s12 := ((same_new (o := .lst [V.bl (isNum v), .bl (isNum v)]) np).trans (same_new (o := .lst [V.bl (isNum v), .bl (isNum v)]) np2)).trans s2
      walk_at "rdA"
      rcases hd with ⟨hn, rfl⟩ | ⟨hn, q, rfl, hq⟩
      · refine ⟨4, _, _, rfl, by omega, by omega, hv, trivial, fun _ H3 s3 => ?_, fun z hz => ?_⟩
        · walk_at "rdA"
          refine ⟨5, _, _, rfl, by omega, by omega, hv, trivial, fun _ H4 s4 => ?_, fun z hz => ?_⟩
          · walk_at "rdA"
            refine ⟨sz (by simp), fun p3 np3 => ?_⟩
            walk_at "rdA"
            refine ⟨sz (by simp), fun p4 np4 => ?_⟩
            refine ⟨_, _, rfl, .inr ⟨pair_alike (same_new np4 _ _ upd_same) upd_same (.inl ⟨hv, rfl⟩) (.inl ⟨hv, rfl⟩), fun H5 s5 => ?_⟩⟩
            exact h H5 (((s1.trans s12).trans (s3.trans s4)).trans (((same_new np3).trans (same_new np4)).trans s5))
          · rw [bad4 hv 5 (by omega), if_pos hn] at hz; cases hz
        · rw [bad4 hv 4 (by omega), if_pos hn] at hz; cases hz
      · refine ⟨4, _, _, rfl, by omega, by omega, hv, trivial, fun hz => ?_, fun z hz p3 H3 s3 np3 hp3 => ?_⟩
        · rw [bad4 hv 4 (by omega), hn] at hz; cases hz
        · rw [bad4 hv 4 (by omega), hn] at hz
          cases hz
          walk_at "rdA"
          refine ⟨5, _, _, rfl, by omega, by omega, hv, trivial, fun hz => ?_, fun z hz p4 H4 s4 np4 hp4 => ?_⟩
          · rw [bad4 hv 5 (by omega), hn] at hz; cases hz
          · rw [bad4 hv 5 (by omega), hn] at hz
            cases hz
            walk_at "rdA"
            refine ⟨sz (by simp), fun p5 np5 => ?_⟩
            walk_at "rdA"
            refine ⟨sz (by simp), fun p6 np6 => ?_⟩
            have s56 := (same_new (o := .lst [V.ref p3, .ref p4]) np5).trans (same_new (o := .lst [V.ref q, .ref q]) np6)
            have hq6 := s56 _ _ (s4 _ _ (s3 _ _ (s12 _ _ hq)))
            refine ⟨_, _, rfl, .inr ⟨pair_alike (same_new np6 _ _ upd_same) upd_same (errT_alike hv (s56 _ _ (s4 _ _ hp3)) hq6) (errT_alike hv (s56 _ _ hp4) hq6), fun H5 s5 => ?_⟩⟩
            exact h H5 (((s1.trans s12).trans (s3.trans s4)).trans (s56.trans s5))
/-! ### _law_refuses -/
theorem fb2 {x y : V} : firstBad [x, y] = if isOpen x = true then (if isOpen y = true then none else some y) else some x := rfl
def spRefuses : Sp := fun vs H Q _ => ∃ S : Sto, ∃ p, ∃ ns : List Int, vs = [.ref S.1, .ref p] ∧ StoreOk S H ∧ At S H p (.lst (ns.map V.int)) ∧ 0 < ns.length ∧ ns.length < 1000 ∧ ∀ H', StoreOk S H' → ExS S H H' → Q (.bl true) H'
theorem num_vl {v : V} (h : Vl false v) (h2 : isOpen v = true) : isNum v = true := by
  rcases h with ⟨_, h⟩ | ⟨n, rfl⟩ | ⟨b, rfl⟩
  · cases h
  · exact h2
  · exact h2
theorem vl_int {v : V} (h : Vl false v) (h2 : isOpen v = true) : ∃ n, v = .int n ∧ InR n := by
  rcases h with ⟨_, h⟩ | ⟨n, rfl⟩ | ⟨b, rfl⟩
  · cases h
  · exact ⟨n, rfl, of_decide_eq_true h2⟩
  · cases h2
theorem vl_bar {v : V} (h : Vl true v) (h2 : isOpen v = true) : Bar v := by
  rcases h with ⟨rfl, _⟩ | ⟨n, rfl⟩ | ⟨b, rfl⟩
  · exact .inl rfl
  · exact .inr ⟨n, rfl, of_decide_eq_true h2⟩
  · cases h2
theorem not_open_num {v : V} (h : Vl false v) (h2 : isOpen v = false) : isNum v = false := by
  rcases h with ⟨_, h⟩ | ⟨n, rfl⟩ | ⟨b, rfl⟩
  · cases h
  · exact h2
  · rfl
theorem keep_bars {x y : V} (hx : Bar x) (hy : Bar y) : ∃ ns : List Int, [x, y].filterMap keepN = ns.map V.int ∧ (∀ n ∈ ns, InR n) ∧ ns.length ≤ 2 := by
  rcases hx with rfl | ⟨i, rfl, hi⟩ <;> rcases hy with rfl | ⟨j, rfl, hj⟩
  · exact ⟨[], rfl, by simp, by simp⟩
  · exact ⟨[j], rfl, by simpa using hj, by simp⟩
  · exact ⟨[i], rfl, by simpa using hi, by simp⟩
  · exact ⟨[i, j], rfl, by simp; exact ⟨hi, hj⟩, by simp⟩
theorem ok_refuses {k : Nat} {f : Addr} {fd : FuncData} (F : Fun K "_law_refuses" "_law_refuses" s_law_refuses f fd) (T : Blt mg) (H_law_value : Has P w K mg base "_law_value" k ["store", "pool", "bar"] spValue) (H_law_due : Has P w K mg base "_law_due" k ["values"] spDue) (H_law_is_under : Has P w K mg base "_law_is_under" k ["light", "bar"] spUnder)
    (H_law_same : Has P w K mg base "_law_same" k ["actual", "expected"] (spSame 2)) (H_law_asked : Has P w K mg base "_law_asked" k ["k", "one", "two"] spAsked) (H_law_is_lower : Has P w K mg base "_law_is_lower" k ["told", "bars", "lights"] spIsLower) (H_law_tried : Has P w K mg base "_law_tried" k ["numbers"] spTried) : FnOk P w K mg base CX0 (k + 1) f fd ["store", "pool"] spRefuses := by
  refine F.ok sc_law_refuses (fun vs H Q E h => ?_) (fun cdv A outer s H vs Q E hr h => ?_)
  · obtain ⟨S, p, ns, rfl, _⟩ := h; rfl
  · obtain ⟨S, p, ns, rfl, hS, hA, l0, l1, h⟩ := h
    refine ⟨_, (pss_cons (ps_set (i := 2) sc_law_refuses.nd rfl (.inl rfl) (pe_callH H_law_value hr (by rfl) (pa_cons (pv 0) (pa_cons (pv 1) (pa_cons pe_bl pa_nil)))))
 (pss_cons (ps_set (i := 3) sc_law_refuses.nd rfl (.inl rfl) (pe_lst (pa_cons (pe_callH H_law_value hr (by rfl) (pa_cons (pv 0) (pa_cons (pv 1) (pa_cons pe_bl pa_nil)))) (pa_cons (pe_callH H_law_value hr (by rfl) (pa_cons (pv 0) (pa_cons (pv 1) (pa_cons pe_bl pa_nil)))) pa_nil))))
 (pss_cons (ps_for PassesOwn.never rfl (pi_range1 rfl T.range (pa_cons pe_int pa_nil)) (pg_name (i := 4) sc_law_refuses.nd rfl (.inl rfl)) (C8.pss_cut (ps_set (i := 5) sc_law_refuses.nd rfl (.inl rfl) (pe_callH H_law_due hr (by rfl) (pa_cons (pe_lst (pa_cons (pv 2) (pa_cons (pe_ix ix_list (pv 3) pe_int (fun _ _ => rfl)) pa_nil))) pa_nil)))
 (C8.pss_cut (ps_if (pt_cmpR op_isN (pv 5) pe_non (nomark _)) (pss_one (ps_set (i := 5) sc_law_refuses.nd rfl (.inl rfl) (pe_callH H_law_is_under hr (by rfl) (pa_cons (pv 2) (pa_cons (pe_ix ix_list (pv 3) pe_int (fun _ _ => rfl)) pa_nil))))) pss_nil)
 (C8.pss_cut (ps_if (pt_not (pt_val (pe_callH H_law_same hr (by rfl) (pa_cons (pe_callH H_law_asked hr (by rfl) (pa_cons (pv 4) (pa_cons (pv 2) (pa_cons (pe_ix ix_list (pv 3) pe_int (fun _ _ => rfl)) pa_nil)))) (pa_cons (pv 5) pa_nil))))) (pss_one (ps_ret pe_bl)) pss_nil)
 (C8.pss_cut (ps_set (i := 5) sc_law_refuses.nd rfl (.inl rfl) (pe_callH H_law_due hr (by rfl) (pa_cons (pv 3) pa_nil)))
 (C8.pss_cut (ps_set (i := 6) sc_law_refuses.nd rfl (.inl rfl) (pe_callH H_law_asked hr (by rfl) (pa_cons (pe_op op_add pe_int (pv 4)) (pa_cons (pe_ix ix_list (pv 3) pe_int (fun _ _ => rfl)) (pa_cons (pe_ix ix_list (pv 3) pe_int (fun _ _ => rfl)) pa_nil)))))
 (C8.pss_cut (ps_if (PW.pt (pw_and (pt_cmpR op_notN (pv 5) pe_non (nomark _)) (pw_and1 (pt_not (pt_val (pe_callH H_law_same hr (by rfl) (pa_cons (pv 6) (pa_cons (pv 5) pa_nil)))))))) (pss_one (ps_ret pe_bl)) pss_nil)
 (pss_one (ps_if (PW.pt (pw_and (pt_cmpR op_isN (pv 5) pe_non (nomark _)) (pw_and1 (pt_not (pt_val (pe_callH H_law_is_lower hr (by rfl) (pa_cons (pv 6) (pa_cons (pv 3) (pa_cons (pe_callH H_law_tried hr (by rfl) (pa_cons (pe_lc (own := [("bar", 7)]) (g := gName 7) (by rfl) sc_law_refuses.nd (pi_list (pv 3)) (blkOk_by (own := [("bar", 7)]) (N := ["store", "pool", "light", "bars", "k", "due", "told", "bar"]) (sc := defScope s_law_refuses) (by decide +kernel)) (fun _ _ _ _ _ => pg_name (i := 7) sc_law_refuses.nd rfl (Or.inl rfl)) (fun _ _ _ _ _ => (pts_one (pt_cmpR op_notN (pv 7) pe_non (nomark _)))) (fun _ _ _ _ _ => (pv 7))) pa_nil)) pa_nil))))))))) (pss_one (ps_ret pe_bl)) pss_nil)))))))))
 (pss_one (ps_ret pe_bl))))), ?_⟩
    walk_at "rdA"
    refine ⟨S, p, ns, false, rfl, hS, hA, l0, l1, fun x H1 hx hS1 e1 => ?_⟩
    walk_at "rdA"
    refine ⟨S, p, ns, true, rfl, hS1, hA.back e1, l0, l1, fun b0 H2 hb0 hS2 e2 => ?_⟩
    walk_at "rdA"
    refine ⟨S, p, ns, true, rfl, hS2, (hA.back e1).back e2, l0, l1, fun b1 H3 hb1 hS3 e3 => ?_⟩
    walk_at "rdA"
    refine ⟨sz (by simp), fun ba nba => ?_⟩
    have hS4 := hS3.new (o := .lst [b0, b1]) nba
    have e4 := ((e1.trans e2).trans e3).trans (ExS.new (o := .lst [b0, b1]) nba)
    have sx : Sc x := hx.sc
    have s0 : Sc b0 := hb0.sc
    have sb1 : Sc b1 := hb1.sc
    obtain ⟨HB, eHB⟩ : ∃ HB, HB = upd H3 ba (.lst [b0, b1]) := ⟨_, rfl⟩
    have hba : HB ba = some (.lst [b0, b1]) := by rw [eHB]; exact upd_same
    rw [← eHB] at hS4 e4 ⊢
    clear eHB
    walk_at "rdA"
    refine ⟨_, rfl, by omega, by omega, for_rng (fun i σ H' => ∃ y4 y5 y6 y7, σ = [some (.ref S.1), some (.ref p), some x, some (.ref ba), y4, y5, y6, y7] ∧ Same HB H') ⟨_, _, _, _, rfl, Same.refl HB⟩ ?_ ?_⟩
    · rintro i σ H5 hi ⟨y4, y5, y6, y7, rfl, sm⟩
      have hba5 := sm _ _ hba
      have hi2 : (i : Int) = 0 ∨ (i : Int) = 1 := by omega
      refine rd_cut (fun σ' H' => ∃ due, σ' = [some (.ref S.1), some (.ref p), some x, some (.ref ba), some (.int i), some due, y6, y7] ∧ Same HB H' ∧ ((firstBad [x, b0] = none ∧ due = .non) ∨ ∃ v r, firstBad [x, b0] = some v ∧ due = .ref r ∧ H' r = some (errT v))) ?_ ?_
      · walk_at "rdA"
        refine ⟨sz (by simp), fun q nq => ?_⟩
        walk_at "rdA"
        refine ⟨q, _, rfl, upd_same, fun z hz => ?_, fun e => ?_, fun v hv r H6 s6 nr hr => ?_⟩
        · simp at hz
          rcases hz with rfl | rfl <;> assumption
        · exact ⟨_, rfl, sm.trans (same_new nq), .inl ⟨e, rfl⟩⟩
        · exact ⟨_, rfl, (sm.trans (same_new nq)).trans s6, .inr ⟨v, r, hv, rfl, hr⟩⟩
      · rintro σ' H6 ⟨due, rfl, sm6, hd⟩
        have hba6 := sm6 _ _ hba
        refine rd_cut (fun σ' H' => ∃ due, σ' = [some (.ref S.1), some (.ref p), some x, some (.ref ba), some (.int i), some due, y6, y7] ∧ Same HB H' ∧ ((firstBad [x, b0] = none ∧ due = .bl (under x b0)) ∨ ∃ v r, firstBad [x, b0] = some v ∧ due = .ref r ∧ H' r = some (errT v))) ?_ ?_
        · rcases hd with ⟨hf, rfl⟩ | ⟨v, r, hf, rfl, hr⟩
          · have hf' := hf
            rw [fb2] at hf'
            by_cases ox : isOpen x = true
            · by_cases o0 : isOpen b0 = true
              · obtain ⟨n, rfl, hn⟩ := vl_int hx ox
                walk_at "rdA"
                refine ⟨n, b0, rfl, (vl_bar hb0 o0).ni, ?_⟩
                exact ⟨_, rfl, sm6, .inl ⟨hf, rfl⟩⟩
              · rw [if_pos ox, if_neg o0] at hf'; cases hf'
            · rw [if_neg ox] at hf'; cases hf'
          · walk_at "rdA"
            exact ⟨_, rfl, sm6, .inr ⟨v, r, hf, rfl, hr⟩⟩
        · rintro σ' H7 ⟨due, rfl, sm7, hd⟩
          have hba7 := sm7 _ _ hba
          have eb : askBad i x b0 = firstBad [x, b0] := by
            unfold askBad
            rw [if_pos (by omega), fb2]
            by_cases ox : isOpen x = true
            · rw [if_pos ox, if_pos (num_vl hx ox)]
            · rw [if_neg ox, not_open_num hx (by simpa using ox)]
              rfl
          have ev : askVal i x b0 = .bl (under x b0) := by unfold askVal; rw [if_pos (by omega)]
          refine rd_cut (fun σ' H' => ∃ due, σ' = [some (.ref S.1), some (.ref p), some x, some (.ref ba), some (.int i), some due, y6, y7] ∧ Same HB H') ?_ ?_
          · walk_at "rdA"
            refine ⟨i, x, b0, rfl, by omega, by omega, sx, s0, fun e H8 s8 => ?_, fun v e r2 H8 s8 _ hr2 => ?_⟩
            · rw [eb] at e
              rcases hd with ⟨hf, rfl⟩ | ⟨v, r, hf, rfl, hr⟩
              · walk_at "rdA"
                rw [ev]
                refine ⟨_, _, rfl, .inr ⟨.inl ⟨trivial, rfl⟩, fun H9 s9 => ?_⟩⟩
                walk_at "rdA"
                exact ⟨_, rfl, (sm7.trans s8).trans s9⟩
              · rw [hf] at e; cases e
            · rw [eb] at e
              rcases hd with ⟨hf, rfl⟩ | ⟨v', r, hf, rfl, hr⟩
              · rw [hf] at e; cases e
              · rw [hf] at e
                cases e
                have sv : Sc v := by
                  rw [fb2] at hf
                  by_cases ox : isOpen x = true
                  · rw [if_pos ox] at hf
                    by_cases o0 : isOpen b0 = true
                    · rw [if_pos o0] at hf; cases hf
                    · rw [if_neg o0] at hf; cases hf; exact s0
                  · rw [if_neg ox] at hf; cases hf; exact sx
                walk_at "rdA"
                refine ⟨_, _, rfl, .inr ⟨.inr ?_, fun H9 s9 => ?_⟩⟩
                · have := errT_alike sv hr2 (s8 _ _ hr)
                  rcases this with ⟨h1, _⟩ | ⟨a, b, xs, ys, e1, e2, h3, h4, h5, h6⟩
                  · exact h1.elim
                  · refine ⟨a, b, xs, ys, e1, e2, h3, h4, h5, fun i u w hu hw => .inl (h6 i u w hu hw)⟩
                · walk_at "rdA"
                  exact ⟨_, rfl, (sm7.trans s8).trans s9⟩
          · rintro σ' H8 ⟨due, rfl, sm8⟩
            have hba8 := sm8 _ _ hba
            refine rd_cut (fun σ' H' => ∃ due, σ' = [some (.ref S.1), some (.ref p), some x, some (.ref ba), some (.int i), some due, y6, y7] ∧ Same HB H' ∧ ((firstBad [b0, b1] = none ∧ due = .non) ∨ ∃ v r, firstBad [b0, b1] = some v ∧ due = .ref r ∧ H' r = some (errT v))) ?_ ?_
            · walk_at "rdA"
              refine ⟨ba, _, rfl, hba8, fun z hz => ?_, fun e => ?_, fun v hv r H9 s9 nr hr => ?_⟩
              · simp at hz
                rcases hz with rfl | rfl <;> assumption
              · exact ⟨_, rfl, sm8, .inl ⟨e, rfl⟩⟩
              · exact ⟨_, rfl, sm8.trans s9, .inr ⟨v, r, hv, rfl, hr⟩⟩
            · rintro σ' H9 ⟨due, rfl, sm9, hd⟩
              have hba9 := sm9 _ _ hba
              have eb : askBad (2 + i) b0 b1 = firstBad [b0, b1] := by
                unfold askBad
                rw [if_neg (by omega), if_pos (by omega), fb2]
              have ev : askVal (2 + i) b0 b1 = lowC b0 b1 := by unfold askVal; rw [if_neg (by omega), if_pos (by omega)]
              refine rd_cut (fun σ' H' => ∃ due told, σ' = [some (.ref S.1), some (.ref p), some x, some (.ref ba), some (.int i), some due, some told, y7] ∧ Same HB H' ∧ ((firstBad [b0, b1] = none ∧ due = .non ∧ told = lowC b0 b1) ∨ ∃ v r r2, Sc v ∧ firstBad [b0, b1] = some v ∧ due = .ref r ∧ told = .ref r2 ∧ H' r = some (errT v) ∧ H' r2 = some (errT v))) ?_ ?_
              · walk_at "rdA"
                refine ⟨_, b0, b1, rfl, by omega, by omega, s0, sb1, fun e H10 s10 => ?_, fun v e r2 H10 s10 _ hr2 => ?_⟩
                · rw [eb] at e
                  rcases hd with ⟨hf, rfl⟩ | ⟨v, r, hf, rfl, hr⟩
                  · exact ⟨_, _, rfl, sm9.trans s10, .inl ⟨hf, rfl, ev⟩⟩
                  · rw [hf] at e; cases e
                · rw [eb] at e
                  rcases hd with ⟨hf, rfl⟩ | ⟨v', r, hf, rfl, hr⟩
                  · rw [hf] at e; cases e
                  · have ee := hf
                    rw [hf] at e
                    cases e
                    have sv : Sc v := by
                      rw [fb2] at hf
                      by_cases ox : isOpen b0 = true
                      · rw [if_pos ox] at hf
                        by_cases o0 : isOpen b1 = true
                        · rw [if_pos o0] at hf; cases hf
                        · rw [if_neg o0] at hf; cases hf; exact sb1
                      · rw [if_neg ox] at hf; cases hf; exact s0
                    exact ⟨_, _, rfl, sm9.trans s10, .inr ⟨v, r, r2, sv, ee, rfl, rfl, s10 _ _ hr, hr2⟩⟩
              · rintro σ' H10 ⟨due, told, rfl, sm10, hd⟩
                have hba10 := sm10 _ _ hba
                refine rd_cut (fun σ' H' => σ' = [some (.ref S.1), some (.ref p), some x, some (.ref ba), some (.int i), some due, some told, y7] ∧ Same HB H') ?_ ?_
                · rcases hd with ⟨hf, rfl, rfl⟩ | ⟨v, r, r2, sv, hf, rfl, rfl, hr, hr2⟩
                  · walk_at "rdA"
                    exact ⟨rfl, sm10⟩
                  · walk_at "rdA"
                    refine ⟨_, _, rfl, .inr ⟨.inr ?_, fun H11 s11 => ?_⟩⟩
                    · have := errT_alike sv hr2 hr
                      rcases this with ⟨h1, _⟩ | ⟨a, b, xs, ys, e1, e2, h3, h4, h5, h6⟩
                      · exact h1.elim
                      · refine ⟨a, b, xs, ys, e1, e2, h3, h4, h5, fun i u w hu hw => .inl (h6 i u w hu hw)⟩
                    · walk_at "rdA"
                      exact ⟨rfl, sm10.trans s11⟩
                · rintro σ' H11 ⟨rfl, sm11⟩
                  have hba11 := sm11 _ _ hba
                  rcases hd with ⟨hf, rfl, rfl⟩ | ⟨v, r, r2, sv, hf, rfl, rfl, hr, hr2⟩
                  · rw [fb2] at hf
                    by_cases o0 : isOpen b0 = true
                    · by_cases o1 : isOpen b1 = true
                      · have B0 := vl_bar hb0 o0
                        have B1 := vl_bar hb1 o1
                        obtain ⟨ks, ek, hks, lks⟩ := keep_bars B0 B1
                        walk_at "rdA"
                        refine ⟨ba, rfl, ⟨_, sl_of hba11⟩, fun D nD => lc_list (xs := [b0, b1]) (fun j H' => Same H11 H' ∧ H' D = some (.lst (([b0, b1].take j).filterMap keepN))) ⟨same_new nD, upd_same⟩ (fun j H' _ hp => sl_of (hp.1 _ _ hba11)) (fun j z H' hz hp => ?_) (fun H12 hp => ?_)⟩
                        · obtain ⟨t1, t3⟩ := hp
                          have hzn : NI z := by
                            have := List.mem_of_getElem? hz
                            simp at this
                            rcases this with rfl | rfl
                            · exact B0.ni
                            · exact B1.ni
                          refine ⟨rfl, ?_⟩
                          rcases hzn with rfl | ⟨n, rfl⟩
                          · walk_at "rdA"
                            exact ⟨t1, by rw [keep_step hz, t3]; simp [keepN]⟩
                          · walk_at "rdA"
                            exact ⟨_, t3, keep_len (by show 2 < 100000; decide), same_mut t1 nD, by rw [upd_same, keep_step hz]; rfl⟩
                        · obtain ⟨s12, hD⟩ := hp
                          have hD : H12 D = some (.lst ([b0, b1].filterMap keepN)) := hD
                          rw [ek] at hD
                          walk_at "rdA"
                          refine ⟨D, ks, rfl, hD, hks, by omega, fun la ls H13 hls lls s13 _ hla => ?_⟩
                          walk_at "rdA"
                          have hba13 := s13 _ _ (s12 _ _ hba11)
                          refine ⟨b0, b1, ba, la, ls, rfl, B0, B1, hba13, hla, hls, by omega, fun H14 s14 => ?_⟩
                          walk_at "rdA"
                          exact ⟨_, _, _, _, rfl, ((sm11.trans s12).trans s13).trans s14⟩
                      · rw [if_pos o0, if_neg o1] at hf; cases hf
                    · rw [if_neg o0] at hf; cases hf
                  · walk_at "rdA"
                    exact ⟨_, _, _, _, rfl, sm11⟩
    · rintro σ H5 ⟨y4, y5, y6, y7, rfl, sm⟩
      walk_at "rdA"
      exact h H5 (hS4.same sm) (e4.trans (same_ex sm))
end

abbrev slaw : Stmt := topS 40
theorem sclaw : FnScope ["script", "store", "pool", "bars", "lights", "k", "turn", "values", "value", "bar"] ["script"] (defScope slaw) := ⟨rfl, rfl, rfl, by decide +kernel, rfl, by decide +kernel, by decide +kernel⟩

section
variable {P : Program} {w : World} {K : PySem.W.Frag} {mg : Str → Option Value} {base : Heap} {C : Addr}
theorem lower_comm {x y : V} (hx : NI x) (hy : NI y) : lowC x y = lowC y x := by
  rcases hx with rfl | ⟨i, rfl⟩ <;> rcases hy with rfl | ⟨j, rfl⟩ <;> try rfl
  show V.int (if j < i then j else i) = V.int (if i < j then i else j)
  congr 1
  split <;> split <;> omega
theorem bad_bar {x y : V} (hx : Bar x) (hy : Bar y) {k : Int} (h2 : 2 ≤ k) (h3 : k ≤ 3) : askBad k x y = none ∧ askVal k x y = lowC x y := by
  unfold askBad askVal
  rw [if_neg (by omega), if_pos (by omega), if_pos hx.open, if_pos hy.open, if_neg (by omega), if_pos (by omega)]
  exact ⟨rfl, rfl⟩
def spLaw (K : PySem.W.Frag) : Sp := fun vs H Q _ => ∃ (a : Addr) (ns : List Int), vs = [.ref a] ∧ SqL K H a (ns.map V.int) ∧ ns.length ≤ 63 ∧ ∀ H', Q (.bl true) H'
theorem ok_law {k : Nat} {f : Addr} {fd : FuncData} (F : Fun K "law" "law" slaw f fd) (T : Blt mg) (H_law_store : Has P w K mg base "_law_store" k ["script"] (spStore K)) (H_law_pool : Has P w K mg base "_law_pool" k ["store"] spPool) (H_law_bar : Has P w K mg base "_law_bar" k ["store", "pool"] spBar) (H_law_tried : Has P w K mg base "_law_tried" k ["numbers"] spTried)
    (H_law_number : Has P w K mg base "_law_number" k ["store"] spNumber) (H_law_is_lower : Has P w K mg base "_law_is_lower" k ["told", "bars", "lights"] spIsLower) (H_law_asked : Has P w K mg base "_law_asked" k ["k", "one", "two"] spAsked) (H_law_same : Has P w K mg base "_law_same" k ["actual", "expected"] (spSame 2))
    (H_law_refuses : Has P w K mg base "_law_refuses" k ["store", "pool"] spRefuses) (H_law_bad_number : Has P w K mg base "_law_bad_number" k ["store", "keyed"] spBadNum) (H_law_is_told : Has P w K mg base "_law_is_told" k ["value"] spIsTold) : FnOk P w K mg base CX0 (k + 1) f fd ["script"] (spLaw K) := by
  refine F.ok sclaw (fun vs H Q E h => ?_) (fun cdv A outer s H vs Q E hr h => ?_)
  · obtain ⟨a, ns, rfl, _⟩ := h; rfl
  · obtain ⟨a, ns, rfl, hL, _, h⟩ := h
    refine ⟨_, (pss_cons (ps_set (i := 1) sclaw.nd rfl (.inl rfl) (pe_callH H_law_store hr (by rfl) (pa_cons (pv 0) pa_nil)))
 (pss_cons (ps_set (i := 2) sclaw.nd rfl (.inl rfl) (pe_callH H_law_pool hr (by rfl) (pa_cons (pv 1) pa_nil)))
 (pss_cons (ps_set (i := 3) sclaw.nd rfl (.inl rfl) (pe_lst (pa_cons (pe_callH H_law_bar hr (by rfl) (pa_cons (pv 1) (pa_cons (pv 2) pa_nil))) (pa_cons (pe_callH H_law_bar hr (by rfl) (pa_cons (pv 1) (pa_cons (pv 2) pa_nil))) pa_nil))))
 (pss_cons (ps_set (i := 4) sclaw.nd rfl (.inl rfl) (pe_op op_cat (pe_callH H_law_tried hr (by rfl) (pa_cons (pe_op op_cat (pv 2) (pe_lc (own := [("bar", 9)]) (g := gName 9) (by rfl) sclaw.nd (pi_list (pv 3)) (blkOk_by (own := [("bar", 9)]) (N := ["script", "store", "pool", "bars", "lights", "k", "turn", "values", "value", "bar"]) (sc := defScope slaw) (by decide +kernel)) (fun _ _ _ _ _ => pg_name (i := 9) sclaw.nd rfl (Or.inl rfl)) (fun _ _ _ _ _ => (pts_one (pt_cmpR op_notN (pv 9) pe_non (nomark _)))) (fun _ _ _ _ _ => (pv 9)))) pa_nil)) (pe_lst (pa_cons (pe_callH H_law_number hr (by rfl) (pa_cons (pv 1) pa_nil)) pa_nil))))
 (pss_cons (ps_for PassesOwn.never rfl (pi_list (pe_lst (pa_cons pe_int (pa_cons pe_int pa_nil)))) (pg_name (i := 5) sclaw.nd rfl (.inl rfl)) (pss_cons (ps_if (pt_not (pt_val (pe_callH H_law_is_lower hr (by rfl) (pa_cons (pe_callH H_law_asked hr (by rfl) (pa_cons (pv 5) (pa_cons (pe_ix ix_list (pv 3) pe_int (fun _ _ => rfl)) (pa_cons (pe_ix ix_list (pv 3) pe_int (fun _ _ => rfl)) pa_nil)))) (pa_cons (pv 3) (pa_cons (pv 4) pa_nil)))))) (pss_one (ps_ret pe_bl)) pss_nil)
 (pss_one (ps_if (pt_not (pt_val (pe_callH H_law_same hr (by rfl) (pa_cons (pe_callH H_law_asked hr (by rfl) (pa_cons (pv 5) (pa_cons (pe_ix ix_list (pv 3) pe_int (fun _ _ => rfl)) (pa_cons (pe_ix ix_list (pv 3) pe_int (fun _ _ => rfl)) pa_nil)))) (pa_cons (pe_callH H_law_asked hr (by rfl) (pa_cons (pv 5) (pa_cons (pe_ix ix_list (pv 3) pe_int (fun _ _ => rfl)) (pa_cons (pe_ix ix_list (pv 3) pe_int (fun _ _ => rfl)) pa_nil)))) pa_nil))))) (pss_one (ps_ret pe_bl)) pss_nil))))
 (pss_cons (ps_for PassesOwn.never rfl (pi_range1 rfl T.range (pa_cons pe_int pa_nil)) (pg_name (i := 6) sclaw.nd rfl (.inl rfl)) (pss_one (ps_if (pt_not (pt_val (pe_callH H_law_refuses hr (by rfl) (pa_cons (pv 1) (pa_cons (pv 2) pa_nil))))) (pss_one (ps_ret pe_bl)) pss_nil)))
 (pss_cons (ps_set (i := 7) sclaw.nd rfl (.inl rfl) (pe_lst (pa_cons pe_non (pa_cons pe_bl (pa_cons pe_bl (pa_cons pe_int (pa_cons (pe_op op_pow pe_int pe_int) (pa_cons (pe_un un_neg (pe_op op_pow pe_int pe_int)) (pa_cons (pe_op op_add (pe_op op_pow pe_int pe_int) pe_int) (pa_cons (pe_op op_sub (pe_un un_neg (pe_op op_pow pe_int pe_int)) pe_int) (pa_cons (pe_callH H_law_bad_number hr (by rfl) (pa_cons (pv 1) (pa_cons pe_bl pa_nil))) pa_nil)))))))))))
 (pss_cons (ps_for PassesOwn.never rfl (pi_list (pe_op op_cat (pe_op op_cat (pv 7) (pe_lst (pa_cons (pe_callH H_law_number hr (by rfl) (pa_cons (pv 1) pa_nil)) pa_nil))) (pv 3))) (pg_name (i := 8) sclaw.nd rfl (.inl rfl)) (pss_one (ps_if (pt_not (pt_val (pe_callH H_law_is_told hr (by rfl) (pa_cons (pv 8) pa_nil)))) (pss_one (ps_ret pe_bl)) pss_nil)))
 (pss_one (ps_ret (pe_callH H_law_same hr (by rfl) (pa_cons (pe_globI rfl T.g_LIMIT) (pa_cons (pe_op op_pow pe_int pe_int) pa_nil))))))))))))), ?_⟩
    walk_at "rdA"
    refine ⟨a, ns, rfl, hL, fun S H1 hS1 s1 => ?_⟩
    walk_at "rdA"
    refine ⟨S, rfl, hS1, fun p ps H2 hps l2 l6 hA2 hS2 e2 => ?_⟩
    walk_at "rdA"
    refine ⟨S, p, ps, rfl, hS2, hA2, by omega, by omega, hps, fun b0 H3 B0 hS3 e3 => ?_⟩
    walk_at "rdA"
    refine ⟨S, p, ps, rfl, hS3, hA2.back e3, by omega, by omega, hps, fun b1 H4 B1 hS4 e4 => ?_⟩
    have hA4 := (hA2.back e3).back e4
    walk_at "rdA"
    refine ⟨sz (by simp), fun ba nba => ?_⟩
    have hS5 := hS4.new (o := .lst [b0, b1]) nba
    have hA5 := hA4.back (ExS.new (o := .lst [b0, b1]) nba)
    have hB5 : At S (upd H4 ba (.lst [b0, b1])) ba (.lst [b0, b1]) := .new hS4 nba
    obtain ⟨H5, eH5⟩ : ∃ HB, HB = upd H4 ba (.lst [b0, b1]) := ⟨_, rfl⟩
    rw [← eH5] at hS5 hA5 hB5 ⊢
    clear eH5
    walk_at "rdA"
    obtain ⟨ks, ek, hks, lks⟩ := keep_bars B0 B1
    refine ⟨ba, rfl, ⟨_, sl_of hB5.2⟩, fun D nD => lc_list (xs := [b0, b1]) (fun j H' => Same H5 H' ∧ H' D = some (.lst (([b0, b1].take j).filterMap keepN))) ⟨same_new nD, upd_same⟩ (fun j H' _ hp => sl_of (hp.1 _ _ hB5.2)) (fun j z H' hz hp => ?_) (fun H6 hp => ?_)⟩
    · obtain ⟨t1, t3⟩ := hp
      have hzn : NI z := by
        have := List.mem_of_getElem? hz
        simp at this
        rcases this with rfl | rfl
        · exact B0.ni
        · exact B1.ni
      refine ⟨rfl, ?_⟩
      rcases hzn with rfl | ⟨n, rfl⟩
      · walk_at "rdA"
        exact ⟨t1, by rw [keep_step hz, t3]; simp [keepN]⟩
      · walk_at "rdA"
        exact ⟨_, t3, keep_len (by show 2 < 100000; decide), same_mut t1 nD, by rw [upd_same, keep_step hz]; rfl⟩
    · obtain ⟨s6, hD⟩ := hp
      have hD : H6 D = some (.lst ([b0, b1].filterMap keepN)) := hD
      rw [ek] at hD
      refine ⟨p, D, _, _, rfl, rfl, s6 _ _ hA5.2, hD, sz (by simp; omega), fun q nq => ?_⟩
      have s7 := s6.trans (same_new (o := .lst (ps.map V.int ++ ks.map V.int)) nq)
      walk_at "rdA"
      refine ⟨q, ps ++ ks, rfl, by rw [upd_same, List.map_append], fun n hn => ?_, by rw [List.length_append]; omega, fun la ls H8 hls lls s8 nla hla => ?_⟩
      · rcases List.mem_append.mp hn with h1 | h1
        · exact hps n h1
        · exact hks n h1
      · have s58 := s7.trans s8
        have hS8 := hS5.same s58
        walk_at "rdA"
        refine ⟨S, rfl, hS8, fun n9 H9 hn9 hS9 e9 => ?_⟩
        have pla : la ≠ S.1 := (hS5.same s7).ne1 nla
        have hla9 := e9 _ _ pla hla
        walk_at "rdA"
        refine ⟨sz (by simp), fun u nu => ?_⟩
        walk_at "rdA"
        refine ⟨la, u, _, _, rfl, rfl, same_new nu _ _ hla9, upd_same, sz (by simp; omega), fun lb nlb => ?_⟩
        have hS10 := (hS9.new (o := .lst [V.int n9]) nu).new (o := .lst (ls.map V.int ++ [V.int n9])) nlb
        have e510 : ExS S H5 (upd (upd H9 u (.lst [V.int n9])) lb (.lst (ls.map V.int ++ [V.int n9]))) := ((same_ex s58).trans e9).trans ((ExS.new nu).trans (ExS.new nlb))
        have hlb : upd (upd H9 u (.lst [V.int n9])) lb (.lst (ls.map V.int ++ [V.int n9])) lb = some (.lst ((ls ++ [n9]).map V.int)) := by rw [upd_same, List.map_append]; rfl
        have hlR : ∀ l ∈ ls ++ [n9], InR l := fun l hl => by
          rcases List.mem_append.mp hl with h1 | h1
          · exact hls l h1
          · rw [List.mem_singleton.mp h1]; exact hn9
        have hll : (ls ++ [n9]).length ≤ 100000 := by rw [List.length_append]; simp; omega
        have plb : lb ≠ S.1 := (hS9.new (o := .lst [V.int n9]) nu).ne1 nlb
        obtain ⟨HB, eHB⟩ : ∃ HB, HB = upd (upd H9 u (.lst [V.int n9])) lb (.lst (ls.map V.int ++ [V.int n9])) := ⟨_, rfl⟩
        rw [← eHB] at hS10 e510 hlb ⊢
        clear eHB
        have hAB := hA5.back e510
        have hBB := hB5.back e510
        walk_at "rdA"
        refine ⟨sz (by simp), fun it nit => ?_⟩
        walk_at "rdA"
        refine ⟨it, rfl, ⟨_, sl_of upd_same⟩, for_lst (xs := [V.int 2, V.int 3]) (fun i σ H' => ∃ y, σ = [some (.ref a), some (.ref S.1), some (.ref p), some (.ref ba), some (.ref lb), y, none, none, none, none] ∧ H' it = some (.lst [V.int 2, V.int 3]) ∧ Same HB H') ⟨_, rfl, upd_same, same_new nit⟩ ?_ ?_ ?_⟩
        · rintro i σ H' ⟨y, rfl, hit, _⟩
          exact hit
        · rintro i x σ H11 hi ⟨y, rfl, hit, sm⟩
          obtain ⟨kk, rfl, k2, k3⟩ : ∃ kk : Int, x = .int kk ∧ 2 ≤ kk ∧ kk ≤ 3 := by
            have := List.mem_of_getElem? hi
            simp at this
            rcases this with rfl | rfl
            · exact ⟨2, rfl, by omega, by omega⟩
            · exact ⟨3, rfl, by omega, by omega⟩
          obtain ⟨q1, q2⟩ := bad_bar B0 B1 k2 k3
          obtain ⟨q3, q4⟩ := bad_bar B1 B0 k2 k3
          have hb11 := sm _ _ hBB.2
          walk_at "rdA"
          refine ⟨kk, b0, b1, rfl, by omega, by omega, B0.sc, B1.sc, fun _ H12 s12 => ?_, fun v hv => by rw [q1] at hv; cases hv⟩
          rw [q2]
          walk_at "rdA"
          refine ⟨b0, b1, ba, lb, ls ++ [n9], rfl, B0, B1, s12 _ _ hb11, s12 _ _ (sm _ _ hlb), hlR, hll, fun H13 s13 => ?_⟩
          have hb13 := s13 _ _ (s12 _ _ hb11)
          walk_at "rdA"
          refine ⟨kk, b1, b0, rfl, by omega, by omega, B1.sc, B0.sc, fun _ H14 s14 => ?_, fun v hv => by rw [q3] at hv; cases hv⟩
          rw [q4]
          have hb14 := s14 _ _ hb13
          walk_at "rdA"
          refine ⟨kk, b0, b1, rfl, by omega, by omega, B0.sc, B1.sc, fun _ H15 s15 => ?_, fun v hv => by rw [q1] at hv; cases hv⟩
          rw [q2, lower_comm B1.ni B0.ni]
          refine ⟨_, _, rfl, .inr ⟨.inl ⟨(low_bar B0 B1).sc, rfl⟩, fun H16 s16 => ?_⟩⟩
          walk_at "rdA"
          have sA := (((s12.trans s13).trans s14).trans s15).trans s16
          exact ⟨_, rfl, sA _ _ hit, sm.trans sA⟩
        · rintro σ H11 ⟨y, rfl, hit, sm⟩
          walk_at "rdA"
          refine ⟨_, rfl, by omega, by omega, for_rng (fun i σ H' => ∃ y6, σ = [some (.ref a), some (.ref S.1), some (.ref p), some (.ref ba), some (.ref lb), y, y6, none, none, none] ∧ StoreOk S H' ∧ ExS S HB H') ⟨_, rfl, hS10.same sm, same_ex sm⟩ ?_ ?_⟩
          · rintro i σ H12 hi ⟨y6, rfl, hS12, e12⟩
            walk_at "rdA"
            refine ⟨S, p, ps, rfl, hS12, hAB.back e12, by omega, by omega, fun H13 hS13 e13 => ?_⟩
            walk_at "rdA"
            exact ⟨_, rfl, hS13, e12.trans e13⟩
          · rintro σ H12 ⟨y6, rfl, hS12, e12⟩
            have hB12 := hBB.back e12
            walk_at "rdA"
            refine ⟨S, false, rfl, hS12, fun bv H13 hbv _ hS13 e13 => ?_⟩
            have hB13 := hB12.back e13
            have sbv : Sc bv := by
              rcases hbv with ⟨b, rfl⟩ | ⟨n, rfl, _⟩ <;> trivial
            walk_at "rdA"
            refine ⟨sz (by simp), fun vl nvl => ?_⟩
            walk_at "rdA"
            refine ⟨S, rfl, hS13.new nvl, fun n14 H14 hn14 hS14 e14 => ?_⟩
            have hvl14 := e14 _ _ (hS13.ne1 nvl) upd_same
            have hB14 := (hB13.back (ExS.new nvl)).back e14
            walk_at "rdA"
            refine ⟨sz (by simp), fun v1 nv1 => ?_⟩
            refine ⟨vl, v1, _, _, rfl, rfl, same_new nv1 _ _ hvl14, upd_same, sz (by simp), fun v2 nv2 => ?_⟩
            walk_at "rdA"
            refine ⟨v2, ba, _, _, rfl, rfl, upd_same, same_new nv2 _ _ (same_new nv1 _ _ hB14.2), sz (by simp), fun v3 nv3 => ?_⟩
            refine ⟨v3, rfl, ⟨_, sl_of upd_same⟩, for_lst (xs := [V.non, .bl true, .bl false, .int 0, .int 1000000000000, .int (-1000000000000), .int (1000000000000 + 1), .int (-1000000000000 - 1), bv] ++ [V.int n14] ++ [b0, b1]) (fun i σ H' => ∃ y8 y9, σ = [some (.ref a), some (.ref S.1), some (.ref p), some (.ref ba), some (.ref lb), y, y6, some (.ref vl), y8, y9] ∧ H' v3 = some (.lst ([V.non, .bl true, .bl false, .int 0, .int 1000000000000, .int (-1000000000000), .int (1000000000000 + 1), .int (-1000000000000 - 1), bv] ++ [V.int n14] ++ [b0, b1]))) ⟨_, _, rfl, upd_same⟩ ?_ ?_ ?_⟩
            · rintro i σ H' ⟨_, _, rfl, hv3⟩
              exact hv3
            · rintro i x σ H16 hi ⟨y8, y9, rfl, hv3⟩
              have hx : Sc x := by
                have := List.mem_of_getElem? hi
                simp at this
                rcases this with rfl | rfl | rfl | rfl | rfl | rfl | rfl | rfl | rfl | rfl | rfl | rfl <;> first | trivial | exact sbv | exact B0.sc | exact B1.sc
              walk_at "rdA"
              refine ⟨x, rfl, hx, fun H17 s17 => ?_⟩
              walk_at "rdA"
              exact ⟨_, _, rfl, s17 _ _ hv3⟩
            · rintro σ H16 ⟨y8, y9, rfl, hv3⟩
              walk_at "rdA"
              exact ⟨_, _, rfl, .inr ⟨.inl ⟨trivial, rfl⟩, fun H17 _ => h H17⟩⟩
end

theorem kb_of {K : PySem.W.Frag} {x qual : Str} {st : Stmt} {f : Addr} {fd : FuncData} {ps ks : List Str} {g : List Value → List Value} (F : Fun K x qual st f fd)
    (h : ∀ (kV doc pm : Value) (an : Option Addr) (cdv ct : Value) (ws : List Value), ws.length = ks.length → bindArgs (PySem.W.fnOf x qual (defArgs st) (defBody st) (defScope st) .none kV doc pm an cdv ct) ⟨[], ks.zip ws⟩ = pure (ps.zip (g ws))) : ∀ (s : Shared) (ws : List Value), ws.length = ks.length → BindsTo s fd ⟨[], ks.zip ws⟩ (ps.zip (g ws)) := by
  obtain ⟨oc, od, kV, doc, pm, an, cdv, ct, osl, rfl, lk, hcd⟩ := F.ex
  exact fun s ws hl => .of_eq (h kV doc pm an cdv ct ws hl)
theorem vals_id {vs : List V} {ws : List Value} (r : Vals vs ws) : Vals (id vs) (id ws) := r
theorem vals_rev2 : ∀ (vs : List V) (ws : List Value), vs.length = 2 → Vals vs ws → Vals vs.reverse ws.reverse
  | [_, _], _, _, .cons a (.cons b .nil) => .cons b (.cons a .nil)
set_option maxHeartbeats 0 in
theorem all_mk {l : PySem.W.OpenLaw} {w : World} {K : PySem.W.Frag} {h : Heap} {mg : Str → Option Value} {fa : Addr} {C fC : Addr} {nmC qC : Str} {NC : Addr} {bsC bmC : List Value} {snC : List Str} {subC : List Value} {abC : Bool} {colC : Option Bool} {ddC : Option Addr} {m0C m1C m2C m3C m5C : Option Value} {odC anC : Option Addr} {slC : Array (Option Value)} {ocC kVC dcC pmC cdC ctC : Value} {cO : Addr} {cN : Addr} {cS : Addr} {cR : Addr} {f0 : Addr} {od0 an0 : Option Addr} {sl0 : Array (Option Value)} {oc0 kV0 dc0 pm0 cd0 ct0 : Value} {f1 : Addr} {od1 an1 : Option Addr} {sl1 : Array (Option Value)} {oc1 kV1 dc1 pm1 cd1 ct1 : Value} {f2 : Addr} {od2 an2 : Option Addr} {sl2 : Array (Option Value)} {oc2 kV2 dc2 pm2 cd2 ct2 : Value} {f3 : Addr} {od3 an3 : Option Addr} {sl3 : Array (Option Value)} {oc3 kV3 dc3 pm3 cd3 ct3 : Value} {f4 : Addr} {od4 an4 : Option Addr} {sl4 : Array (Option Value)} {oc4 kV4 dc4 pm4 cd4 ct4 : Value} {f5 : Addr} {od5 an5 : Option Addr} {sl5 : Array (Option Value)} {oc5 kV5 dc5 pm5 cd5 ct5 : Value} {f6 : Addr} {od6 an6 : Option Addr} {sl6 : Array (Option Value)} {oc6 kV6 dc6 pm6 cd6 ct6 : Value} {f7 : Addr} {od7 an7 : Option Addr} {sl7 : Array (Option Value)} {oc7 kV7 dc7 pm7 cd7 ct7 : Value} {f8 : Addr} {od8 an8 : Option Addr} {sl8 : Array (Option Value)} {oc8 kV8 dc8 pm8 cd8 ct8 : Value} {f9 : Addr} {od9 an9 : Option Addr} {sl9 : Array (Option Value)} {oc9 kV9 dc9 pm9 cd9 ct9 : Value} {f10 : Addr} {od10 an10 : Option Addr} {sl10 : Array (Option Value)} {oc10 kV10 dc10 pm10 cd10 ct10 : Value} {f11 : Addr} {od11 an11 : Option Addr} {sl11 : Array (Option Value)} {oc11 kV11 dc11 pm11 cd11 ct11 : Value} {f12 : Addr} {od12 an12 : Option Addr} {sl12 : Array (Option Value)} {oc12 kV12 dc12 pm12 cd12 ct12 : Value} {f13 : Addr} {od13 an13 : Option Addr} {sl13 : Array (Option Value)} {oc13 kV13 dc13 pm13 cd13 ct13 : Value} {f14 : Addr} {od14 an14 : Option Addr} {sl14 : Array (Option Value)} {oc14 kV14 dc14 pm14 cd14 ct14 : Value} {f15 : Addr} {od15 an15 : Option Addr} {sl15 : Array (Option Value)} {oc15 kV15 dc15 pm15 cd15 ct15 : Value} {f16 : Addr} {od16 an16 : Option Addr} {sl16 : Array (Option Value)} {oc16 kV16 dc16 pm16 cd16 ct16 : Value} {f17 : Addr} {od17 an17 : Option Addr} {sl17 : Array (Option Value)} {oc17 kV17 dc17 pm17 cd17 ct17 : Value} {f18 : Addr} {od18 an18 : Option Addr} {sl18 : Array (Option Value)} {oc18 kV18 dc18 pm18 cd18 ct18 : Value} {f19 : Addr} {od19 an19 : Option Addr} {sl19 : Array (Option Value)} {oc19 kV19 dc19 pm19 cd19 ct19 : Value} {f20 : Addr} {od20 an20 : Option Addr} {sl20 : Array (Option Value)} {oc20 kV20 dc20 pm20 cd20 ct20 : Value} {f21 : Addr} {od21 an21 : Option Addr} {sl21 : Array (Option Value)} {oc21 kV21 dc21 pm21 cd21 ct21 : Value} {f22 : Addr} {od22 an22 : Option Addr} {sl22 : Array (Option Value)} {oc22 kV22 dc22 pm22 cd22 ct22 : Value} {f23 : Addr} {od23 an23 : Option Addr} {sl23 : Array (Option Value)} {oc23 kV23 dc23 pm23 cd23 ct23 : Value} {f24 : Addr} {od24 an24 : Option Addr} {sl24 : Array (Option Value)} {oc24 kV24 dc24 pm24 cd24 ct24 : Value} {f25 : Addr} {od25 an25 : Option Addr} {sl25 : Array (Option Value)} {oc25 kV25 dc25 pm25 cd25 ct25 : Value} {f26 : Addr} {od26 an26 : Option Addr} {sl26 : Array (Option Value)} {oc26 kV26 dc26 pm26 cd26 ct26 : Value} {f27 : Addr} {od27 an27 : Option Addr} {sl27 : Array (Option Value)} {oc27 kV27 dc27 pm27 cd27 ct27 : Value} {f28 : Addr} {od28 an28 : Option Addr} {sl28 : Array (Option Value)} {oc28 kV28 dc28 pm28 cd28 ct28 : Value} {f29 : Addr} {od29 an29 : Option Addr} {sl29 : Array (Option Value)} {oc29 kV29 dc29 pm29 cd29 ct29 : Value} {f30 : Addr} {od30 an30 : Option Addr} {sl30 : Array (Option Value)} {oc30 kV30 dc30 pm30 cd30 ct30 : Value}
    (X : K.In h) (G : h.Ns mainGlobals mg) (hfa : mg "law" = some (.ref fa))
    (gC : PySem.W.nsIn K mainGlobals "BadNumber" = some (some (.ref C)))
    (xC : K.lookup C = some (excClassObj nmC qC C NC bsC bmC true snC subC abC colC ddC m0C m1C m2C m3C m5C "ValueError.__new__"))
    (rC : PySem.HandSPX.refsVE bmC = true)
    (saC : PySem.W.findIn K (.ref C) "__setattr__" = some (some (.builtin "object.__setattr__")))
    (gaC : PySem.W.findIn K (.ref C) "__getattribute__" = some (some (.builtin "BaseException.__getattribute__")))
    (ggC : PySem.W.findIn K (.ref C) "__getattr__" = some none)
    (nfCnumber : PySem.W.findIn K (.ref C) "number" = some none)
    (kpC : PySem.W.keepIn K (.ref C) = true)
    (exC : PySem.W.subIn K (.ref C) (.type "BaseException") = some true)
    (tyC : PySem.W.typeIn K (.ref C) = some (.type "type"))
    (hdC : PySem.W.hasDictIn K C = true)
    (haC : PySem.W.findIn K (.ref C) "__class__" = some (some (.builtin "object.__class__")))
    (hnC : PySem.W.specialIn K (.builtin "object.__class__") "__get__" = some (some (.builtin "getset_descriptor.__get__")))
    (htC : PySem.W.takesIn K (.builtin "object.__class__") = some true)
    (hmC : PySem.W.mroIn K C (.type "object") = some true)
    (suC : PySem.W.subIn K (.ref C) (.ref C) = some true)
    (iC : PySem.W.findIn K (.ref C) "__init__" = some (some (.ref fC)))
    (tiC : PySem.W.typeIn K (.ref fC) = some (.type "function"))
    (lC : K.lookup fC = some ⟨ocC, odC, .func (PySem.W.fnOf "__init__" "BadNumber.__init__" (defArgs sBadNumber___init__) (defBody sBadNumber___init__) (defScope sBadNumber___init__) .none kVC dcC pmC anC cdC ctC), slC⟩)
    (cC : PySem.W.codeIn K cdC "BadNumber.__init__" = true)
    (kC : PySem.W.keepIn K (.ref fC) = true)
    (gcO : PySem.W.nsIn K mainGlobals "OutshinerError" = some (some (.ref cO)))
    (gcN : PySem.W.nsIn K mainGlobals "BadName" = some (some (.ref cN)))
    (gcS : PySem.W.nsIn K mainGlobals "BadSpan" = some (some (.ref cS)))
    (gcR : PySem.W.nsIn K mainGlobals "OutOfRange" = some (some (.ref cR)))
    (isO : PySem.W.kitOne K (.ref C) (.ref cO) = some true)
    (isV : PySem.W.kitOne K (.ref C) (.type "ValueError") = some true)
    (isN : PySem.W.kitOne K (.ref C) (.ref cN) = some false)
    (isS : PySem.W.kitOne K (.ref C) (.ref cS) = some false)
    (isR : PySem.W.kitOne K (.ref C) (.ref cR) = some false)
    (a0 : PySem.W.nsIn K mainGlobals "is_number" = some (some (.ref f0)))
    (l0 : K.lookup f0 = some ⟨oc0, od0, .func (PySem.W.fnOf "is_number" "is_number" (defArgs sis_number) (defBody sis_number) (defScope sis_number) .none kV0 dc0 pm0 an0 cd0 ct0), sl0⟩)
    (c0 : PySem.W.codeIn K cd0 "is_number" = true)
    (k0 : PySem.W.keepIn K (.ref f0) = true)
    (a1 : PySem.W.nsIn K mainGlobals "check_number" = some (some (.ref f1)))
    (l1 : K.lookup f1 = some ⟨oc1, od1, .func (PySem.W.fnOf "check_number" "check_number" (defArgs scheck_number) (defBody scheck_number) (defScope scheck_number) .none kV1 dc1 pm1 an1 cd1 ct1), sl1⟩)
    (c1 : PySem.W.codeIn K cd1 "check_number" = true)
    (k1 : PySem.W.keepIn K (.ref f1) = true)
    (a2 : PySem.W.nsIn K mainGlobals "check_open_number" = some (some (.ref f2)))
    (l2 : K.lookup f2 = some ⟨oc2, od2, .func (PySem.W.fnOf "check_open_number" "check_open_number" (defArgs scheck_open_number) (defBody scheck_open_number) (defScope scheck_open_number) .none kV2 dc2 pm2 an2 cd2 ct2), sl2⟩)
    (c2 : PySem.W.codeIn K cd2 "check_open_number" = true)
    (k2 : PySem.W.keepIn K (.ref f2) = true)
    (a3 : PySem.W.nsIn K mainGlobals "may_take" = some (some (.ref f3)))
    (l3 : K.lookup f3 = some ⟨oc3, od3, .func (PySem.W.fnOf "may_take" "may_take" (defArgs smay_take) (defBody smay_take) (defScope smay_take) .none kV3 dc3 pm3 an3 cd3 ct3), sl3⟩)
    (c3 : PySem.W.codeIn K cd3 "may_take" = true)
    (k3 : PySem.W.keepIn K (.ref f3) = true)
    (a4 : PySem.W.nsIn K mainGlobals "told_ends" = some (some (.ref f4)))
    (l4 : K.lookup f4 = some ⟨oc4, od4, .func (PySem.W.fnOf "told_ends" "told_ends" (defArgs stold_ends) (defBody stold_ends) (defScope stold_ends) .none kV4 dc4 pm4 an4 cd4 ct4), sl4⟩)
    (c4 : PySem.W.codeIn K cd4 "told_ends" = true)
    (k4 : PySem.W.keepIn K (.ref f4) = true)
    (a5 : PySem.W.nsIn K mainGlobals "lesser_end" = some (some (.ref f5)))
    (l5 : K.lookup f5 = some ⟨oc5, od5, .func (PySem.W.fnOf "lesser_end" "lesser_end" (defArgs slesser_end) (defBody slesser_end) (defScope slesser_end) .none kV5 dc5 pm5 an5 cd5 ct5), sl5⟩)
    (c5 : PySem.W.codeIn K cd5 "lesser_end" = true)
    (k5 : PySem.W.keepIn K (.ref f5) = true)
    (a6 : PySem.W.nsIn K mainGlobals "lower_ceiling" = some (some (.ref f6)))
    (l6 : K.lookup f6 = some ⟨oc6, od6, .func (PySem.W.fnOf "lower_ceiling" "lower_ceiling" (defArgs slower_ceiling) (defBody slower_ceiling) (defScope slower_ceiling) .none kV6 dc6 pm6 an6 cd6 ct6), sl6⟩)
    (c6 : PySem.W.codeIn K cd6 "lower_ceiling" = true)
    (k6 : PySem.W.keepIn K (.ref f6) = true)
    (a7 : PySem.W.nsIn K mainGlobals "_law_store" = some (some (.ref f7)))
    (l7 : K.lookup f7 = some ⟨oc7, od7, .func (PySem.W.fnOf "_law_store" "_law_store" (defArgs s_law_store) (defBody s_law_store) (defScope s_law_store) .none kV7 dc7 pm7 an7 cd7 ct7), sl7⟩)
    (c7 : PySem.W.codeIn K cd7 "_law_store" = true)
    (k7 : PySem.W.keepIn K (.ref f7) = true)
    (a8 : PySem.W.nsIn K mainGlobals "_law_stir" = some (some (.ref f8)))
    (l8 : K.lookup f8 = some ⟨oc8, od8, .func (PySem.W.fnOf "_law_stir" "_law_stir" (defArgs s_law_stir) (defBody s_law_stir) (defScope s_law_stir) .none kV8 dc8 pm8 an8 cd8 ct8), sl8⟩)
    (c8 : PySem.W.codeIn K cd8 "_law_stir" = true)
    (k8 : PySem.W.keepIn K (.ref f8) = true)
    (a9 : PySem.W.nsIn K mainGlobals "_law_take" = some (some (.ref f9)))
    (l9 : K.lookup f9 = some ⟨oc9, od9, .func (PySem.W.fnOf "_law_take" "_law_take" (defArgs s_law_take) (defBody s_law_take) (defScope s_law_take) .none kV9 dc9 pm9 an9 cd9 ct9), sl9⟩)
    (c9 : PySem.W.codeIn K cd9 "_law_take" = true)
    (k9 : PySem.W.keepIn K (.ref f9) = true)
    (a10 : PySem.W.nsIn K mainGlobals "_law_pick" = some (some (.ref f10)))
    (l10 : K.lookup f10 = some ⟨oc10, od10, .func (PySem.W.fnOf "_law_pick" "_law_pick" (defArgs s_law_pick) (defBody s_law_pick) (defScope s_law_pick) .none kV10 dc10 pm10 an10 cd10 ct10), sl10⟩)
    (c10 : PySem.W.codeIn K cd10 "_law_pick" = true)
    (k10 : PySem.W.keepIn K (.ref f10) = true)
    (a11 : PySem.W.nsIn K mainGlobals "_law_shuffled" = some (some (.ref f11)))
    (l11 : K.lookup f11 = some ⟨oc11, od11, .func (PySem.W.fnOf "_law_shuffled" "_law_shuffled" (defArgs s_law_shuffled) (defBody s_law_shuffled) (defScope s_law_shuffled) .none kV11 dc11 pm11 an11 cd11 ct11), sl11⟩)
    (c11 : PySem.W.codeIn K cd11 "_law_shuffled" = true)
    (k11 : PySem.W.keepIn K (.ref f11) = true)
    (a12 : PySem.W.nsIn K mainGlobals "_law_unlike" = some (some (.ref f12)))
    (l12 : K.lookup f12 = some ⟨oc12, od12, .func (PySem.W.fnOf "_law_unlike" "_law_unlike" (defArgs s_law_unlike) (defBody s_law_unlike) (defScope s_law_unlike) .none kV12 dc12 pm12 an12 cd12 ct12), sl12⟩)
    (c12 : PySem.W.codeIn K cd12 "_law_unlike" = true)
    (k12 : PySem.W.keepIn K (.ref f12) = true)
    (a13 : PySem.W.nsIn K mainGlobals "_law_number" = some (some (.ref f13)))
    (l13 : K.lookup f13 = some ⟨oc13, od13, .func (PySem.W.fnOf "_law_number" "_law_number" (defArgs s_law_number) (defBody s_law_number) (defScope s_law_number) .none kV13 dc13 pm13 an13 cd13 ct13), sl13⟩)
    (c13 : PySem.W.codeIn K cd13 "_law_number" = true)
    (k13 : PySem.W.keepIn K (.ref f13) = true)
    (a14 : PySem.W.nsIn K mainGlobals "_law_clamped" = some (some (.ref f14)))
    (l14 : K.lookup f14 = some ⟨oc14, od14, .func (PySem.W.fnOf "_law_clamped" "_law_clamped" (defArgs s_law_clamped) (defBody s_law_clamped) (defScope s_law_clamped) .none kV14 dc14 pm14 an14 cd14 ct14), sl14⟩)
    (c14 : PySem.W.codeIn K cd14 "_law_clamped" = true)
    (k14 : PySem.W.keepIn K (.ref f14) = true)
    (a15 : PySem.W.nsIn K mainGlobals "_law_pool" = some (some (.ref f15)))
    (l15 : K.lookup f15 = some ⟨oc15, od15, .func (PySem.W.fnOf "_law_pool" "_law_pool" (defArgs s_law_pool) (defBody s_law_pool) (defScope s_law_pool) .none kV15 dc15 pm15 an15 cd15 ct15), sl15⟩)
    (c15 : PySem.W.codeIn K cd15 "_law_pool" = true)
    (k15 : PySem.W.keepIn K (.ref f15) = true)
    (a16 : PySem.W.nsIn K mainGlobals "_law_near" = some (some (.ref f16)))
    (l16 : K.lookup f16 = some ⟨oc16, od16, .func (PySem.W.fnOf "_law_near" "_law_near" (defArgs s_law_near) (defBody s_law_near) (defScope s_law_near) .none kV16 dc16 pm16 an16 cd16 ct16), sl16⟩)
    (c16 : PySem.W.codeIn K cd16 "_law_near" = true)
    (k16 : PySem.W.keepIn K (.ref f16) = true)
    (a17 : PySem.W.nsIn K mainGlobals "_law_bad_number" = some (some (.ref f17)))
    (l17 : K.lookup f17 = some ⟨oc17, od17, .func (PySem.W.fnOf "_law_bad_number" "_law_bad_number" (defArgs s_law_bad_number) (defBody s_law_bad_number) (defScope s_law_bad_number) .none kV17 dc17 pm17 an17 cd17 ct17), sl17⟩)
    (c17 : PySem.W.codeIn K cd17 "_law_bad_number" = true)
    (k17 : PySem.W.keepIn K (.ref f17) = true)
    (a18 : PySem.W.nsIn K mainGlobals "_law_bar" = some (some (.ref f18)))
    (l18 : K.lookup f18 = some ⟨oc18, od18, .func (PySem.W.fnOf "_law_bar" "_law_bar" (defArgs s_law_bar) (defBody s_law_bar) (defScope s_law_bar) .none kV18 dc18 pm18 an18 cd18 ct18), sl18⟩)
    (c18 : PySem.W.codeIn K cd18 "_law_bar" = true)
    (k18 : PySem.W.keepIn K (.ref f18) = true)
    (a19 : PySem.W.nsIn K mainGlobals "_law_is_number" = some (some (.ref f19)))
    (l19 : K.lookup f19 = some ⟨oc19, od19, .func (PySem.W.fnOf "_law_is_number" "_law_is_number" (defArgs s_law_is_number) (defBody s_law_is_number) (defScope s_law_is_number) .none kV19 dc19 pm19 an19 cd19 ct19), sl19⟩)
    (c19 : PySem.W.codeIn K cd19 "_law_is_number" = true)
    (k19 : PySem.W.keepIn K (.ref f19) = true)
    (a20 : PySem.W.nsIn K mainGlobals "_law_match" = some (some (.ref f20)))
    (l20 : K.lookup f20 = some ⟨oc20, od20, .func (PySem.W.fnOf "_law_match" "_law_match" (defArgs s_law_match) (defBody s_law_match) (defScope s_law_match) .none kV20 dc20 pm20 an20 cd20 ct20), sl20⟩)
    (c20 : PySem.W.codeIn K cd20 "_law_match" = true)
    (k20 : PySem.W.keepIn K (.ref f20) = true)
    (a21 : PySem.W.nsIn K mainGlobals "_law_same" = some (some (.ref f21)))
    (l21 : K.lookup f21 = some ⟨oc21, od21, .func (PySem.W.fnOf "_law_same" "_law_same" (defArgs s_law_same) (defBody s_law_same) (defScope s_law_same) .none kV21 dc21 pm21 an21 cd21 ct21), sl21⟩)
    (c21 : PySem.W.codeIn K cd21 "_law_same" = true)
    (k21 : PySem.W.keepIn K (.ref f21) = true)
    (a22 : PySem.W.nsIn K mainGlobals "_law_tried" = some (some (.ref f22)))
    (l22 : K.lookup f22 = some ⟨oc22, od22, .func (PySem.W.fnOf "_law_tried" "_law_tried" (defArgs s_law_tried) (defBody s_law_tried) (defScope s_law_tried) .none kV22 dc22 pm22 an22 cd22 ct22), sl22⟩)
    (c22 : PySem.W.codeIn K cd22 "_law_tried" = true)
    (k22 : PySem.W.keepIn K (.ref f22) = true)
    (a23 : PySem.W.nsIn K mainGlobals "_law_asked" = some (some (.ref f23)))
    (l23 : K.lookup f23 = some ⟨oc23, od23, .func (PySem.W.fnOf "_law_asked" "_law_asked" (defArgs s_law_asked) (defBody s_law_asked) (defScope s_law_asked) .none kV23 dc23 pm23 an23 cd23 ct23), sl23⟩)
    (c23 : PySem.W.codeIn K cd23 "_law_asked" = true)
    (k23 : PySem.W.keepIn K (.ref f23) = true)
    (a24 : PySem.W.nsIn K mainGlobals "_law_due" = some (some (.ref f24)))
    (l24 : K.lookup f24 = some ⟨oc24, od24, .func (PySem.W.fnOf "_law_due" "_law_due" (defArgs s_law_due) (defBody s_law_due) (defScope s_law_due) .none kV24 dc24 pm24 an24 cd24 ct24), sl24⟩)
    (c24 : PySem.W.codeIn K cd24 "_law_due" = true)
    (k24 : PySem.W.keepIn K (.ref f24) = true)
    (a25 : PySem.W.nsIn K mainGlobals "_law_is_under" = some (some (.ref f25)))
    (l25 : K.lookup f25 = some ⟨oc25, od25, .func (PySem.W.fnOf "_law_is_under" "_law_is_under" (defArgs s_law_is_under) (defBody s_law_is_under) (defScope s_law_is_under) .none kV25 dc25 pm25 an25 cd25 ct25), sl25⟩)
    (c25 : PySem.W.codeIn K cd25 "_law_is_under" = true)
    (k25 : PySem.W.keepIn K (.ref f25) = true)
    (a26 : PySem.W.nsIn K mainGlobals "_law_is_lower" = some (some (.ref f26)))
    (l26 : K.lookup f26 = some ⟨oc26, od26, .func (PySem.W.fnOf "_law_is_lower" "_law_is_lower" (defArgs s_law_is_lower) (defBody s_law_is_lower) (defScope s_law_is_lower) .none kV26 dc26 pm26 an26 cd26 ct26), sl26⟩)
    (c26 : PySem.W.codeIn K cd26 "_law_is_lower" = true)
    (k26 : PySem.W.keepIn K (.ref f26) = true)
    (a27 : PySem.W.nsIn K mainGlobals "_law_value" = some (some (.ref f27)))
    (l27 : K.lookup f27 = some ⟨oc27, od27, .func (PySem.W.fnOf "_law_value" "_law_value" (defArgs s_law_value) (defBody s_law_value) (defScope s_law_value) .none kV27 dc27 pm27 an27 cd27 ct27), sl27⟩)
    (c27 : PySem.W.codeIn K cd27 "_law_value" = true)
    (k27 : PySem.W.keepIn K (.ref f27) = true)
    (a28 : PySem.W.nsIn K mainGlobals "_law_refuses" = some (some (.ref f28)))
    (l28 : K.lookup f28 = some ⟨oc28, od28, .func (PySem.W.fnOf "_law_refuses" "_law_refuses" (defArgs s_law_refuses) (defBody s_law_refuses) (defScope s_law_refuses) .none kV28 dc28 pm28 an28 cd28 ct28), sl28⟩)
    (c28 : PySem.W.codeIn K cd28 "_law_refuses" = true)
    (k28 : PySem.W.keepIn K (.ref f28) = true)
    (a29 : PySem.W.nsIn K mainGlobals "_law_is_told" = some (some (.ref f29)))
    (l29 : K.lookup f29 = some ⟨oc29, od29, .func (PySem.W.fnOf "_law_is_told" "_law_is_told" (defArgs s_law_is_told) (defBody s_law_is_told) (defScope s_law_is_told) .none kV29 dc29 pm29 an29 cd29 ct29), sl29⟩)
    (c29 : PySem.W.codeIn K cd29 "_law_is_told" = true)
    (k29 : PySem.W.keepIn K (.ref f29) = true)
    (a30 : PySem.W.nsIn K mainGlobals "law" = some (some (.ref f30)))
    (l30 : K.lookup f30 = some ⟨oc30, od30, .func (PySem.W.fnOf "law" "law" (defArgs slaw) (defBody slaw) (defScope slaw) .none kV30 dc30 pm30 an30 cd30 ct30), sl30⟩)
    (c30 : PySem.W.codeIn K cd30 "law" = true)
    (k30 : PySem.W.keepIn K (.ref f30) = true)
    (z_len : PySem.W.nsIn K mainGlobals "len" = some none)
    (z_int : PySem.W.nsIn K mainGlobals "int" = some none)
    (z_max : PySem.W.nsIn K mainGlobals "max" = some none)
    (z_min : PySem.W.nsIn K mainGlobals "min" = some none)
    (z_range : PySem.W.nsIn K mainGlobals "range" = some none)
    (z_list : PySem.W.nsIn K mainGlobals "list" = some none)
    (z_tuple : PySem.W.nsIn K mainGlobals "tuple" = some none)
    (z_bool : PySem.W.nsIn K mainGlobals "bool" = some none)
    (z_sorted : PySem.W.nsIn K mainGlobals "sorted" = some none)
    (z_isinstance : PySem.W.nsIn K mainGlobals "isinstance" = some none)
    (z_str : PySem.W.nsIn K mainGlobals "str" = some none)
    (z_dict : PySem.W.nsIn K mainGlobals "dict" = some none)
    (z_ValueError : PySem.W.nsIn K mainGlobals "ValueError" = some none)
    (zc_LIMIT : ∃ t, PySem.W.nsIn K mainGlobals "LIMIT" = some (some (.int 1000000000000 t)))
    : ∃ fd : FuncData, (∀ (s : Shared) (v : Value), BindsTo s fd ⟨[v], []⟩ [("script", v)]) ∧ ∀ base : Heap, K.In base → base.Ns mainGlobals mg → FnOk l.prog w K mg base CX0 9 fa fd ["script"] (spLaw K) := by
  have e := hfa.symm.trans (PySem.W.mg_of X G a30)
  cases e
  have T : Blt mg := { len := PySem.W.mg_none_of X G z_len, int := PySem.W.mg_none_of X G z_int, max := PySem.W.mg_none_of X G z_max, min := PySem.W.mg_none_of X G z_min, range := PySem.W.mg_none_of X G z_range, list' := PySem.W.mg_none_of X G z_list, tuple := PySem.W.mg_none_of X G z_tuple, bool := PySem.W.mg_none_of X G z_bool, sorted := PySem.W.mg_none_of X G z_sorted, isinstance := PySem.W.mg_none_of X G z_isinstance, str := PySem.W.mg_none_of X G z_str, dict := PySem.W.mg_none_of X G z_dict, ValueError := PySem.W.mg_none_of X G z_ValueError, g_LIMIT := by obtain ⟨t, e⟩ := zc_LIMIT; exact ⟨t, PySem.W.mg_of X G e⟩ }
  have oxC : OexC K C := ⟨⟨nmC, qC, NC, bsC, bmC, snC, subC, abC, colC, ddC, m0C, m1C, m2C, m3C, m5C, xC, rC⟩, saC, exC, tyC, kpC⟩
  have E_BadNumber : ErrC K mg "BadNumber" C := ⟨PySem.W.mg_of X G gC, oxC, ⟨gaC, ggC, exC, hdC⟩, ⟨gaC, ggC, exC, hdC, haC, hnC, htC, hmC⟩, PySem.W.exm_ref exC hdC tyC suC⟩
  have FIC := fun_mk (st := sBadNumber___init__) lC cC kC
  have bIC := FIC.binds (ps := ["self", "number"]) fun _ _ _ _ _ _ us hl => match us, hl with | [_, _], _ => rfl
  have F0 := fun_mk (st := sis_number) l0 c0 k0
  have b0 := F0.binds (ps := ["value"]) fun _ _ _ _ _ _ us hl => match us, hl with | [_], _ => rfl
  have F1 := fun_mk (st := scheck_number) l1 c1 k1
  have b1 := F1.binds (ps := ["value"]) fun _ _ _ _ _ _ us hl => match us, hl with | [_], _ => rfl
  have F2 := fun_mk (st := scheck_open_number) l2 c2 k2
  have b2 := F2.binds (ps := ["value"]) fun _ _ _ _ _ _ us hl => match us, hl with | [_], _ => rfl
  have F3 := fun_mk (st := smay_take) l3 c3 k3
  have b3 := F3.binds (ps := ["light", "ceiling"]) fun _ _ _ _ _ _ us hl => match us, hl with | [_, _], _ => rfl
  have F4 := fun_mk (st := stold_ends) l4 c4 k4
  have b4 := F4.binds (ps := ["first", "second"]) fun _ _ _ _ _ _ us hl => match us, hl with | [_, _], _ => rfl
  have F5 := fun_mk (st := slesser_end) l5 c5 k5
  have b5 := F5.binds (ps := ["first", "second"]) fun _ _ _ _ _ _ us hl => match us, hl with | [_, _], _ => rfl
  have F6 := fun_mk (st := slower_ceiling) l6 c6 k6
  have b6 := F6.binds (ps := ["first", "second"]) fun _ _ _ _ _ _ us hl => match us, hl with | [_, _], _ => rfl
  have F7 := fun_mk (st := s_law_store) l7 c7 k7
  have b7 := F7.binds (ps := ["script"]) fun _ _ _ _ _ _ us hl => match us, hl with | [_], _ => rfl
  have F8 := fun_mk (st := s_law_stir) l8 c8 k8
  have b8 := F8.binds (ps := ["store", "cell"]) fun _ _ _ _ _ _ us hl => match us, hl with | [_, _], _ => rfl
  have F9 := fun_mk (st := s_law_take) l9 c9 k9
  have b9 := F9.binds (ps := ["store", "many"]) fun _ _ _ _ _ _ us hl => match us, hl with | [_, _], _ => rfl
  have F10 := fun_mk (st := s_law_pick) l10 c10 k10
  have b10 := F10.binds (ps := ["store", "items"]) fun _ _ _ _ _ _ us hl => match us, hl with | [_, _], _ => rfl
  have F11 := fun_mk (st := s_law_shuffled) l11 c11 k11
  have b11 := F11.binds (ps := ["store", "items"]) fun _ _ _ _ _ _ us hl => match us, hl with | [_, _], _ => rfl
  have F12 := fun_mk (st := s_law_unlike) l12 c12 k12
  have b12 := F12.binds (ps := ["items"]) fun _ _ _ _ _ _ us hl => match us, hl with | [_], _ => rfl
  have F13 := fun_mk (st := s_law_number) l13 c13 k13
  have b13 := F13.binds (ps := ["store"]) fun _ _ _ _ _ _ us hl => match us, hl with | [_], _ => rfl
  have F14 := fun_mk (st := s_law_clamped) l14 c14 k14
  have b14 := F14.binds (ps := ["number"]) fun _ _ _ _ _ _ us hl => match us, hl with | [_], _ => rfl
  have F15 := fun_mk (st := s_law_pool) l15 c15 k15
  have b15 := F15.binds (ps := ["store"]) fun _ _ _ _ _ _ us hl => match us, hl with | [_], _ => rfl
  have F16 := fun_mk (st := s_law_near) l16 c16 k16
  have b16 := F16.binds (ps := ["store", "pool"]) fun _ _ _ _ _ _ us hl => match us, hl with | [_, _], _ => rfl
  have F17 := fun_mk (st := s_law_bad_number) l17 c17 k17
  have b17 := F17.binds (ps := ["store", "keyed"]) fun _ _ _ _ _ _ us hl => match us, hl with | [_, _], _ => rfl
  have F18 := fun_mk (st := s_law_bar) l18 c18 k18
  have b18 := F18.binds (ps := ["store", "pool"]) fun _ _ _ _ _ _ us hl => match us, hl with | [_, _], _ => rfl
  have F19 := fun_mk (st := s_law_is_number) l19 c19 k19
  have b19 := F19.binds (ps := ["value"]) fun _ _ _ _ _ _ us hl => match us, hl with | [_], _ => rfl
  have F20 := fun_mk (st := s_law_match) l20 c20 k20
  have b20 := F20.binds (ps := ["left", "right", "strict"]) fun _ _ _ _ _ _ us hl => match us, hl with | [_, _, _], _ => rfl
  have F21 := fun_mk (st := s_law_same) l21 c21 k21
  have b21 := F21.binds (ps := ["actual", "expected"]) fun _ _ _ _ _ _ us hl => match us, hl with | [_, _], _ => rfl
  have F22 := fun_mk (st := s_law_tried) l22 c22 k22
  have b22 := F22.binds (ps := ["numbers"]) fun _ _ _ _ _ _ us hl => match us, hl with | [_], _ => rfl
  have F23 := fun_mk (st := s_law_asked) l23 c23 k23
  have b23 := F23.binds (ps := ["k", "one", "two"]) fun _ _ _ _ _ _ us hl => match us, hl with | [_, _, _], _ => rfl
  have F24 := fun_mk (st := s_law_due) l24 c24 k24
  have b24 := F24.binds (ps := ["values"]) fun _ _ _ _ _ _ us hl => match us, hl with | [_], _ => rfl
  have F25 := fun_mk (st := s_law_is_under) l25 c25 k25
  have b25 := F25.binds (ps := ["light", "bar"]) fun _ _ _ _ _ _ us hl => match us, hl with | [_, _], _ => rfl
  have F26 := fun_mk (st := s_law_is_lower) l26 c26 k26
  have b26 := F26.binds (ps := ["told", "bars", "lights"]) fun _ _ _ _ _ _ us hl => match us, hl with | [_, _, _], _ => rfl
  have F27 := fun_mk (st := s_law_value) l27 c27 k27
  have b27 := F27.binds (ps := ["store", "pool", "bar"]) fun _ _ _ _ _ _ us hl => match us, hl with | [_, _, _], _ => rfl
  have F28 := fun_mk (st := s_law_refuses) l28 c28 k28
  have b28 := F28.binds (ps := ["store", "pool"]) fun _ _ _ _ _ _ us hl => match us, hl with | [_, _], _ => rfl
  have F29 := fun_mk (st := s_law_is_told) l29 c29 k29
  have b29 := F29.binds (ps := ["value"]) fun _ _ _ _ _ _ us hl => match us, hl with | [_], _ => rfl
  have F30 := fun_mk (st := slaw) l30 c30 k30
  have b30 := F30.binds (ps := ["script"]) fun _ _ _ _ _ _ us hl => match us, hl with | [_], _ => rfl
  refine ⟨PySem.W.fnOf "law" "law" (defArgs slaw) (defBody slaw) (defScope slaw) .none kV30 dc30 pm30 an30 cd30 ct30, fun s v => .of_eq rfl, fun base _ _ => ?_⟩
  have I_BadNumber : HasI l.prog w K mg base C 1 ["self", "number"] (spInit1 K "number") := ⟨fC, _, ok_BadNumber_init FIC, iC, tiC, bIC⟩
  have H_p_is_number : Has l.prog w K mg base "is_number" 1 ["value"] (spIsNum) := ⟨f0, _, ok_p_is_number (k := 0) F0 T, PySem.W.mg_of X G a0, k0, b0⟩
  have HK_is_number : HasK l.prog w K mg base CX0 "is_number" 1 ["value"] ["value"] id (spIsNum) := ⟨f0, _, ok_p_is_number (k := 0) F0 T, PySem.W.mg_of X G a0, k0, kb_of F0 fun _ _ _ _ _ _ ws hl => match ws, hl with | [_], _ => rfl, fun _ _ _ r => vals_id r⟩
  have H_check_number : HasX l.prog w K mg base "check_number" 3 ["value"] (spCheck C) := ⟨f1, _, ok_check_number (k := 2) F1 T E_BadNumber I_BadNumber nfCnumber (H_p_is_number.mono (by decide)) (by decide), PySem.W.mg_of X G a1, k1, b1⟩
  have HK_check_number : HasK l.prog w K mg base (L2.CX l.prog w) "check_number" 3 ["value"] ["value"] id (spCheck C) := ⟨f1, _, ok_check_number (k := 2) F1 T E_BadNumber I_BadNumber nfCnumber (H_p_is_number.mono (by decide)) (by decide), PySem.W.mg_of X G a1, k1, kb_of F1 fun _ _ _ _ _ _ ws hl => match ws, hl with | [_], _ => rfl, fun _ _ _ r => vals_id r⟩
  have H_check_open_number : HasX l.prog w K mg base "check_open_number" 4 ["value"] (spCheckO C) := ⟨f2, _, ok_check_open_number (k := 3) F2 T (H_check_number.mono (by decide)), PySem.W.mg_of X G a2, k2, b2⟩
  have H_may_take : HasX l.prog w K mg base "may_take" 5 ["light", "ceiling"] (spMay C) := ⟨f3, _, ok_may_take (k := 4) F3 T (H_check_number.mono (by decide)) (H_check_open_number.mono (by decide)), PySem.W.mg_of X G a3, k3, b3⟩
  have HK_may_take : HasK l.prog w K mg base (L2.CX l.prog w) "may_take" 5 ["light", "ceiling"] ["ceiling", "light"] List.reverse (spMay C) := ⟨f3, _, ok_may_take (k := 4) F3 T (H_check_number.mono (by decide)) (H_check_open_number.mono (by decide)), PySem.W.mg_of X G a3, k3, kb_of F3 fun _ _ _ _ _ _ ws hl => match ws, hl with | [_, _], _ => rfl, vals_rev2⟩
  have H_told_ends : Has l.prog w K mg base "told_ends" 1 ["first", "second"] (spTold) := ⟨f4, _, ok_told_ends (k := 0) F4 T, PySem.W.mg_of X G a4, k4, b4⟩
  have H_lesser_end : Has l.prog w K mg base "lesser_end" 2 ["first", "second"] (spLesser) := ⟨f5, _, ok_lesser_end (k := 1) F5 T (H_told_ends.mono (by decide)), PySem.W.mg_of X G a5, k5, b5⟩
  have H_lower_ceiling : HasX l.prog w K mg base "lower_ceiling" 5 ["first", "second"] (spLowerC C) := ⟨f6, _, ok_lower_ceiling (k := 4) F6 T (H_check_open_number.mono (by decide)) (H_lesser_end.mono (by decide)), PySem.W.mg_of X G a6, k6, b6⟩
  have HK_lower_ceiling : HasK l.prog w K mg base (L2.CX l.prog w) "lower_ceiling" 5 ["first", "second"] ["second", "first"] List.reverse (spLowerC C) := ⟨f6, _, ok_lower_ceiling (k := 4) F6 T (H_check_open_number.mono (by decide)) (H_lesser_end.mono (by decide)), PySem.W.mg_of X G a6, k6, kb_of F6 fun _ _ _ _ _ _ ws hl => match ws, hl with | [_, _], _ => rfl, vals_rev2⟩
  have H_store : Has l.prog w K mg base "_law_store" 1 ["script"] (spStore K) := ⟨f7, _, ok_store (k := 0) F7 T, PySem.W.mg_of X G a7, k7, b7⟩
  have H_stir : Has l.prog w K mg base "_law_stir" 1 ["store", "cell"] (spStir) := ⟨f8, _, ok_stir (k := 0) F8 T, PySem.W.mg_of X G a8, k8, b8⟩
  have H_take : Has l.prog w K mg base "_law_take" 2 ["store", "many"] (spTake) := ⟨f9, _, ok_take (k := 1) F9 T (H_stir.mono (by decide)), PySem.W.mg_of X G a9, k9, b9⟩
  have H_pick : Has l.prog w K mg base "_law_pick" 3 ["store", "items"] (spPick) := ⟨f10, _, ok_pick (k := 2) F10 T (H_take.mono (by decide)), PySem.W.mg_of X G a10, k10, b10⟩
  have H_shuffled : Has l.prog w K mg base "_law_shuffled" 3 ["store", "items"] (spShuffled) := ⟨f11, _, ok_shuffled (k := 2) F11 T (H_take.mono (by decide)), PySem.W.mg_of X G a11, k11, b11⟩
  have H_unlike : Has l.prog w K mg base "_law_unlike" 1 ["items"] (spUnlike) := ⟨f12, _, ok_unlike (k := 0) F12 T, PySem.W.mg_of X G a12, k12, b12⟩
  have H_number : Has l.prog w K mg base "_law_number" 4 ["store"] (spNumber) := ⟨f13, _, ok_number (k := 3) F13 T (H_take.mono (by decide)) (H_pick.mono (by decide)), PySem.W.mg_of X G a13, k13, b13⟩
  have H_clamped : Has l.prog w K mg base "_law_clamped" 1 ["number"] (spClamped) := ⟨f14, _, ok_clamped (k := 0) F14 T, PySem.W.mg_of X G a14, k14, b14⟩
  have H_pool : Has l.prog w K mg base "_law_pool" 4 ["store"] (spPool) := ⟨f15, _, ok_pool (k := 3) F15 T (H_take.mono (by decide)) (H_shuffled.mono (by decide)), PySem.W.mg_of X G a15, k15, b15⟩
  have H_near : Has l.prog w K mg base "_law_near" 4 ["store", "pool"] (spNear) := ⟨f16, _, ok_near (k := 3) F16 T (H_take.mono (by decide)) (H_pick.mono (by decide)) (H_clamped.mono (by decide)), PySem.W.mg_of X G a16, k16, b16⟩
  have H_bad_number : Has l.prog w K mg base "_law_bad_number" 4 ["store", "keyed"] (spBadNum) := ⟨f17, _, ok_bad_number (k := 3) F17 T (H_take.mono (by decide)) (H_pick.mono (by decide)), PySem.W.mg_of X G a17, k17, b17⟩
  have H_bar : Has l.prog w K mg base "_law_bar" 5 ["store", "pool"] (spBar) := ⟨f18, _, ok_bar (k := 4) F18 T (H_take.mono (by decide)) (H_pick.mono (by decide)) (H_near.mono (by decide)), PySem.W.mg_of X G a18, k18, b18⟩
  have H_is_number : Has l.prog w K mg base "_law_is_number" 1 ["value"] (spIsNum) := ⟨f19, _, ok_is_number (k := 0) F19 T, PySem.W.mg_of X G a19, k19, b19⟩
  have H_match0 : Has l.prog w K mg base "_law_match" 1 ["left", "right", "strict"] (spMatch 0) := ⟨f20, _, ok_match0 (k := 0) F20 T, PySem.W.mg_of X G a20, k20, b20⟩
  have H_match1 : Has l.prog w K mg base "_law_match" 2 ["left", "right", "strict"] (spMatch 1) := ⟨f20, _, ok_matchS (k := 1) F20 T H_match0, PySem.W.mg_of X G a20, k20, b20⟩
  have H_match2 : Has l.prog w K mg base "_law_match" 3 ["left", "right", "strict"] (spMatch 2) := ⟨f20, _, ok_matchS (k := 2) F20 T H_match1, PySem.W.mg_of X G a20, k20, b20⟩
  have H_same : Has l.prog w K mg base "_law_same" 4 ["actual", "expected"] (spSame 2) := ⟨f21, _, ok_same (k := 3) F21 T (H_match2.mono (by decide)), PySem.W.mg_of X G a21, k21, b21⟩
  have H_tried : Has l.prog w K mg base "_law_tried" 2 ["numbers"] (spTried) := ⟨f22, _, ok_tried (k := 1) F22 T (H_clamped.mono (by decide)) (H_unlike.mono (by decide)), PySem.W.mg_of X G a22, k22, b22⟩
  have TE : Errs K mg C cO cN cS cR := ⟨PySem.W.mg_of X G gcO, PySem.W.mg_of X G gcN, PySem.W.mg_of X G gcS, PySem.W.mg_of X G gcR, isO, isV, isN, isS, isR⟩
  have H_asked : Has l.prog w K mg base "_law_asked" 6 ["k", "one", "two"] (spAsked) := ⟨f23, _, ok_asked (k := 5) F23 T TE E_BadNumber nfCnumber (H_may_take.mono (by decide)) (HK_may_take.mono (by decide)) (H_lower_ceiling.mono (by decide)) (HK_lower_ceiling.mono (by decide)) (H_check_number.mono (by decide)) (HK_check_number.mono (by decide)), PySem.W.mg_of X G a23, k23, b23⟩
  have H_due : Has l.prog w K mg base "_law_due" 2 ["values"] (spDue) := ⟨f24, _, ok_due (k := 1) F24 T (H_is_number.mono (by decide)), PySem.W.mg_of X G a24, k24, b24⟩
  have H_is_under : Has l.prog w K mg base "_law_is_under" 1 ["light", "bar"] (spUnder) := ⟨f25, _, ok_is_under (k := 0) F25 T, PySem.W.mg_of X G a25, k25, b25⟩
  have H_is_lower : Has l.prog w K mg base "_law_is_lower" 7 ["told", "bars", "lights"] (spIsLower) := ⟨f26, _, ok_is_lower (k := 6) F26 T (H_same.mono (by decide)) (H_is_under.mono (by decide)) (H_asked.mono (by decide)), PySem.W.mg_of X G a26, k26, b26⟩
  have H_value : Has l.prog w K mg base "_law_value" 5 ["store", "pool", "bar"] (spValue) := ⟨f27, _, ok_value (k := 4) F27 T (H_take.mono (by decide)) (H_pick.mono (by decide)) (H_near.mono (by decide)) (H_number.mono (by decide)) (H_bad_number.mono (by decide)), PySem.W.mg_of X G a27, k27, b27⟩
  have H_refuses : Has l.prog w K mg base "_law_refuses" 8 ["store", "pool"] (spRefuses) := ⟨f28, _, ok_refuses (k := 7) F28 T (H_value.mono (by decide)) (H_due.mono (by decide)) (H_is_under.mono (by decide)) (H_same.mono (by decide)) (H_asked.mono (by decide)) (H_is_lower.mono (by decide)) (H_tried.mono (by decide)), PySem.W.mg_of X G a28, k28, b28⟩
  have H_is_told : Has l.prog w K mg base "_law_is_told" 7 ["value"] (spIsTold) := ⟨f29, _, ok_is_told (k := 6) F29 T (H_is_number.mono (by decide)) (H_p_is_number.mono (by decide)) (HK_is_number.mono (by decide)) (H_same.mono (by decide)) (H_asked.mono (by decide)), PySem.W.mg_of X G a29, k29, b29⟩
  exact ok_law (k := 8) F30 T (H_store.mono (by decide)) (H_pool.mono (by decide)) (H_bar.mono (by decide)) (H_tried.mono (by decide)) (H_number.mono (by decide)) (H_is_lower.mono (by decide)) (H_asked.mono (by decide)) (H_same.mono (by decide)) (H_refuses.mono (by decide)) (H_bad_number.mono (by decide)) (H_is_told.mono (by decide))

end Z
open PySem PySem.W PyProof.Rows
set_option maxRecDepth 100000 in
set_option maxHeartbeats 0 in
theorem PySem.Challenge.cw_outshiners_k05_ceilings_and_numbers_holds : PySem.Challenge.rw_outshiners_k05_ceilings_and_numbers.Holds := by
  w_on; o_law; k_head; (case hw => w_witness2)
  k_fill
  refine L2.walk_of (l := PySem.Challenge.rw_outshiners_k05_ceilings_and_numbers) (n := 63) (k := 9) (x := "script") (CX := fun _ => L2.CX0) (sp := fun w => Z.spLaw _) rfl (by decide) rfl ⟨rfl, by decide, by decide⟩ (fun w h Y => PySem.W.kIn_of Y) ?F (fun _ _ a ns hl _ hS => ⟨a, ns, rfl, hS, hl, fun _ => rfl⟩) (fun _ _ _ _ _ h => h)
  case F =>
    intro w mg fa h KX G hmg
    refine' Z.all_mk KX G hmg ?gC ?xC ?rC ?saC ?gaC ?ggC ?nfCnumber ?kpC ?exC ?tyC ?hdC ?haC ?hnC ?htC ?hmC ?suC ?iC ?tiC ?lC ?cC ?kC ?gcO ?gcN ?gcS ?gcR ?isO ?isV ?isN ?isS ?isR ?a0 ?l0 ?c0 ?k0 ?a1 ?l1 ?c1 ?k1 ?a2 ?l2 ?c2 ?k2 ?a3 ?l3 ?c3 ?k3 ?a4 ?l4 ?c4 ?k4 ?a5 ?l5 ?c5 ?k5 ?a6 ?l6 ?c6 ?k6 ?a7 ?l7 ?c7 ?k7 ?a8 ?l8 ?c8 ?k8 ?a9 ?l9 ?c9 ?k9 ?a10 ?l10 ?c10 ?k10 ?a11 ?l11 ?c11 ?k11 ?a12 ?l12 ?c12 ?k12 ?a13 ?l13 ?c13 ?k13 ?a14 ?l14 ?c14 ?k14 ?a15 ?l15 ?c15 ?k15 ?a16 ?l16 ?c16 ?k16 ?a17 ?l17 ?c17 ?k17 ?a18 ?l18 ?c18 ?k18 ?a19 ?l19 ?c19 ?k19 ?a20 ?l20 ?c20 ?k20 ?a21 ?l21 ?c21 ?k21 ?a22 ?l22 ?c22 ?k22 ?a23 ?l23 ?c23 ?k23 ?a24 ?l24 ?c24 ?k24 ?a25 ?l25 ?c25 ?k25 ?a26 ?l26 ?c26 ?k26 ?a27 ?l27 ?c27 ?k27 ?a28 ?l28 ?c28 ?k28 ?a29 ?l29 ?c29 ?k29 ?a30 ?l30 ?c30 ?k30 ?z_len ?z_int ?z_max ?z_min ?z_range ?z_list ?z_tuple ?z_bool ?z_sorted ?z_isinstance ?z_str ?z_dict ?z_ValueError ?zc_LIMIT
    case gC => k_is
    case xC => k_is
    case rC => first | rfl | decide +kernel
    case saC => k_is
    case gaC => k_is
    case ggC => k_is
    case nfCnumber => k_is
    case kpC => k_is
    case exC => k_is
    case tyC => k_is
    case hdC => k_is
    case haC => k_is
    case hnC => k_is
    case htC => k_is
    case hmC => k_is
    case suC => first | rfl | k_is
    case iC => k_is
    case tiC => k_is
    case lC => k_is
    case cC => k_is
    case kC => k_is
    case gcO => k_is
    case gcN => k_is
    case gcS => k_is
    case gcR => k_is
    case isO => first | k_is | kit_is
    case isV => first | k_is | kit_is
    case isN => first | k_is | kit_is
    case isS => first | k_is | kit_is
    case isR => first | k_is | kit_is
    case a0 => k_is
    case l0 => k_is
    case c0 => k_is
    case k0 => k_is
    case a1 => k_is
    case l1 => k_is
    case c1 => k_is
    case k1 => k_is
    case a2 => k_is
    case l2 => k_is
    case c2 => k_is
    case k2 => k_is
    case a3 => k_is
    case l3 => k_is
    case c3 => k_is
    case k3 => k_is
    case a4 => k_is
    case l4 => k_is
    case c4 => k_is
    case k4 => k_is
    case a5 => k_is
    case l5 => k_is
    case c5 => k_is
    case k5 => k_is
    case a6 => k_is
    case l6 => k_is
    case c6 => k_is
    case k6 => k_is
    case a7 => k_is
    case l7 => k_is
    case c7 => k_is
    case k7 => k_is
    case a8 => k_is
    case l8 => k_is
    case c8 => k_is
    case k8 => k_is
    case a9 => k_is
    case l9 => k_is
    case c9 => k_is
    case k9 => k_is
    case a10 => k_is
    case l10 => k_is
    case c10 => k_is
    case k10 => k_is
    case a11 => k_is
    case l11 => k_is
    case c11 => k_is
    case k11 => k_is
    case a12 => k_is
    case l12 => k_is
    case c12 => k_is
    case k12 => k_is
    case a13 => k_is
    case l13 => k_is
    case c13 => k_is
    case k13 => k_is
    case a14 => k_is
    case l14 => k_is
    case c14 => k_is
    case k14 => k_is
    case a15 => k_is
    case l15 => k_is
    case c15 => k_is
    case k15 => k_is
    case a16 => k_is
    case l16 => k_is
    case c16 => k_is
    case k16 => k_is
    case a17 => k_is
    case l17 => k_is
    case c17 => k_is
    case k17 => k_is
    case a18 => k_is
    case l18 => k_is
    case c18 => k_is
    case k18 => k_is
    case a19 => k_is
    case l19 => k_is
    case c19 => k_is
    case k19 => k_is
    case a20 => k_is
    case l20 => k_is
    case c20 => k_is
    case k20 => k_is
    case a21 => k_is
    case l21 => k_is
    case c21 => k_is
    case k21 => k_is
    case a22 => k_is
    case l22 => k_is
    case c22 => k_is
    case k22 => k_is
    case a23 => k_is
    case l23 => k_is
    case c23 => k_is
    case k23 => k_is
    case a24 => k_is
    case l24 => k_is
    case c24 => k_is
    case k24 => k_is
    case a25 => k_is
    case l25 => k_is
    case c25 => k_is
    case k25 => k_is
    case a26 => k_is
    case l26 => k_is
    case c26 => k_is
    case k26 => k_is
    case a27 => k_is
    case l27 => k_is
    case c27 => k_is
    case k27 => k_is
    case a28 => k_is
    case l28 => k_is
    case c28 => k_is
    case k28 => k_is
    case a29 => k_is
    case l29 => k_is
    case c29 => k_is
    case k29 => k_is
    case a30 => k_is
    case l30 => k_is
    case c30 => k_is
    case k30 => k_is
    case z_len => k_is
    case z_int => k_is
    case z_max => k_is
    case z_min => k_is
    case z_range => k_is
    case z_list => k_is
    case z_tuple => k_is
    case z_bool => k_is
    case z_sorted => k_is
    case z_isinstance => k_is
    case z_str => k_is
    case z_dict => k_is
    case z_ValueError => k_is
    case zc_LIMIT => exact ⟨_, by k_is⟩
