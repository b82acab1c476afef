import PyProof.Rows.All
import Wide.All
import OpenK.AllK
import Wide.FinOn
import HandS.ForMost
import HandS.ForExc
import HandS.Wide
import HandS.IsInst
import HandS.SortInts
import HandS.Codes
import HandS.ExcInit
import HandS.ExcField
import HandS.ExcIs
import KE.DatumOrd
import KE.KExcIs
import HandS.SortKw
import HandS.TryMany
import HandS.ExcOwn
import HandS.FStr
import HandS.Text
import HandS.Dict
import HandS.Defaults
import HandS.Rev
import HandS.Conv
import HandS.RaiseMore
import HandS.Walk
import HandS.CallSlots
import HandS.MakeKwOnly
import HandS.OwnEq
import HandS.MakeKw
import HandS.ClsMeth
import PySem.Challenge.RW_outshiners_k02_spans_meet
set_option Elab.async false
set_option linter.all false
set_option maxRecDepth 100000
namespace Z
open PySem PySem.Spec PyProof.Rows L2
/-! ### a def that may be called by its name -/
structure Has (P : Program) (w : World) (K : PySem.W.Frag) (mg : Str → Option Value) (base : Heap) (x : Str) (k : Nat) (ps : List Str) (sp : Sp) : Prop where
  ex : ∃ f fd, FnOk P w K mg base CX0 k f fd ps sp ∧ mg x = some (.ref f) ∧ PySem.W.keepIn K (.ref f) = true ∧ Binds K fd ps []
section
variable {P : Program} {w : World} {K : PySem.W.Frag} {mg : Str → Option Value} {base : Heap}
theorem Has.mk' {x : Str} {k : Nat} {ps : List Str} {sp : Sp} {f : Addr} {fd : FuncData} (F : FnOk P w K mg base CX0 k f fd ps sp) (g : mg x = some (.ref f)) (kp : PySem.W.keepIn K (.ref f) = true) (b : Binds K fd ps []) : Has P w K mg base x k ps sp := ⟨f, fd, F, g, kp, b⟩
theorem Has.mono {x : Str} {j k : Nat} {ps : List Str} {sp : Sp} (h : Has P w K mg base x j ps sp) (l : j ≤ k) : Has P w K mg base x k ps sp := by
  obtain ⟨f, fd, F, r⟩ := h.ex
  exact ⟨f, fd, F.mono l, r⟩
end
theorem pe_callH {X : Cx} {x : Str} {k : Nat} {ps : List Str} {sp : Sp} {e : Expr} {es : List Expr} {t : TA} {p pos : Pos} (h : Has X.prog X.w X.K X.mg X.base x k ps sp) (hr : Room k X.A) (hg : Gl X x) (ha : PA X (e :: es) t)
    (hdb : (x == ("__debug__" : Str)) = false := by decide) (he : starEach (e :: es) X.env = (false, eval e X.env) :: starEach es X.env := by rfl) (hpl : (backTo pos (starEach es X.env)).any (·.1) = false := by rfl) :
    PE X (.Call (.Name x p) (e :: es) [] pos) (tCall sp [] E0 t) := by
  obtain ⟨f, fd, F, hm, hk, hb⟩ := h.ex
  exact pe_call F hr hg hm hk hb .nil pass0 ha hdb he hpl
theorem sl_of' {K : PySem.W.Frag} {H : Hp} {a : Addr} {xs : List V} (h : H a = some (.lst xs)) : SqL K H a xs := .inl (.inl h)
/-! ### readings, step by step -/
section
variable {σ : L2.St} {H : Hp} {D : Ends} {t u : TS} {te ta tb : TE} {tt tu : TT} {Q : VK} {i : Nat} {v x : V} {r : R2} {tA tR : TA} {QA : List V → Hp → Prop} {QT : Bool → Hp → Prop}
theorem rd_seq (h : t { D with nx := u D } σ H) : tSeq t u D σ H := h
theorem rd_asg (h : te σ H fun x H1 => D.nx (σ.set i (some x)) H1) : tAsg te (gName i) D σ H := h
theorem rd_asgS {to ti : TE} {ts : TSet} (h : te σ H fun x H1 => to σ H1 fun o H1 => ti σ H1 fun i H2 => ts o i x H2 fun H3 => D.nx σ H3) : tAsg te (gSub to ti ts) D σ H := h
theorem rd_ret (h : te σ H D.rt) : tRet te D σ H := h
theorem rd_ifS (h : tt σ H fun b H1 => if b = true then t D σ H1 else u D σ H1) : tIfS tt t u D σ H := h
theorem rd_next (h : D.nx σ H) : tNext D σ H := h
theorem rd_drop (h : te σ H fun _ H1 => D.nx σ H1) : tDrop te D σ H := h
theorem rd_var (e : σ[i]? = some (some v)) (h : Q v H) : tVar i σ H Q := ⟨v, e, h⟩
theorem rd_c (h : Q v H) : tC v σ H Q := h
theorem rd_op (h : ta σ H fun x H1 => tb σ H1 fun y H2 => r x y H2 Q) : tOp r ta tb σ H Q := h
theorem rd_un {r : V → Hp → VK → Prop} (h : ta σ H fun x H1 => r x H1 Q) : tUn r ta σ H Q := h
theorem rd_nil (h : QA [] H) : tNil σ H QA := h
theorem rd_cons (h : ta σ H fun x H1 => tR σ H1 fun xs H2 => QA (x :: xs) H2) : tCons ta tR σ H QA := h
theorem rd_cb {r : List V → Hp → VK → Prop} (h : tA σ H fun vs H1 => r vs H1 Q) : tCB r tA σ H Q := h
theorem rd_call {sp : Sp} {E : XK} (h : tA σ H fun vs H1 => sp vs H1 Q E) : tCall sp [] E tA σ H Q := by
  show tA σ H fun vs H1 => sp (vs ++ []) H1 Q E
  simp only [List.append_nil]
  exact h
theorem rd_test (h : te σ H fun x H' => ∃ k, x = .bl k ∧ QT k H') : tTest te σ H QT := h
theorem rd_tB (h : te σ H fun x H' => ∃ k, x = .bl k ∧ QT k H') : tB te σ H QT := h
theorem rd_bx {b : Bool} {R : Bool → Prop} (h : R b) : ∃ k, V.bl b = .bl k ∧ R k := ⟨b, rfl, h⟩
theorem rd_nn {R : Prop} (h : R) : V.non = V.non ∧ R := ⟨rfl, h⟩
theorem rd_not (h : tt σ H fun c H1 => QT (!c) H1) : tNot tt σ H QT := h
theorem rd_and (h : tt σ H fun c H1 => if c = true then tu σ H1 QT else QT false H1) : tAnd tt tu σ H QT := h
theorem rd_or (h : tt σ H fun c H1 => if c = true then QT true H1 else tu σ H1 QT) : tOr tt tu σ H QT := h
theorem rd_andV (h : ta σ H fun x H1 => ∃ c, x = .bl c ∧ if c = true then tb σ H1 Q else Q (.bl false) H1) : tAndV ta tb σ H Q := h
theorem rd_orV (h : ta σ H fun x H1 => ∃ c, x = .bl c ∧ if c = true then Q (.bl true) H1 else tb σ H1 Q) : tOrV ta tb σ H Q := h
theorem rd_notV (h : ta σ H fun x H1 => ∃ c, x = .bl c ∧ Q (.bl (!c)) H1) : tNotV ta σ H Q := h
theorem rd_if (h : tt σ H fun c H1 => if c = true then ta σ H1 Q else tb σ H1 Q) : tIf tt ta tb σ H Q := h
theorem rd_I0 {g : Int → Int → V} {i j : Int} (h : Q (g i j) H) : rI0 g (.int i) (.int j) H Q := ⟨i, j, rfl, rfl, h⟩
theorem rd_I {C : Int → Int → Prop} {g : Int → Int → V} {i j : Int} (c : C i j) (h : Q (g i j) H) : rI C g (.int i) (.int j) H Q := ⟨i, j, rfl, rfl, c, h⟩
theorem rd_U {g : Int → V} {i : Int} (h : Q (g i) H) : rU g (.int i) H Q := ⟨i, rfl, h⟩
theorem rd_eqI {i j : Int} (h : Q (.bl (decide (i = j))) H) : rEq (.int i) (.int j) H Q := ⟨rfl, by
  have e : decide (V.int i = V.int j) = decide (i = j) := by simp
  rw [e]; exact h⟩
theorem rd_neI {i j : Int} (h : Q (.bl (!decide (i = j))) H) : rNe (.int i) (.int j) H Q := ⟨rfl, by
  have e : decide (V.int i = V.int j) = decide (i = j) := by simp
  rw [e]; exact h⟩
theorem rd_lst (h : tA σ H fun xs H1 => xs.length ≤ sizeLine ∧ ∀ p, H1 p = none → Q (.ref p) (upd H1 p (.lst xs))) : tLst tA σ H Q := h
theorem rd_tup (h : tA σ H fun xs H1 => xs.length ≤ sizeLine ∧ ∀ p, H1 p = none → Q (.ref p) (upd H1 p (.tup xs))) : tTup tA σ H Q := h
theorem rd_sl {r : V → Option Int → Option Int → Hp → VK → Prop} {tl th : TO} (h : te σ H fun x H1 => tl σ H1 fun l H2 => th σ H2 fun u H3 => r x l u H3 Q) : tSl r te tl th σ H Q := h
theorem rd_bm {K : PySem.W.Frag} {T : String} {r : V → List V → Hp → VK → Prop} (h : te σ H fun x H1 => tyV K T x H1 ∧ tA σ H1 fun xs H2 => r x xs H2 Q) : tBM K T r te tA σ H Q := h
theorem rd_chain {r r' : R2} {tc : TE} (h : ta σ H fun x H1 => tb σ H1 fun y H2 => r x y H2 fun z H3 => ∃ k, z = .bl k ∧ if k = true then tc σ H3 fun z' H4 => r' y z' H4 Q else Q (.bl false) H3) : tChain r r' ta tb tc σ H Q := h
theorem rd_int1 {i : Int} {R : Int → Prop} {R' : Bool → Prop} (h : R i) : (∃ j, [V.int i] = [V.int j] ∧ R j) ∨ (∃ k, [V.int i] = [V.bl k] ∧ R' k) := .inl ⟨i, rfl, h⟩
theorem rd_max2 {i j : Int} {R : Int → Int → Prop} (h : R i j) : ∃ i' j', [V.int i, V.int j] = [V.int i', V.int j'] ∧ R i' j' := ⟨i, j, rfl, h⟩
theorem rd_min2 {i j : Int} {R : Int → Int → Prop} (h : R i j) : ∃ i' j', [V.int i, V.int j] = [V.int i', V.int j'] ∧ R i' j' := ⟨i, j, rfl, h⟩
theorem rd_ixL {K : PySem.W.Frag} {p : Addr} {xs : List V} {i : Int} {v : V} {Q : VK} (h : H p = some (.lst xs)) (e : atI xs i = some v) (q : Q v H) : rIxL K (.ref p) (.int i) H Q := ⟨p, xs, i, v, rfl, rfl, .inl (.inl h), e, q⟩
theorem rd_setL {p : Addr} {xs : List V} {k : Int} {j : Nat} {v : V} {Q : Hp → Prop} (h : H p = some (.lst xs)) (e : ixN xs.length k = some j) (q : Q (upd H p (.lst (xs.set j v)))) : rSetL (.ref p) (.int k) v H Q := ⟨p, xs, k, j, rfl, rfl, h, e, q⟩
theorem rd_part {te : TE} {Q : Option Int → Hp → Prop} (h : te σ H fun x H1 => ∃ i, x = .int i ∧ Q (some i) H1) : tPart te σ H Q := h
theorem rd_nopart {Q : Option Int → Hp → Prop} (h : Q none H) : tNoPart σ H Q := h
theorem rd_cut (Mid : L2.St → Hp → Prop) (h : t { D with nx := Mid } σ H) (h2 : ∀ σ' H', Mid σ' H' → u D σ' H') : C8.tCut t u D σ H := ⟨Mid, h, h2⟩
theorem rd_setS {p : Addr} {xs : List V} {k : Int} {j : Nat} {v : V} {Q : Hp → Prop} (e : ixN xs.length k = some j) (q : Q (upd H p (.lst (xs.set j v)))) : rSetL (.ref p) (.int k) v (upd H p (.lst xs)) Q := ⟨p, xs, k, j, rfl, rfl, upd_same, e, by rw [upd_upd]; exact q⟩
theorem rd_p9 {Q : VK} (h : Q (.int 1000000000) H) : rI CPow (fun i j => .int (i ^ j.toNat)) (.int 10) (.int 9) H Q := ⟨10, 9, rfl, rfl, ⟨by decide, by decide, by decide⟩, h⟩
theorem rd_p11 {Q : VK} (h : Q (.int 100000000000) H) : rI CPow (fun i j => .int (i ^ j.toNat)) (.int 10) (.int 11) H Q := ⟨10, 11, rfl, rfl, ⟨by decide, by decide, by decide⟩, h⟩
theorem rd_p12 {Q : VK} (h : Q (.int 1000000000000) H) : rI CPow (fun i j => .int (i ^ j.toNat)) (.int 10) (.int 12) H Q := ⟨10, 12, rfl, rfl, ⟨by decide, by decide, by decide⟩, h⟩
theorem rd_p13 {Q : VK} (h : Q (.int 10000000000000) H) : rI CPow (fun i j => .int (i ^ j.toNat)) (.int 10) (.int 13) H Q := ⟨10, 13, rfl, rfl, ⟨by decide, by decide, by decide⟩, h⟩
theorem rd_p18 {Q : VK} (h : Q (.int 1000000000000000000) H) : rI CPow (fun i j => .int (i ^ j.toNat)) (.int 10) (.int 18) H Q := ⟨10, 18, rfl, rfl, ⟨by decide, by decide, by decide⟩, h⟩
theorem rd_p30 {Q : VK} (h : Q (.int 1000000000000000000000000000000) H) : rI CPow (fun i j => .int (i ^ j.toNat)) (.int 10) (.int 30) H Q := ⟨10, 30, rfl, rfl, ⟨by decide, by decide, by decide⟩, h⟩
theorem rd_p40 {Q : VK} (h : Q (.int 10000000000000000000000000000000000000000) H) : rI CPow (fun i j => .int (i ^ j.toNat)) (.int 10) (.int 40) H Q := ⟨10, 40, rfl, rfl, ⟨by decide, by decide, by decide⟩, h⟩
theorem rd_seqL {K : PySem.W.Frag} {a : Addr} {xs : List V} {R : List V → Prop} (h : H a = some (.lst xs)) (q : R xs) : ∃ p ys, [V.ref a] = [V.ref p] ∧ (SqL K H p ys ∨ SqT K H p ys) ∧ R ys := ⟨a, xs, rfl, .inl (.inl (.inl h)), q⟩
theorem rd_seqT {K : PySem.W.Frag} {a : Addr} {xs : List V} {R : List V → Prop} (h : H a = some (.tup xs)) (q : R xs) : ∃ p ys, [V.ref a] = [V.ref p] ∧ (SqL K H p ys ∨ SqT K H p ys) ∧ R ys := ⟨a, xs, rfl, .inr (.inl (.inl h)), q⟩
theorem atI_get {xs : List V} {i : Int} (h0 : 0 ≤ i) (h1 : i < xs.length) : ∃ (hb : i.toNat < xs.length), atI xs i = some (xs[i.toNat]'hb) := by
  have hb : i.toNat < xs.length := by omega
  refine ⟨hb, ?_⟩
  unfold atI ixN
  rw [if_pos h0, if_pos h1]
  simp [hb]
theorem atI_ints {xs : List Int} {i : Int} (h0 : 0 ≤ i) (h1 : i < xs.length) : ∃ n, n ∈ xs ∧ xs[i.toNat]? = some n ∧ atI (xs.map V.int) i = some (.int n) := by
  have hb : i.toNat < xs.length := by omega
  refine ⟨xs[i.toNat], List.getElem_mem hb, by simp [hb], ?_⟩
  unfold atI ixN
  rw [if_pos h0, if_pos (by simpa using h1)]
  simp [hb]
/-! loops -/
theorem rd_for {wi : TI} {g : TG} {tb : TS} (h : wi σ H fun J H1 => ∃ W : Nat → Nat → L2.St → Hp → Prop, (∃ m, W 0 m σ H1) ∧ ∀ i m σ H, W i m σ H →
  (J.stop i H ∧ D.nx σ H) ∨ (J.go i H ∧ ∃ N : L2.St → Hp → Prop, (∀ σ' H', N σ' H' → ∃ m', m' < m ∧ W (i + 1) m' σ' H') ∧ ∀ x H', J.yld i H x H' → g x σ H' fun σ2 H2 => tb { D with nx := N, ct := N, bk := D.nx } σ2 H2)) : tFor wi g tb D σ H := h
theorem rd_iRng1 {ta : TA} {R : It → Hp → Prop} (h : ta σ H fun vs H1 => ∃ j : Int, vs = [.int j] ∧ -(2 ^ 62) ≤ j ∧ j < 2 ^ 62 ∧ R (Itr 0 j.toNat) H1) : iRng1 ta σ H R := h
theorem rd_iList {K : PySem.W.Frag} {R : It → Hp → Prop} (h : te σ H fun x H1 => ∃ a, x = .ref a ∧ (∃ xs, SqL K H1 a xs) ∧ R (Itl K a) H1) : iList K te σ H R := h
theorem for_rng {n : Nat} {k : Nat} {tb : TS} (Pv : Nat → L2.St → Hp → Prop) (h0 : Pv 0 σ H)
    (hs : ∀ i σ H, i < n → Pv i σ H → tb { D with nx := Pv (i + 1), ct := Pv (i + 1), bk := D.nx } (σ.set k (some (.int i))) H) (hd : ∀ σ H, Pv n σ H → D.nx σ H) :
    ∃ W : Nat → Nat → L2.St → Hp → Prop, (∃ m, W 0 m σ H) ∧ ∀ i m σ H, W i m σ H →
      ((Itr 0 n).stop i H ∧ D.nx σ H) ∨ ((Itr 0 n).go i H ∧ ∃ N : L2.St → Hp → Prop, (∀ σ' H', N σ' H' → ∃ m', m' < m ∧ W (i + 1) m' σ' H') ∧ ∀ x H', (Itr 0 n).yld i H x H' → gName k x σ H' fun σ2 H2 => tb { D with nx := N, ct := N, bk := D.nx } σ2 H2) := by
  refine for_range (lo := 0) Pv h0 (fun i σ H hi hp => ?_) hd
  have e : (V.int (0 + (i : Int))) = V.int i := by rw [Int.zero_add]
  rw [e]
  exact hs i σ H hi hp
theorem for_lst {K : PySem.W.Frag} {a : Addr} {xs : List V} {k : Nat} {tb : TS} (Pv : Nat → L2.St → Hp → Prop) (h0 : Pv 0 σ H) (hl : ∀ i σ H, Pv i σ H → H a = some (.lst xs))
    (hs : ∀ i x σ H, xs[i]? = some x → Pv i σ H → tb { D with nx := Pv (i + 1), ct := Pv (i + 1), bk := D.nx } (σ.set k (some x)) H) (hd : ∀ σ H, Pv xs.length σ H → D.nx σ H) :
    ∃ W : Nat → Nat → L2.St → Hp → Prop, (∃ m, W 0 m σ H) ∧ ∀ i m σ H, W i m σ H →
      ((Itl K a).stop i H ∧ D.nx σ H) ∨ ((Itl K a).go i H ∧ ∃ N : L2.St → Hp → Prop, (∀ σ' H', N σ' H' → ∃ m', m' < m ∧ W (i + 1) m' σ' H') ∧ ∀ x H', (Itl K a).yld i H x H' → gName k x σ H' fun σ2 H2 => tb { D with nx := N, ct := N, bk := D.nx } σ2 H2) :=
  for_list Pv h0 (fun i σ H _ hp => sl_of' (hl i σ H hp)) hs hd
theorem kb_NoneType_int : kitB "NoneType" "int" = some false := by decide +kernel
theorem kb_NoneType_bool : kitB "NoneType" "bool" = some false := by decide +kernel
theorem kb_NoneType_str : kitB "NoneType" "str" = some false := by decide +kernel
theorem kb_NoneType_list : kitB "NoneType" "list" = some false := by decide +kernel
theorem kb_NoneType_tuple : kitB "NoneType" "tuple" = some false := by decide +kernel
theorem kb_NoneType_dict : kitB "NoneType" "dict" = some false := by decide +kernel
theorem kb_bool_int : kitB "bool" "int" = some true := by decide +kernel
theorem kb_bool_bool : kitB "bool" "bool" = some true := by decide +kernel
theorem kb_bool_str : kitB "bool" "str" = some false := by decide +kernel
theorem kb_bool_list : kitB "bool" "list" = some false := by decide +kernel
theorem kb_bool_tuple : kitB "bool" "tuple" = some false := by decide +kernel
theorem kb_bool_dict : kitB "bool" "dict" = some false := by decide +kernel
theorem kb_int_int : kitB "int" "int" = some true := by decide +kernel
theorem kb_int_bool : kitB "int" "bool" = some false := by decide +kernel
theorem kb_int_str : kitB "int" "str" = some false := by decide +kernel
theorem kb_int_list : kitB "int" "list" = some false := by decide +kernel
theorem kb_int_tuple : kitB "int" "tuple" = some false := by decide +kernel
theorem kb_int_dict : kitB "int" "dict" = some false := by decide +kernel
theorem kb_str_int : kitB "str" "int" = some false := by decide +kernel
theorem kb_str_bool : kitB "str" "bool" = some false := by decide +kernel
theorem kb_str_str : kitB "str" "str" = some true := by decide +kernel
theorem kb_str_list : kitB "str" "list" = some false := by decide +kernel
theorem kb_str_tuple : kitB "str" "tuple" = some false := by decide +kernel
theorem kb_str_dict : kitB "str" "dict" = some false := by decide +kernel
theorem kb_list_int : kitB "list" "int" = some false := by decide +kernel
theorem kb_list_bool : kitB "list" "bool" = some false := by decide +kernel
theorem kb_list_str : kitB "list" "str" = some false := by decide +kernel
theorem kb_list_list : kitB "list" "list" = some true := by decide +kernel
theorem kb_list_tuple : kitB "list" "tuple" = some false := by decide +kernel
theorem kb_list_dict : kitB "list" "dict" = some false := by decide +kernel
theorem kb_tuple_int : kitB "tuple" "int" = some false := by decide +kernel
theorem kb_tuple_bool : kitB "tuple" "bool" = some false := by decide +kernel
theorem kb_tuple_str : kitB "tuple" "str" = some false := by decide +kernel
theorem kb_tuple_list : kitB "tuple" "list" = some false := by decide +kernel
theorem kb_tuple_tuple : kitB "tuple" "tuple" = some true := by decide +kernel
theorem kb_tuple_dict : kitB "tuple" "dict" = some false := by decide +kernel
theorem kb_dict_int : kitB "dict" "int" = some false := by decide +kernel
theorem kb_dict_bool : kitB "dict" "bool" = some false := by decide +kernel
theorem kb_dict_str : kitB "dict" "str" = some false := by decide +kernel
theorem kb_dict_list : kitB "dict" "list" = some false := by decide +kernel
theorem kb_dict_tuple : kitB "dict" "tuple" = some false := by decide +kernel
theorem kb_dict_dict : kitB "dict" "dict" = some true := by decide +kernel
theorem rd_isi {K : PySem.W.Frag} {a n : String} {b : Bool} (ty : TyOf K H x (.type a)) (k : kitB a n = some b) (q : Q (.bl b) H) : rIsi K [x, .ty n] H Q := ⟨x, .ty n, .type a, .type n, b, rfl, .ty n, .base ty, kit_ty k, q⟩
theorem pe_globI {X : Cx} {x : Str} {n : Int} {pos : Pos} (hg : Gl X x) (hm : ∃ t, X.mg x = some (.int n t)) (hd : (x == ("__debug__" : Str)) = false := by decide) : PE X (.Name x pos) (tC (.int n)) := by
  obtain ⟨t, e⟩ := hm
  exact pe_glob hg e ⟨t, rfl⟩ hd
theorem if_nf {A B : Prop} (h : A) : if (!false) = true then A else B := iteT h
theorem if_nt {A B : Prop} (h : B) : if (!true) = true then A else B := iteF h
theorem if_nn {A B : Prop} (h : A) : if decide (V.non = V.non) = true then A else B := by rw [decide_eq_true rfl]; exact iteT h
theorem if_nnN {A B : Prop} (h : B) : if (!decide (V.non = V.non)) = true then A else B := by rw [decide_eq_true rfl]; exact iteF h
theorem if_n_int {i : Int} {A B : Prop} (h : B) : if decide (V.int i = V.non) = true then A else B := by rw [decide_eq_false (fun e => nomatch e)]; exact iteF h
theorem if_nN_int {i : Int} {A B : Prop} (h : A) : if (!decide (V.int i = V.non)) = true then A else B := by rw [decide_eq_false (fun e => nomatch e)]; exact iteT h
theorem if_n_bl {b : Bool} {A B : Prop} (h : B) : if decide (V.bl b = V.non) = true then A else B := by rw [decide_eq_false (fun e => nomatch e)]; exact iteF h
theorem if_nN_bl {b : Bool} {A B : Prop} (h : A) : if (!decide (V.bl b = V.non)) = true then A else B := by rw [decide_eq_false (fun e => nomatch e)]; exact iteT h
theorem if_n_str {x : Str} {A B : Prop} (h : B) : if decide (V.str x = V.non) = true then A else B := by rw [decide_eq_false (fun e => nomatch e)]; exact iteF h
theorem if_nN_str {x : Str} {A B : Prop} (h : A) : if (!decide (V.str x = V.non)) = true then A else B := by rw [decide_eq_false (fun e => nomatch e)]; exact iteT h
theorem if_n_ref {a : Addr} {A B : Prop} (h : B) : if decide (V.ref a = V.non) = true then A else B := by rw [decide_eq_false (fun e => nomatch e)]; exact iteF h
theorem if_nN_ref {a : Addr} {A B : Prop} (h : A) : if (!decide (V.ref a = V.non)) = true then A else B := by rw [decide_eq_false (fun e => nomatch e)]; exact iteT h
theorem rd_eqB {i j : Bool} {Q : VK} (h : Q (.bl (decide (V.bl i = V.bl j))) H) : rEq (.bl i) (.bl j) H Q := ⟨rfl, h⟩
theorem rd_neB {i j : Bool} {Q : VK} (h : Q (.bl (!decide (i = j))) H) : rNe (.bl i) (.bl j) H Q := ⟨rfl, by
  have e : decide (V.bl i = V.bl j) = decide (i = j) := by simp
  rw [e]; exact h⟩
theorem rd_eqS {i j : Str} {Q : VK} (h : Q (.bl (decide (V.str i = V.str j))) H) : rEq (.str i) (.str j) H Q := ⟨rfl, h⟩
theorem if_dec {p : Prop} [Decidable p] {A B : Prop} (h1 : p → A) (h2 : ¬ p → B) : if decide p = true then A else B := by
  by_cases c : p
  · rw [if_pos (decide_eq_true c)]; exact h1 c
  · rw [if_neg (fun e => c (of_decide_eq_true e))]; exact h2 c
theorem if_ndec {p : Prop} [Decidable p] {A B : Prop} (h1 : ¬ p → A) (h2 : p → B) : if (!decide p) = true then A else B := by
  by_cases c : p
  · rw [decide_eq_true c]; exact iteF (h2 c)
  · rw [decide_eq_false c]; exact iteT (h1 c)
theorem if_bool {b : Bool} {A B : Prop} (h1 : b = true → A) (h2 : b = false → B) : if b = true then A else B := by
  cases b with
  | true => exact iteT (h1 rfl)
  | false => exact iteF (h2 rfl)
theorem if_nbool {b : Bool} {A B : Prop} (h1 : b = false → A) (h2 : b = true → B) : if (!b) = true then A else B := by
  cases b with
  | true => exact iteF (h2 rfl)
  | false => exact iteT (h1 rfl)
end
/-! ### the store: a list (at S.1) that holds the script's cells (at S.2) and six ints, the only thing that is changed by a draw -/
abbrev Sto := Addr × Addr
def StoreOk (S : Sto) (H : Hp) : Prop := ∃ (cells : List Int) (a b c d e f : Int), S.2 ≠ S.1 ∧ H S.1 = some (.lst [.ref S.2, .int a, .int b, .int c, .int d, .int e, .int f]) ∧ H S.2 = some (.lst (cells.map V.int)) ∧ 0 ≤ a ∧ 0 ≤ e ∧ e < 2147483647 ∧ 0 ≤ f ∧ f < 2147483647
def At (S : Sto) (H : Hp) (p : Addr) (o : HO) : Prop := p ≠ S.1 ∧ H p = some o
def ExS (S : Sto) (H H' : Hp) : Prop := ∀ p o, p ≠ S.1 → H p = some o → H' p = some o
theorem ExS.refl (S : Sto) (H : Hp) : ExS S H H := fun _ _ _ h => h
theorem ExS.trans {S : Sto} {H H1 H2 : Hp} (a : ExS S H H1) (b : ExS S H1 H2) : ExS S H H2 := fun p o n h => b p o n (a p o n h)
theorem ExS.updS {S : Sto} {H : Hp} {o : HO} : ExS S H (upd H S.1 o) := fun p u n h => by rw [upd_ne n]; exact h
theorem ExS.new {S : Sto} {H : Hp} {p : Addr} {o : HO} (h : H p = none) : ExS S H (upd H p o) := fun a u _ e => by rw [upd_ne (ne_of_none e h)]; exact e
theorem ExS.mut {S : Sto} {H H' : Hp} {p : Addr} {o : HO} (e : ExS S H H') (h : H p = none) : ExS S H (upd H' p o) := fun a u n ha => by rw [upd_ne (ne_of_none ha h)]; exact e a u n ha
theorem At.back {S : Sto} {H H' : Hp} {p : Addr} {o : HO} (e : ExS S H H') (h : At S H p o) : At S H' p o := ⟨h.1, e p o h.1 h.2⟩
theorem StoreOk.ne1 {S : Sto} {H : Hp} {p : Addr} (s : StoreOk S H) (h : H p = none) : p ≠ S.1 := by
  obtain ⟨_, _, _, _, _, _, _, _, hs, _⟩ := s
  exact fun e => (by rw [e, hs] at h; cases h)
theorem StoreOk.ne2 {S : Sto} {H : Hp} {p : Addr} (s : StoreOk S H) (h : H p = none) : p ≠ S.2 := by
  obtain ⟨_, _, _, _, _, _, _, _, _, hs, _⟩ := s
  exact fun e => (by rw [e, hs] at h; cases h)
theorem At.new {S : Sto} {H : Hp} {p : Addr} {o : HO} (s : StoreOk S H) (h : H p = none) : At S (upd H p o) p o := ⟨s.ne1 h, upd_same⟩
theorem store_upd {S : Sto} {p : Addr} {H : Hp} {o : HO} (s : StoreOk S H) (n : p ≠ S.1) (n2 : p ≠ S.2) : StoreOk S (upd H p o) := by
  obtain ⟨cells, a, b, c, d, e, f, n', hs, hq, r⟩ := s
  exact ⟨cells, a, b, c, d, e, f, n', by rw [upd_ne (Ne.symm n)]; exact hs, by rw [upd_ne (Ne.symm n2)]; exact hq, r⟩
theorem StoreOk.new {S : Sto} {H : Hp} {p : Addr} {o : HO} (s : StoreOk S H) (h : H p = none) : StoreOk S (upd H p o) := store_upd s (s.ne1 h) (s.ne2 h)
theorem StoreOk.same {S : Sto} {H H' : Hp} (s : StoreOk S H) (e : Same H H') : StoreOk S H' := by
  obtain ⟨cells, a, b, c, d, e', f, n, hs, hq, r⟩ := s
  exact ⟨cells, a, b, c, d, e', f, n, e _ _ hs, e _ _ hq, r⟩
theorem upd_id {H : Hp} {p : Addr} {o : HO} (h : H p = some o) : upd H p o = H := by
  funext b; unfold upd; split
  · rename_i e; rw [e, h]
  · rfl
theorem same_mut {H H' : Hp} {p : Addr} {o : HO} (e : Same H H') (h : H p = none) : Same H (upd H' p o) := fun b x hb => by rw [upd_ne (ne_of_none hb h)]; exact e b x hb
theorem ixN_nat {n : Nat} {i : Int} (h0 : 0 ≤ i) (h1 : i < n) : ixN n i = some i.toNat := by unfold ixN; rw [if_pos h0, if_pos h1]
theorem get_map {α : Type} {xs : List α} {f : α → V} {i : Nat} {x : V} (h : (xs.map f)[i]? = some x) : ∃ n, xs[i]? = some n ∧ x = f n := by
  rw [List.getElem?_map] at h
  cases e : xs[i]? with
  | none => rw [e] at h; cases h
  | some n => rw [e] at h; exact ⟨n, rfl, (Option.some.inj h).symm⟩
theorem flat_ints (ns : List Int) : (ns.map V.int).all flatV = true := by
  rw [List.all_map]; exact List.all_eq_true.mpr fun _ _ => rfl
theorem swap_perm {xs : List V} {i j : Nat} (hi : i < xs.length) (hj : j < xs.length) : ((xs.set i (xs[j]'hj)).set j (xs[i]'hi)).Perm xs := by
  rw [List.perm_iff_count]
  intro a
  rw [List.count_set (by rw [List.length_set]; exact hj), List.count_set hi]
  have hc : ∀ (k : Nat) (hk : k < xs.length), (xs[k] == a) = true → 0 < xs.count a := fun k hk e => List.count_pos_iff.mpr (by rw [← (beq_iff_eq.mp e)]; exact List.getElem_mem hk)
  have h1 := hc i hi
  have h2 := hc j hj
  by_cases e : i = j
  · subst e
    simp only [List.getElem_set_self]
    by_cases q : (xs[i] == a) = true
    · have := h1 q; simp only [q, if_true]; omega
    · simp only [q]; simp
  · rw [List.getElem_set_ne e]
    by_cases q : (xs[i] == a) = true <;> by_cases r : (xs[j] == a) = true <;> simp only [q, r, if_true] <;> simp <;> (try have := h1 q) <;> (try have := h2 r) <;> omega
def InR (n : Int) : Prop := -1000000000000 ≤ n ∧ n ≤ 1000000000000
instance (n : Int) : Decidable (InR n) := by unfold InR; exact inferInstance
def Sc : V → Prop
  | .non => True
  | .bl _ => True
  | .int _ => True
  | .str _ => True
  | _ => False
def isNum : V → Bool
  | .int n => decide (InR n)
  | _ => false
def Bad (v : V) : Prop := (∃ b, v = .bl b) ∨ ∃ n, v = .int n ∧ ¬ InR n
theorem ints_of {ns : List Int} : ∀ {ys : List V}, (∀ y ∈ ys, y ∈ ns.map V.int) → ∃ ms : List Int, ys = ms.map V.int ∧ ∀ m ∈ ms, m ∈ ns
  | [], _ => ⟨[], rfl, fun _ h => by cases h⟩
  | y :: ys, h => by
    obtain ⟨ms, e, hm⟩ := ints_of (ys := ys) fun z hz => h z (List.mem_cons_of_mem _ hz)
    obtain ⟨n, hn, rfl⟩ := List.mem_map.mp (h y List.mem_cons_self)
    refine ⟨n :: ms, by rw [e]; rfl, fun m hm' => ?_⟩
    rcases List.mem_cons.mp hm' with h1 | h1
    · rw [h1]; exact hn
    · exact hm m h1
theorem cut_mem {xs : List V} {lo hi : Option Int} {v : V} (h : v ∈ cutV xs lo hi) : v ∈ xs := by
  unfold cutV at h
  exact List.mem_of_mem_drop (List.mem_of_mem_take h)
theorem cut_to {xs : List V} {k : Nat} : cutV xs none (some (k : Int)) = xs.take k := by
  unfold cutV
  rw [HT.sIx_none, HT.sIx_nat, List.drop_zero, Nat.sub_zero]
  by_cases h : k ≤ xs.length
  · rw [Nat.min_eq_left h]
  · rw [Nat.min_eq_right (by omega), List.take_length, List.take_of_length_le (by omega)]
/-- the same data, to a depth -/
def Alike (H : Hp) : Nat → V → V → Prop
  | 0, x, y => Sc x ∧ x = y
  | n + 1, x, y => (Sc x ∧ x = y) ∨ ∃ (a b : Addr) (xs ys : List V), x = .ref a ∧ y = .ref b ∧ ((H a = some (.lst xs) ∧ H b = some (.lst ys)) ∨ (H a = some (.tup xs) ∧ H b = some (.tup ys))) ∧ xs.length = ys.length ∧ xs.length ≤ 100000 ∧ ∀ (i : Nat) (u v : V), xs[i]? = some u → ys[i]? = some v → Alike H n u v
theorem Alike.same {H H' : Hp} (e : Same H H') : ∀ {n : Nat} {x y : V}, Alike H n x y → Alike H' n x y
  | 0, _, _, h => h
  | n + 1, _, _, h => by
    rcases h with h | ⟨a, b, xs, ys, e1, e2, h, hl, h100, hi⟩
    · exact .inl h
    · refine .inr ⟨a, b, xs, ys, e1, e2, ?_, hl, h100, fun i u v h1 h2 => (hi i u v h1 h2).same e⟩
      rcases h with ⟨h1, h2⟩ | ⟨h1, h2⟩
      · exact .inl ⟨e _ _ h1, e _ _ h2⟩
      · exact .inr ⟨e _ _ h1, e _ _ h2⟩
theorem rd_isiL {H : Hp} {Q : VK} {K : PySem.W.Frag} {p : Addr} {xs : List V} {n : String} {b : Bool} (h : H p = some (.lst xs)) (k : kitB "list" n = some b) (q : Q (.bl b) H) : rIsi K [.ref p, .ty n] H Q := rd_isi (.lst h) k q
theorem rd_isiT {H : Hp} {Q : VK} {K : PySem.W.Frag} {p : Addr} {xs : List V} {n : String} {b : Bool} (h : H p = some (.tup xs)) (k : kitB "tuple" n = some b) (q : Q (.bl b) H) : rIsi K [.ref p, .ty n] H Q := rd_isi (.tup h) k q
theorem rd_isiLT {H : Hp} {x : V} {Q : VK} {K : PySem.W.Frag} {tp : Addr} {b : Bool} {a : String} (h : H tp = some (.tup [.ty "list", .ty "tuple"])) (ty : TyOf K H x (.type a)) (k : PySem.W.kitAny K (.type a) [.type "list", .type "tuple"] = some b) (q : Q (.bl b) H) : rIsiT K [x, .ref tp] H Q :=
  ⟨x, tp, _, .type a, _, b, rfl, h, .cons (.ty _) (.cons (.ty _) .nil), .base ty, k, q⟩
theorem ka_list {K : PySem.W.Frag} : PySem.W.kitAny K (.type "list") [.type "list", .type "tuple"] = some true := kitAny_cons (kit_ty kb_list_list) (fun h => by cases h) (fun _ => rfl)
theorem ka_tuple {K : PySem.W.Frag} : PySem.W.kitAny K (.type "tuple") [.type "list", .type "tuple"] = some true := kitAny_cons (kit_ty kb_tuple_list) (fun _ => kitAny_cons (kit_ty kb_tuple_tuple) (fun h => by cases h) (fun _ => rfl)) (fun h => by cases h)
theorem decTF : decide (true = true) = true := rfl
theorem rd_ixQL {K : PySem.W.Frag} {H : Hp} {p : Addr} {xs : List V} {i : Int} {v : V} {Q : VK} (h : H p = some (.lst xs)) (e : atI xs i = some v) (q : Q v H) : rIx K (.ref p) (.int i) H Q := .inl (rd_ixL h e q)
theorem rd_ixQT {K : PySem.W.Frag} {H : Hp} {p : Addr} {xs : List V} {i : Int} {v : V} {Q : VK} (h : H p = some (.tup xs)) (e : atI xs i = some v) (q : Q v H) : rIx K (.ref p) (.int i) H Q := .inr (.inl ⟨p, xs, i, v, rfl, rfl, .inl (.inl h), e, q⟩)
theorem same_ex {S : Sto} {H H' : Hp} (e : Same H H') : ExS S H H' := fun p o _ h => e p o h
theorem same_new {H : Hp} {p : Addr} {o : HO} (h : H p = none) : Same H (upd H p o) := fun b x e => by rw [upd_ne (ne_of_none e h)]; exact e
theorem sz {n : Nat} (h : n ≤ 100000) : n ≤ sizeLine := Nat.le_trans h (by decide)
theorem sl_of {K : PySem.W.Frag} {H : Hp} {a : Addr} {xs : List V} (h : H a = some (.lst xs)) : SqL K H a xs := .inl (.inl h)
theorem st_of {K : PySem.W.Frag} {H : Hp} {a : Addr} {xs : List V} (h : H a = some (.tup xs)) : SqT K H a xs := .inl (.inl h)

/-! ### min and max of a list of ints with default= -/
def rMinD (K : PySem.W.Frag) : List V → List V → Hp → VK → Prop := fun vs zs H Q => ∃ (a : Addr) (ns : List Int) (d : V), vs = [.ref a] ∧ zs = [d] ∧ SqL K H a (ns.map V.int) ∧ (ns = [] → Q d H) ∧ ∀ m, m ∈ ns → (∀ y ∈ ns, m ≤ y) → Q (.int m) H
def rMaxD (K : PySem.W.Frag) : List V → List V → Hp → VK → Prop := fun vs zs H Q => ∃ (a : Addr) (ns : List Int) (d : V), vs = [.ref a] ∧ zs = [d] ∧ SqL K H a (ns.map V.int) ∧ (ns = [] → Q d H) ∧ ∀ m, m ∈ ns → (∀ y ∈ ns, y ≤ m) → Q (.int m) H
theorem minOf_int : ∀ (xs : List Int) (x : Int), PySem.W.minOf x xs ∈ x :: xs ∧ ∀ y ∈ x :: xs, PySem.W.minOf x xs ≤ y
  | [], x => ⟨List.mem_cons_self, fun y h => by rw [List.mem_singleton.mp h]; exact Int.le_refl x⟩
  | z :: xs, x => by
    have e : PySem.W.minOf x (z :: xs) = PySem.W.minOf (if z < x then z else x) xs := by
      show List.foldl _ _ xs = List.foldl _ _ xs
      congr 1
      show (if decide (z < x) = true then z else x) = _
      by_cases h : z < x <;> simp [h]
    rw [e]
    obtain ⟨h1, h2⟩ := minOf_int xs (if z < x then z else x)
    by_cases h : z < x
    · rw [if_pos h] at h1 h2 ⊢
      refine ⟨List.mem_cons_of_mem _ h1, fun y hy => ?_⟩
      rcases List.mem_cons.mp hy with rfl | hy
      · exact Int.le_trans (h2 _ List.mem_cons_self) (Int.le_of_lt h)
      · exact h2 _ hy
    · rw [if_neg h] at h1 h2 ⊢
      refine ⟨?_, fun y hy => ?_⟩
      · rcases List.mem_cons.mp h1 with q | q
        · rw [q]; exact List.mem_cons_self
        · exact List.mem_cons_of_mem _ (List.mem_cons_of_mem _ q)
      · rcases List.mem_cons.mp hy with rfl | hy
        · exact h2 _ List.mem_cons_self
        · rcases List.mem_cons.mp hy with rfl | hy
          · exact Int.le_trans (h2 _ List.mem_cons_self) (by omega)
          · exact h2 _ (List.mem_cons_of_mem _ hy)
theorem maxOf_int : ∀ (xs : List Int) (x : Int), PySem.W.maxOf x xs ∈ x :: xs ∧ ∀ y ∈ x :: xs, y ≤ PySem.W.maxOf x xs
  | [], x => ⟨List.mem_cons_self, fun y h => by rw [List.mem_singleton.mp h]; exact Int.le_refl x⟩
  | z :: xs, x => by
    have e : PySem.W.maxOf x (z :: xs) = PySem.W.maxOf (if x < z then z else x) xs := by
      show List.foldl _ _ xs = List.foldl _ _ xs
      congr 1
      show (if decide (x < z) = true then z else x) = _
      by_cases h : x < z <;> simp [h]
    rw [e]
    obtain ⟨h1, h2⟩ := maxOf_int xs (if x < z then z else x)
    by_cases h : x < z
    · rw [if_pos h] at h1 h2 ⊢
      refine ⟨List.mem_cons_of_mem _ h1, fun y hy => ?_⟩
      rcases List.mem_cons.mp hy with rfl | hy
      · exact Int.le_trans (Int.le_of_lt h) (h2 _ List.mem_cons_self)
      · exact h2 _ hy
    · rw [if_neg h] at h1 h2 ⊢
      refine ⟨?_, fun y hy => ?_⟩
      · rcases List.mem_cons.mp h1 with q | q
        · rw [q]; exact List.mem_cons_self
        · exact List.mem_cons_of_mem _ (List.mem_cons_of_mem _ q)
      · rcases List.mem_cons.mp hy with rfl | hy
        · exact h2 _ List.mem_cons_self
        · rcases List.mem_cons.mp hy with rfl | hy
          · exact Int.le_trans (by omega) (h2 _ List.mem_cons_self)
          · exact h2 _ (List.mem_cons_of_mem _ hy)
theorem holds_int {h : Heap} {v : Value} {n : Int} (H : PySem.W.Holds h v n) : ∃ t, v = .int n t := by
  obtain ⟨as, r⟩ := H
  cases r
  exact ⟨_, rfl⟩
theorem hold_all {h : Heap} : ∀ {ns : List Int} {its : List Value}, Vals (ns.map V.int) its → PySem.W.HoldAll h its ns
  | [], _, .nil => PySem.W.HoldAll.nil
  | n :: ns, _, .cons r rs => by
    obtain ⟨t, rfl⟩ := r
    exact .cons ⟨_, .int n t⟩ (hold_all rs)
section
variable {X : Cx}
theorem cr_minD (hc : X.calm = true) (hu : X.A.units + 64 < cLine) : CallRK X (.builtin "min") [Str.ofString "default"] (rMinD X.K) := by
  intro pins s σ H vs zs us ws Q I r rz h
  obtain ⟨a, ns, d, rfl, rfl, hs, h0, h⟩ := h
  obtain rfl := Vals.ref1 r
  obtain ⟨w1, rfl, e1⟩ := vals1 rz
  obtain ⟨its, rv, hl, hz⟩ := I.list hs
  refine PySem.W.min_list_datum_default (I.ok.hd hc) hl.isList (hold_all rv) (by show X.A.units + 1 + 0 < cLine; omega) (fun e h' tk k => ?_) (fun y ys i v h' tk e hi hv k => ?_)
  · exact ⟨d, H, I.kept k, e1, h0 e⟩
  · obtain ⟨t, rfl⟩ := holds_int hv
    obtain ⟨m1, m2⟩ := minOf_int ys y
    subst e
    exact ⟨.int _, H, I.kept k, ⟨t, rfl⟩, h _ m1 m2⟩
theorem cr_maxD (hc : X.calm = true) (hu : X.A.units + 64 < cLine) : CallRK X (.builtin "max") [Str.ofString "default"] (rMaxD X.K) := by
  intro pins s σ H vs zs us ws Q I r rz h
  obtain ⟨a, ns, d, rfl, rfl, hs, h0, h⟩ := h
  obtain rfl := Vals.ref1 r
  obtain ⟨w1, rfl, e1⟩ := vals1 rz
  obtain ⟨its, rv, hl, hz⟩ := I.list hs
  refine PySem.W.max_list_datum_default (I.ok.hd hc) hl.isList (hold_all rv) (by show X.A.units + 1 + 0 < cLine; omega) (fun e h' tk k => ?_) (fun y ys i v h' tk e hi hv k => ?_)
  · exact ⟨d, H, I.kept k, e1, h0 e⟩
  · obtain ⟨t, rfl⟩ := holds_int hv
    obtain ⟨m1, m2⟩ := maxOf_int ys y
    subst e
    exact ⟨.int _, H, I.kept k, ⟨t, rfl⟩, h _ m1 m2⟩
/-! ### isinstance of a caught error that has its own dict -/
def rIsX (K : PySem.W.Frag) (cls : Value) (d : Option Addr) (a : Addr) : List V → Hp → VK → Prop := fun xs H Q => ∃ (D dd : Addr) (fs : List (Str × V)) (c : V) (cv : Value) (b : Bool), cls = .ref D ∧ d = some dd ∧ H dd = some (.xd fs) ∧ ExcC K D ∧ xs = [.ref a, c] ∧ (∀ u, RelV c u → u = cv) ∧ PySem.W.kitOne K (.ref D) cv = some b ∧ Q (.bl b) H
def rIsXT (K : PySem.W.Frag) (cls : Value) (d : Option Addr) (a : Addr) : List V → Hp → VK → Prop := fun xs H Q => ∃ (D dd : Addr) (fs : List (Str × V)) (tp : Addr) (cs : List V) (us : List Value) (b : Bool), cls = .ref D ∧ d = some dd ∧ H dd = some (.xd fs) ∧ ExcC K D ∧ xs = [.ref a, .ref tp] ∧ H tp = some (.tup cs) ∧ Paired ClsV cs us ∧ PySem.W.kitAny K (.ref D) us = some b ∧ Q (.bl b) H
theorem inst_exc {a D dd : Addr} {oe : Obj} {pn pins : List (Addr × Obj)} {s : Shared} {σ : L2.St} {H : Hp} {fs : List (Str × V)} (hz : Zc (.ref D) (some dd) oe) (hf : ∃ vs, oe.data = .fields vs) (I : Inv (X.suite a ((a, oe) :: pn)) pins σ H s) (hd : H dd = some (.xd fs)) :
    ∃ od, PySem.W.InstAt s.heap a oe D (some od) := by
  obtain ⟨hget, _⟩ := I.pin (a, oe) (List.mem_append.mpr (.inl List.mem_cons_self))
  obtain ⟨vs, hv⟩ := hf
  obtain ⟨mA, hns, hr⟩ := (show ObjOk X.prog X.w H s.heap dd (.xd fs) from I.hok dd _ hd)
  obtain ⟨od, ho, hl⟩ := lookIn_ns hns
  exact ⟨od, hget, hz.1, by unfold PySem.W.notCls; rw [hv] <;> rfl, by rw [hz.2]; exact ho⟩
theorem kit_exc {K : PySem.W.Frag} {D a : Addr} {oe : Obj} {od : Option Obj} (C : ExcC K D) : PySem.W.KitX K (.ref a) (.ref D) (fun h => PySem.W.InstAt h a oe D od) :=
  PySem.W.kitx_exc (by obtain ⟨cd, hc, _⟩ := PySem.W.any_some C.hd; rw [hc]; rfl) C.hg C.hk C.hs C.ha C.hn C.ht C.hm
theorem call_isX {K : PySem.W.Frag} {cls : Value} {d : Option Addr} {a : Addr} {oe : Obj} {pn : List (Addr × Obj)} (hK : X.K = K) (hz : Zc cls d oe) (hf : ∃ vs, oe.data = .fields vs) : CallR (X.suite a ((a, oe) :: pn)) (.builtin "isinstance") (rIsX K cls d a) := by
  intro pins s σ H xs us Q I r h
  obtain ⟨D, dd, fs, c, cv, b, rfl, rfl, hd, C, rfl, hcv, e, q⟩ := h
  subst hK
  obtain ⟨u1, u2, rfl, r1, r2⟩ := vals2 r
  obtain rfl : u1 = Value.ref a := r1
  obtain rfl := hcv _ r2
  obtain ⟨od, J⟩ := inst_exc hz hf I hd
  exact PySem.W.kia_one (kit_exc C) I.kIn J e (fun z => nomatch z) fun tk => ⟨.bl b, H, I.kept (t' := tk) fun _ _ z => z, rfl, q⟩
theorem call_isXT {K : PySem.W.Frag} {cls : Value} {d : Option Addr} {a : Addr} {oe : Obj} {pn : List (Addr × Obj)} (hK : X.K = K) (hz : Zc cls d oe) (hf : ∃ vs, oe.data = .fields vs) : CallR (X.suite a ((a, oe) :: pn)) (.builtin "isinstance") (rIsXT K cls d a) := by
  intro pins s σ H xs us Q I r h
  obtain ⟨D, dd, fs, tp, cs, ws, b, rfl, rfl, hd, C, rfl, hT, hp, e, q⟩ := h
  subst hK
  obtain ⟨u1, u2, rfl, r1, r2⟩ := vals2 r
  obtain rfl : u1 = Value.ref a := r1
  cases (show u2 = Value.ref tp from r2)
  obtain ⟨od, J⟩ := inst_exc hz hf I hd
  obtain ⟨_, its, rv, o, h1, h2, n, h3⟩ := (show ObjOk X.prog X.w H s.heap tp (.tup cs) from I.hok tp _ hT)
  have e3 := ClsV.all hp rv
  subst e3
  obtain ⟨oc, ood, dt, sl⟩ := o
  simp only at h2 h3
  subst h2 h3
  exact PySem.W.kia_tup (kit_exc C) I.kIn J h1 e (fun z => nomatch z) fun tk => ⟨.bl b, H, I.kept (t' := tk) fun _ _ z => z, rfl, q⟩
end
/-! ### an own error with one field -/
def spInit1 (K : PySem.W.Frag) (fld : Str) : Sp := fun vs H Q _ => ∃ (a C : Addr) (v : V), vs = [.ref a, v] ∧ OexC K C ∧ PySem.W.findIn K (.ref C) fld = some none ∧ H a = some (exo a C none) ∧ ∀ dx, H dx = none → dx ≠ a → Q .non (upd (upd H dx (exd dx [(fld, v)])) a (exo a C (some dx)))
theorem same_made {H1 : Hp} {a dx C : Addr} {fs : List (Str × V)} {e0 : HO} (na : H1 a = none) (nd : H1 dx = none) (ne : dx ≠ a) : Same H1 (upd (del (upd (upd (upd H1 a e0) dx (exd dx fs)) a (exo a C (some dx))) a) dx (.xd fs)) := fun b o hb => by
  have h1 := ne_of_none hb na
  have h2 := ne_of_none hb nd
  rw [upd_ne h2, del_ne h1, upd_ne h1, upd_ne h2, upd_ne h1]
  exact hb
/-- C(v)'s reading, from what is asked of the new error -/
theorem rd_mk1 {K : PySem.W.Frag} {C : Addr} {fld : Str} {v : V} {H1 : Hp} {W : XK} (T : OexC K C) (nf : PySem.W.findIn K (.ref C) fld = some none) (h : ∀ d H', H1 d = none → Same H1 H' → H' d = some (.xd [(fld, v)]) → W (.ref C) (some d) H') :
    [v].length ≤ 1000 ∧ ∀ a, H1 a = none → spInit1 K fld (.ref a :: ([v] ++ [])) (upd H1 a (exo a C none))
      (fun v H2 => v = .non ∧ ∃ (d : Addr) (fs : List (Str × V)), H2 a = some (exo a C (some d)) ∧ H2 d = some (exd d fs) ∧ H1 d = none ∧ W (.ref C) (some d) (upd (del H2 a) d (.xd fs))) (fun _ _ _ => False) := by
  refine ⟨by simp, fun a na => ⟨a, C, v, rfl, T, nf, upd_same, fun dx ndx ne => ?_⟩⟩
  have nd : H1 dx = none := by rw [upd_ne ne] at ndx; exact ndx
  exact ⟨rfl, dx, [(fld, v)], upd_same, by rw [upd_ne ne]; exact upd_same, nd, h dx _ nd (same_made na nd ne) upd_same⟩
structure HasI (P : Program) (w : World) (K : PySem.W.Frag) (mg : Str → Option Value) (base : Heap) (C : Addr) (k : Nat) (ps : List Str) (sp : Sp) : Prop where
  ex : ∃ fI fd, FnOk P w K mg base CX0 k fI fd ps sp ∧ PySem.W.findIn K (.ref C) "__init__" = some (some (.ref fI)) ∧ PySem.W.typeIn K (.ref fI) = some (.type "function") ∧ Binds K fd ps []
structure ErrC (K : PySem.W.Frag) (mg : Str → Option Value) (x : Str) (C : Addr) : Prop where
  gC : mg x = some (.ref C)
  ox : OexC K C
  xf : XfC K C
  ec : ExcC K C
  self : PySem.W.exmOne K (.ref C) (.ref C) = some true
/-- raise C(e, ..) -/
theorem ps_raiseC {X : Cx} {x : Str} {C : Addr} {k j : Nat} {ps : List Str} {sp : Sp} {e : Expr} {es : List Expr} {ta : TA} {W : WX} {p pos pos2 : Pos} (hc : X.calm = true) (tk : Takes X W) (E : ErrC X.K X.mg x C) (I : HasI X.prog X.w X.K X.mg X.base C j ps sp) (hr : Room k X.A) (hj : j + 1 ≤ k) (hg : Gl X x) (ha : PA X (e :: es) ta)
    (hdb : (x == ("__debug__" : Str)) = false := by decide) (he : starEach (e :: es) X.env = (false, eval e X.env) :: starEach es X.env := by rfl) (hpl : (backTo pos (starEach es X.env)).any (·.1) = false := by rfl) :
    PS X (.Raise (some (.Call (.Name x p) (e :: es) [] pos)) none pos2) (fun _ σ H => tMkO C sp [] ta σ H fun cls d H' => W cls d σ H') := by
  obtain ⟨fI, fd, F1, iC, tI, hb⟩ := I.ex
  exact ps_raise hc tk (pmk_oex E.ox iC tI F1 (hr.mono hj) hb .nil pass0 hg E.gC ha hdb he hpl)
theorem rd_mkO {C : Addr} {sp : Sp} {ta : TA} {σ : L2.St} {H : Hp} {Q : XK} (h : ta σ H fun vs H1 => vs.length ≤ 1000 ∧ ∀ a, H1 a = none → sp (.ref a :: (vs ++ [])) (upd H1 a (exo a C none))
  (fun v H2 => v = .non ∧ ∃ (d : Addr) (fs : List (Str × V)), H2 a = some (exo a C (some d)) ∧ H2 d = some (exd d fs) ∧ H1 d = none ∧ Q (.ref C) (some d) (upd (del H2 a) d (.xd fs))) (fun _ _ _ => False)) : tMkO C sp [] ta σ H Q := h
theorem rd_ckw {r : List V → List V → Hp → VK → Prop} {t tk : TA} {σ : L2.St} {H : Hp} {Q : VK} (h : t σ H fun vs H1 => tk σ H1 fun zs H2 => r vs zs H2 Q) : tCKw r t tk σ H Q := h
theorem rd_xf {a C : Addr} {cls : Value} {d : Option Addr} {f : Str} {te : TE} {σ : L2.St} {H : Hp} {Q : VK} (h : te σ H fun x H1 => x = .ref a ∧ cls = .ref C ∧ ∃ (dd : Addr) (fs : List (Str × V)) (v : V), d = some dd ∧ H1 dd = some (.xd fs) ∧ fs.lookup f = some v ∧ Q v H1) : tXf a cls d C f te σ H Q := h
theorem rd_iTup {K : PySem.W.Frag} {te : TE} {σ : L2.St} {H : Hp} {R : It → Hp → Prop} (h : te σ H fun x H1 => ∃ a, x = .ref a ∧ (∃ xs, SqT K H1 a xs) ∧ R (Itt K a) H1) : iTup K te σ H R := h
theorem rd_lc {wi : TI} {g : TG} {tt : TT} {te : TE} {vs : List Nat} {σ : L2.St} {H : Hp} {Q : VK} (h : wi σ H fun J H1 => ∀ D, H1 D = none → ∃ W : Nat → Nat → Hp → Prop, (∃ m, W 0 m (upd H1 D (.lst []))) ∧ ∀ i m H, W i m H →
  (J.stop i H ∧ Q (.ref D) H) ∨ (J.go i H ∧ ∃ Nx : Hp → Prop, (∀ H', Nx H' → ∃ m', m' < m ∧ W (i + 1) m' H') ∧ ∀ x H', J.yld i H x H' → g x (wipe σ vs) H' fun σ2 H2 => wipe σ2 vs = wipe σ vs ∧ tt σ2 H2 fun b H3 =>
    if b = true then te σ2 H3 fun y H4 => ∃ acc, H4 D = some (.lst acc) ∧ acc.length < sizeLine ∧ Nx (upd H4 D (.lst (acc ++ [y]))) else Nx H3)) : tLc wi g tt te vs σ H Q := h
/-! ### defs that raise -/
structure HasX (P : Program) (w : World) (K : PySem.W.Frag) (mg : Str → Option Value) (base : Heap) (x : Str) (k : Nat) (ps : List Str) (sp : Sp) : Prop where
  ex : ∃ f fd, FnOk P w K mg base (L2.CX P w) k f fd ps sp ∧ mg x = some (.ref f) ∧ PySem.W.keepIn K (.ref f) = true ∧ Binds K fd ps []
theorem HasX.mono {P : Program} {w : World} {K : PySem.W.Frag} {mg : Str → Option Value} {base : Heap} {x : Str} {j k : Nat} {ps : List Str} {sp : Sp} (h : HasX P w K mg base x j ps sp) (l : j ≤ k) : HasX P w K mg base x k ps sp := by
  obtain ⟨f, fd, F, r⟩ := h.ex
  exact ⟨f, fd, F.mono l, r⟩
/-- called with keywords alone: g puts the keywords' values (named ks) in the parameters' order -/
structure HasK (P : Program) (w : World) (K : PySem.W.Frag) (mg : Str → Option Value) (base : Heap) (CX : CXT) (x : Str) (k : Nat) (ps ks : List Str) (g : {α : Type} → List α → List α) (sp : Sp) : Prop where
  ex : ∃ f fd, FnOk P w K mg base CX k f fd ps sp ∧ mg x = some (.ref f) ∧ PySem.W.keepIn K (.ref f) = true ∧ (∀ (s : Shared) (ws : List Value), ws.length = ks.length → BindsTo s fd ⟨[], ks.zip ws⟩ (ps.zip (g ws))) ∧ (∀ (vs : List V) (ws : List Value), vs.length = ks.length → Vals vs ws → Vals (g vs) (g ws))
theorem HasK.mono {P : Program} {w : World} {K : PySem.W.Frag} {mg : Str → Option Value} {base : Heap} {CX : CXT} {x : Str} {j k : Nat} {ps ks : List Str} {g : {α : Type} → List α → List α} {sp : Sp} (h : HasK P w K mg base CX x j ps ks g sp) (l : j ≤ k) : HasK P w K mg base CX x k ps ks g sp := by
  obtain ⟨f, fd, F, r⟩ := h.ex
  exact ⟨f, fd, F.mono l, r⟩
def tCallKS (sp : Sp) (n : Nat) (g : List V → List V) (E : L2.St → XK) (tk : TA) : TE := fun σ H Q => tk σ H fun zs H1 => zs.length = n ∧ sp (g zs) H1 Q (E σ)
section
variable {X : Cx} {x : Str} {k : Nat} {ps ks : List Str} {sp : Sp} {e : Expr} {es : List Expr} {t tk : TA} {p pos : Pos} {W : WX} {kws : List Keyword} {CX : CXT}
/-- a call within a try, or in a def that lets errors out -/
theorem pe_callX (h : HasX X.prog X.w X.K X.mg X.base x k ps sp) (hr : Room k X.A) (hg : Gl X x) (tk : Takes X W) (ha : PA X (e :: es) t)
    (hdb : (x == ("__debug__" : Str)) = false := by decide) (he : starEach (e :: es) X.env = (false, eval e X.env) :: starEach es X.env := by rfl) (hpl : (backTo pos (starEach es X.env)).any (·.1) = false := by rfl) :
    PE X (.Call (.Name x p) (e :: es) [] pos) (tCallS sp (WE W) t) := by
  obtain ⟨f, fd, F, hm, hk, hb⟩ := h.ex
  exact pe_callS F hr hg hm hk hb (fun σ => passAt tk σ) ha hdb he hpl
theorem pe_callKS {g : {α : Type} → List α → List α} {E : L2.St → XK} (h : HasK X.prog X.w X.K X.mg X.base CX x k ps ks g sp) (hr : Room k X.A) (hg : Gl X x) (hx : ∀ σ, PassesAt CX X σ (E σ)) (hkw : PK X kws tk)
    (hall : (backToKw pos (keywordEach kws X.env)).all (·.1.isSome) = true := by rfl) (hks : (backToKw pos (keywordEach kws X.env)).filterMap (·.1) = ks := by rfl) (hdb : (x == ("__debug__" : Str)) = false := by decide)
    (hpl : ((backTo pos (starEach [] X.env)).any (·.1) || (backToKw pos (keywordEach kws X.env)).any (·.1.isNone)) = false := by rfl) :
    PE X (.Call (.Name x p) [] kws pos) (tCallKS sp ks.length g E tk) := by
  obtain ⟨f, fd, F, hm, hk, hb, hrel⟩ := h.ex
  refine ⟨fun pins s σ H Q I h => ?_⟩
  refine wpAny_Call_Name_kw (ld_glob I hg hm ?_ hdb)
  refine PySem.W.callWith_KW0 (h₀ := X.base) I.ok.mod.kin hk hall ?_ hpl
  refine thn (hkw.run pos pins s σ H _ I h) fun ws s2 ⟨zs, H2, I2, rz, l2, q2⟩ => ⟨I2.kIn, ?_⟩
  rw [hks]
  have r2 := hrel zs ws l2 rz
  refine wpAny_call (codeAny_mono (F.run X.A X.stack s2 H2 ⟨[], ks.zip ws⟩ (g ws) (g zs) Q (E σ) hr I2.env0 (hb s2 ws (rz.length.symm.trans l2)) r2 q2) fun r s' hq => ?_)
  cases r with
  | error e => exact hx σ pins H2 s2 e s' I2 hq
  | ok fl =>
    cases fl with
    | ret u => exact I2.after hq
    | next => exact False.elim hq
    | brk => exact False.elim hq
    | cont => exact False.elim hq
theorem pass0S : ∀ σ, PassesAt CX0 X σ (fun _ _ _ => False) := fun _ _ _ _ _ _ _ h => h.elim
theorem rd_callS {σ : L2.St} {H : Hp} {E : L2.St → XK} {tA : TA} {Q : VK} (h : tA σ H fun vs H1 => sp vs H1 Q (E σ)) : tCallS sp E tA σ H Q := h
theorem rd_callKS {n : Nat} {g : List V → List V} {σ : L2.St} {H : Hp} {E : L2.St → XK} {tA : TA} {Q : VK} (h : tA σ H fun zs H1 => zs.length = n ∧ sp (g zs) H1 Q (E σ)) : tCallKS sp n g E tA σ H Q := h
end

/-! ### texts -/
theorem rd_ss {a b : Str} {R : Str → Str → Prop} (h : R a b) : ∃ i j, V.str a = .str i ∧ V.str b = .str j ∧ R i j := ⟨a, b, rfl, rfl, h⟩
theorem rd_s1 {a : Str} {R : Str → Prop} (h : R a) : ∃ z, [V.str a] = [V.str z] ∧ R z := ⟨a, rfl, h⟩
theorem rd_i1 {a : Int} {R : Int → Prop} (h : R a) : ∃ z, [V.int a] = [V.int z] ∧ R z := ⟨a, rfl, h⟩
theorem rd_ixS {z : Str} {i : Int} {c : Nat} {H : Hp} {Q : VK} (hz : z.length ≤ 100000) (e : atI z.cps.toList i = some c) (q : Q (.str ⟨#[c]⟩) H) : rIxS (.str z) (.int i) H Q := ⟨z, i, c, rfl, rfl, sz hz, e, q⟩
theorem rd_inS {c : Nat} {z : Str} {R : Nat → Str → Prop} (h : R c z) : ∃ (c' : Nat) (z' : Str), V.str ⟨#[c]⟩ = V.str ⟨#[c']⟩ ∧ V.str z = V.str z' ∧ R c' z' := ⟨c, z, rfl, rfl, h⟩
theorem rd_slS {z : Str} {lo hi : Option Int} {H : Hp} {Q : VK} (hz : z.length ≤ 100000) (q : Q (.str (cutS z lo hi)) H) : rSlS (.str z) lo hi H Q := ⟨z, rfl, sz hz, q⟩
theorem atI_nats {l : List Nat} {i : Int} (h0 : 0 ≤ i) (h1 : i < l.length) : ∃ c, c ∈ l ∧ l[i.toNat]? = some c ∧ atI l i = some c := by
  have hb : i.toNat < l.length := by omega
  refine ⟨l[i.toNat], List.getElem_mem hb, by simp [hb], ?_⟩
  unfold atI ixN
  rw [if_pos h0, if_pos h1]
  simp [hb]
theorem len_l (s : Str) : s.cps.toList.length = s.length := Array.length_toList
theorem app_l (a b : Str) : (a ++ b).cps.toList = a.cps.toList ++ b.cps.toList := by rw [Str.cps_append, Array.toList_append]
theorem app_len (a b : Str) : (a ++ b).length = a.length + b.length := by rw [← len_l, app_l, List.length_append, len_l, len_l]
theorem str_ext {a b : Str} (h : a.cps.toList = b.cps.toList) : a = b := PyProof.Rows.ext_toList h
theorem one_len (c : Nat) : (⟨#[c]⟩ : Str).length = 1 := rfl
theorem one_l (c : Nat) : (⟨#[c]⟩ : Str).cps.toList = [c] := rfl
theorem cutS_len (z : Str) (lo hi : Option Int) : (cutS z lo hi).length ≤ z.length := by
  rw [← len_l, ← len_l]
  show ((z.cps.toList.drop _).take _).toArray.toList.length ≤ _
  rw [List.toList_toArray, List.length_take, List.length_drop]
  omega
theorem cutS_to (z : Str) (k : Nat) : (cutS z none (some (k : Int))).cps.toList = z.cps.toList.take k := by
  show ((z.cps.toList.drop _).take _).toArray.toList = _
  rw [List.toList_toArray, HT.sIx_none, HT.sIx_nat, List.drop_zero, Nat.sub_zero]
  by_cases h : k ≤ z.length
  · rw [Nat.min_eq_left h]
  · rw [Nat.min_eq_right (by omega), ← len_l, List.take_length, List.take_of_length_le (by rw [len_l]; omega)]
/-! the decimal text of a number -/
def numS (n : Nat) : Str := Str.ofString (toString (n : Int))
theorem numS_l (n : Nat) : (numS n).cps.toList = TL.numL n := TL.tl_num n
theorem numS_inj {m n : Nat} (h : numS m = numS n) : m = n := TL.numL_inj (by rw [← numS_l, ← numS_l, h])
theorem numS_len {n : Nat} (h : n < 100000) : (numS n).length ≤ 5 := by
  rw [← len_l, numS_l]
  exact TL.numL_len (by omega) (by omega)
theorem app_num_inj {s : Str} {m n : Nat} (h : s ++ numS m = s ++ numS n) : m = n := by
  have e := congrArg (fun z : Str => z.cps.toList) h
  simp only [app_l] at e
  exact numS_inj (str_ext (List.append_cancel_left e))
/-! the least free number -/
theorem nodup_le {α : Type} [DecidableEq α] : ∀ {xs ys : List α}, xs.Nodup → (∀ x ∈ xs, x ∈ ys) → xs.length ≤ ys.length
  | [], _, _, _ => Nat.zero_le _
  | x :: xs, ys, hn, hs => by
    obtain ⟨h1, h2⟩ := List.nodup_cons.mp hn
    have hx := hs x List.mem_cons_self
    have := nodup_le (ys := ys.erase x) h2 fun z hz => by
      have ne : z ≠ x := fun e => h1 (e ▸ hz)
      exact (List.mem_erase_of_ne ne).mpr (hs z (List.mem_cons_of_mem _ hz))
    rw [List.length_erase_of_mem hx] at this
    have : 0 < ys.length := List.length_pos_of_mem hx
    simp only [List.length_cons]
    omega
theorem free_le {s : Str} {names : List Str} {n : Nat} (h : ∀ m, m < n → s ++ numS m ∈ names) : n ≤ names.length := by
  have := nodup_le (xs := (List.range n).map fun m => s ++ numS m) (ys := names) ?_ ?_
  · simpa using this
  · rw [List.nodup_iff_pairwise_ne, List.pairwise_map]
    exact List.nodup_range.imp fun hne e => hne (app_num_inj e)
  · intro z hz
    obtain ⟨m, hm, rfl⟩ := List.mem_map.mp hz
    exact h m (List.mem_range.mp hm)
/-- n is the least number that makes none of the names -/
def Least (s : Str) (names : List Str) (n : Nat) : Prop := (∀ m, m < n → s ++ numS m ∈ names) ∧ s ++ numS n ∉ names
theorem Least.unique {s : Str} {names : List Str} {m n : Nat} (h1 : Least s names m) (h2 : Least s names n) : m = n := by
  rcases Nat.lt_trichotomy m n with h | h | h
  · exact absurd (h2.1 m h) h1.2
  · exact h
  · exact absurd (h1.1 n h) h2.2
/-! names -/
def lets : Str := "abcdefghijklmnopqrstuvwxyz"
def letsD : Str := "abcdefghijklmnopqrstuvwxyz0123456789"
def isNmL : List Nat → Bool
  | [] => false
  | c :: l => decide ((c :: l).length ≤ 8) && decide (c ∈ lets.cps.toList) && (c :: l).all fun d => decide (d ∈ letsD.cps.toList)
def isNm (s : Str) : Bool := isNmL s.cps.toList
theorem eqv_strs (xs : List Str) : PyData.eqv (.list (xs.map PyData.str)) (.list (xs.map PyData.str)) = true := by
  show PyData.eqvAll _ _ = true
  induction xs with
  | nil => rfl
  | cons x xs ih => rw [List.map_cons]; simp only [PyData.eqvAll, PyData.eqv, ih]; simp
theorem inV_strs {x : Str} : ∀ {xs : List Str}, inV (.str x) (xs.map V.str) = decide (x ∈ xs)
  | [] => rfl
  | y :: ys => by
    have ih := inV_strs (x := x) (xs := ys)
    unfold inV at ih ⊢
    rw [List.map_cons, List.any_cons, ih]
    show (y == x || decide (x ∈ ys)) = decide (x ∈ y :: ys)
    by_cases h : y = x
    · subst h; simp
    · have h' : x ≠ y := fun e => h e.symm
      simp [h, h']
theorem flat_strs (ns : List Str) : (ns.map V.str).all flatV = true := by
  rw [List.all_map]; exact List.all_eq_true.mpr fun _ _ => rfl
theorem dp_strs {K : PySem.W.Frag} {H : Hp} : ∀ (xs : List Str), DpAll K H (xs.map V.str) (xs.map PyData.str)
  | [] => .nil
  | x :: xs => .cons (.str x) (dp_strs xs)
theorem pe_globS {X : Cx} {x : Str} {z : Str} {pos : Pos} (hg : Gl X x) (hm : ∃ t, X.mg x = some (.str z t)) (hd : (x == ("__debug__" : Str)) = false := by decide) : PE X (.Name x pos) (tC (.str z)) := by
  obtain ⟨t, e⟩ := hm
  exact pe_glob hg e ⟨t, rfl⟩ hd

set_option maxHeartbeats 1000000
/-! ### list(reversed(a list)) -/
section
variable {prog : Program} {w : World} {A : Around} {E : Value → Shared → Prop} {s : Shared}
theorem call_list_rev {it l : Addr} {items : Array Value} {Q : Value → Shared → Prop} (hh : A.handled = none) (hit : s.heap.IsRevIter it l ((items.size : Int) - 1)) (hl : s.heap.IsList l items) (hne : l ≠ it) (hn : items.size ≤ sizeLine)
    (hQ : ∀ (h' : Heap) (tk : Nat) (acc : Array Value) (c' : Nat), (∀ b o, b ≠ it → s.heap.get? b = some o → h'.get? b = some o) → h'.get? s.heap.objs.size = some { cls := .type "list", dict := none, data := .seq acc c', slots := #[] } →
      ItemsOf (fun i v => items[items.size - 1 - i]? = some v) acc items.size → Q (.ref s.heap.objs.size) { s with heap := h', toks := tk }) :
    wpAny (model prog w) A (call (.type "list") [.ref it]) Q E s := by
  obtain ⟨oi, hoi, _⟩ := id hit
  obtain ⟨ol, hol, _⟩ := id hl
  have hSi : s.heap.objs.size ≠ it := Nat.ne_of_gt (Heap.lt_size hoi)
  have hSl : s.heap.objs.size ≠ l := Nat.ne_of_gt (Heap.lt_size hol)
  have hSf : s.heap.objs.size ∉ [it, l] := by simp only [List.mem_cons, List.not_mem_nil, or_false, not_or]; exact ⟨hSi, hSl⟩
  refine callType_codes (Q₁ := fun obj s₁ => obj = .ref s.heap.objs.size ∧ s₁ = { s with heap := s.heap.push { cls := .type "list", data := .seq #[] } }) PySem.F.called_list (PySem.F.typeCall_list_1 _) PySem.F.entry_list_init
    (code_list_new _ ⟨rfl, rfl⟩) fun obj s₁ h₁ => ?_
  obtain ⟨rfl, rfl⟩ := h₁
  have hS : (s.heap.push { cls := .type "list", data := .seq #[] }).get? s.heap.objs.size = some { cls := .type "list", data := .seq #[] } := Heap.get?_push_size _ rfl
  have W := (Walks.listRev (prog := prog) (w := w) (A := A.in1.in1) hh it l hne items).toS
  refine ⟨⟨_, hS, rfl⟩, PySem.F.args_list_init_2 _ _, ?_⟩
  show wpAny _ _ (do let old ← Builtin.List.listItems (.ref s.heap.objs.size); Builtin.List.listUpdate (.ref s.heap.objs.size) (fun _ => #[]); letGo old.toList.reverse; Builtin.List.listExtendWith (.ref s.heap.objs.size) (.ref it) .none) _ _ _
  refine wpAny_bind ?_
  unfold Builtin.List.listItems
  refine wpAny_bind (wpAny_seqItems hS rfl (wpAny_pure ?_))
  show wpAny _ _ (updateSeq s.heap.objs.size (fun _ => #[]) >>= fun _ => letGo (#[] : Array Value).toList.reverse >>= fun _ => Builtin.List.listExtendWith (.ref s.heap.objs.size) (.ref it) .none) _ _ _
  refine wpAny_bind (wpAny_updateSeq hS rfl ?_)
  have hS₂ := Heap.get?_update_self (Obj.mapSeq (fun _ => (#[] : Array Value))) hS rfl
  have oth : ∀ b o, b ≠ s.heap.objs.size → s.heap.get? b = some o → ((s.heap.push { cls := .type "list", data := .seq #[] }).update s.heap.objs.size (Obj.mapSeq (fun _ => (#[] : Array Value)))).get? b = some o :=
    fun b o hb e => (Heap.get?_update_other _ _ (Ne.symm hb)).trans (Heap.get?_push_of_some _ e)
  refine wpAny_bind (wpAny_letGo ?_)
  generalize hM : ((s.heap.push { cls := .type "list", data := .seq #[] }).update s.heap.objs.size (Obj.mapSeq (fun _ => (#[] : Array Value)))) = M at hS₂ oth ⊢
  have hit1 : M.IsRevIter it l ((items.size : Int) - 1) := hit.at fun o e => oth _ o hSi.symm e
  have hl1 : M.IsList l items := by
    obtain ⟨o, e, r⟩ := hl
    exact ⟨o, oth _ o hSl.symm e, r⟩
  have hT : ({ s with heap := M } : Shared).TypeIs (.ref it) "list_reverseiterator" := Heap.IsRevIter.typeIs (s := { s with heap := M }) hit1
  have h1 : Builtin.List.listSameRef (.ref s.heap.objs.size) (.ref it) = false := by simp [Builtin.List.listSameRef, hSi]
  unfold Builtin.List.listExtendWith
  refine wpAny_bind (wpAny_typeOf hT ?_)
  rw [if_neg (by rw [h1]; decide)]
  refine wpAny_bind (wpAny_pyIter_revIter (s := { s with heap := M }) hit1 ?_)
  refine wpAny_bind (wpAny_holding ?_)
  unfold Builtin.List.listLengthHint
  refine wpAny_bind (wpAny_specialOf hT RT.nolen_lri ?_)
  show wpAny _ _ (specialOf (Value.ref it) (Str.ofString "__length_hint__") >>= _) _ _ _
  refine wpAny_bind (wpAny_specialOf hT RT.hint_lri ?_)
  generalize hid : ("list_reverseiterator.__length_hint__" : String) = id0
  wp_delta
  rw [show splitId id0 = some ("list_reverseiterator", "__length_hint__") from by subst hid; decide +kernel]
  subst hid
  refine wpAny_bind (wpAny_isInstance (b := true) hT (by rw [isSubtype_type]; kernel_rfl) ?_)
  refine wpAny_pure ?_
  rw [if_neg (by decide)]
  have e0 : ((items.size : Nat) : Int) - 1 - ((0 : Nat) : Int) = (items.size : Int) - 1 := by omega
  refine wpAny_pure ⟨plainId_quiet PySem.F.plain_extend_loop _, codeAny_extend_loopS W hn _ hSf _ items.size 0 _ _ _ rfl (Nat.zero_le _) ⟨Nat.zero_le _, by rw [e0]; exact hit1, hl1⟩ hS₂ (ItemsOf.nil _) fun s' acc' c' hm hS' hacc => ?_⟩
  rw [Moved.eq_with hm]
  refine ⟨rfl, hQ s'.heap s'.toks acc' c' (fun b o hb e => hm.heap b o (fun hmem => ?_) (oth b o (Nat.ne_of_lt (Heap.lt_size e)) e)) hS' hacc⟩
  rcases List.mem_cons.mp hmem with e' | hmem
  · exact absurd (Heap.lt_size e) (by rw [e']; exact Nat.lt_irrefl _)
  · exact hb (List.mem_singleton.mp hmem)
end
def tLstRev (K : PySem.W.Frag) (te : TE) : TE := fun σ H Q => te σ H fun v H1 => ∃ (a : Addr) (xs : List V), v = .ref a ∧ SqL K H1 a xs ∧ ∀ q, H1 q = none → Q (.ref q) (upd H1 q (.lst xs.reverse))
section
variable {X : Cx}
theorem pe_lstRev {e : Expr} {te : TE} {p p2 pos pos2 : Pos} (hc : X.calm = true) (hg : Gl X "list") (hm : X.mg "list" = none) (hg2 : Gl X "reversed") (hm2 : X.mg "reversed" = none) (he : PE X e te)
    (hs : starEach [e] X.env = (false, eval e X.env) :: starEach [] X.env := by rfl)
    (hs2 : starEach [.Call (.Name "reversed" p2) [e] [] pos2] X.env = (false, eval (.Call (.Name "reversed" p2) [e] [] pos2) X.env) :: starEach [] X.env := by rfl) :
    PE X (.Call (.Name "list" p) [.Call (.Name "reversed" p2) [e] [] pos2] [] pos) (tLstRev X.K te) := by
  refine ⟨fun pins s σ H Q I h => ?_⟩
  refine Call_ (ld_blt I hg hm boot_list (PyProof.Rows.callWith_type1 (args_cons (Call_ (ld_blt I hg2 hm2 PyProof.Rows.boot_reversed (PyProof.Rows.callWith_type1 (args_cons (thn (he.run pins s σ H _ I h) fun u s1 ⟨v, H1, I1, r1, q1⟩ => args_nil ?_) hs) hs rfl))) hs2) hs2 rfl))
  obtain ⟨a, xs, ev, hq, q⟩ := q1
  subst ev
  obtain rfl : u = Value.ref a := r1
  obtain ⟨its, rv, p', hz⟩ := I1.list hq
  refine call_reversed_list p'.isList (args_nil ?_)
  have hl := p'.isList
  obtain ⟨ol, hol, _⟩ := id hl
  have hne : a ≠ s1.heap.objs.size := Nat.ne_of_lt (Heap.lt_size hol)
  have hn : its.toArray.size ≤ sizeLine := by rw [List.size_toArray, ← rv.length]; exact hz
  refine call_list_rev (s := { s1 with heap := s1.heap.push (revObj a ((its.toArray.size : Int) - 1)) }) (I1.ok.hd hc) ⟨_, Heap.get?_push_size _ rfl, rfl, rfl⟩ (hl.push _) hne hn fun h' tk acc c' hk e hi => ?_
  have kp : ∀ b o, s1.heap.get? b = some o → h'.get? b = some o := fun b o e => hk b o (Nat.ne_of_lt (Heap.lt_size e)) (Heap.get?_push_of_some _ e)
  have hle : s1.heap.objs.size ≤ (s1.heap.push (revObj a ((its.toArray.size : Int) - 1))).objs.size := by simp [Heap.push]
  refine ⟨.ref (s1.heap.push (revObj a ((its.toArray.size : Int) - 1))).objs.size, _, I1.laid (t' := tk) kp hle (show ObjOk X.prog X.w _ h' _ (.lst xs.reverse) from ⟨by rw [List.length_reverse]; exact hz, acc.toList, c', RT.vals_rev rv hi, ?_⟩), rfl, q _ (I1.hok.fresh hle)⟩
  rw [Array.toArray_toList]
  exact e
theorem rd_lrv {K : PySem.W.Frag} {te : TE} {σ : L2.St} {H : Hp} {Q : VK} (h : te σ H fun v H1 => ∃ (a : Addr) (xs : List V), v = .ref a ∧ SqL K H1 a xs ∧ ∀ q, H1 q = none → Q (.ref q) (upd H1 q (.lst xs.reverse))) : tLstRev K te σ H Q := h
end
/-! names, as they are built -/
theorem lets_digits : lets ++ ("0123456789" : Str) = letsD := by decide +kernel
theorem lets_sub : ∀ c ∈ lets.cps.toList, c ∈ letsD.cps.toList := by decide +kernel
/-- a text of n signs: a letter, then letters and digits -/
def NmP (z : Str) (n : Nat) : Prop := z.length = n ∧ ∃ c l, z.cps.toList = c :: l ∧ c ∈ lets.cps.toList ∧ ∀ d ∈ c :: l, d ∈ letsD.cps.toList
theorem NmP.one {c : Nat} (h : c ∈ lets.cps.toList) : NmP ⟨#[c]⟩ 1 := ⟨rfl, c, [], rfl, h, fun d hd => by rw [List.mem_singleton.mp hd]; exact lets_sub c h⟩
theorem NmP.add {z : Str} {n c : Nat} (h : NmP z n) (hc : c ∈ letsD.cps.toList) : NmP (z ++ ⟨#[c]⟩) (n + 1) := by
  obtain ⟨h1, d, l, e, hd, ha⟩ := h
  refine ⟨by rw [app_len, h1]; rfl, d, l ++ [c], by rw [app_l, e]; rfl, hd, fun x hx => ?_⟩
  have hx' : x ∈ (d :: l) ++ [c] := hx
  rcases List.mem_append.mp hx' with q | q
  · exact ha x q
  · rw [List.mem_singleton.mp q]; exact hc
theorem NmP.nm {z : Str} {n : Nat} (h : NmP z n) (hn : n ≤ 8) : isNm z = true := by
  obtain ⟨h1, c, l, e, hc, ha⟩ := h
  have hl : (c :: l).length ≤ 8 := by rw [← e, len_l, h1]; exact hn
  unfold isNm
  rw [e]
  show (decide ((c :: l).length ≤ 8) && decide (c ∈ lets.cps.toList) && (c :: l).all fun d => decide (d ∈ letsD.cps.toList)) = true
  rw [decide_eq_true hl, decide_eq_true hc, Bool.true_and, Bool.true_and]
  exact List.all_eq_true.mpr fun d hd => decide_eq_true (ha d hd)
theorem isNm_len {z : Str} (h : isNm z = true) : 1 ≤ z.length ∧ z.length ≤ 8 := by
  rw [← len_l]
  unfold isNm at h
  cases e : z.cps.toList with
  | nil => rw [e] at h; cases h
  | cons c l =>
    rw [e] at h
    have h' : (decide ((c :: l).length ≤ 8) && decide (c ∈ lets.cps.toList) && (c :: l).all fun d => decide (d ∈ letsD.cps.toList)) = true := h
    rw [Bool.and_eq_true, Bool.and_eq_true] at h'
    exact ⟨by simp, of_decide_eq_true h'.1.1⟩
/-! loops over a text's signs -/
theorem rd_iStr {te : TE} {σ : L2.St} {H : Hp} {R : It → Hp → Prop} (h : te σ H fun v H1 => ∃ x, v = .str x ∧ R (Its x) H1) : iStr te σ H R := h
theorem for_sgn {z : Str} {k : Nat} {tb : TS} {D : Ends} {σ : L2.St} {H : Hp} (Pv : Nat → L2.St → Hp → Prop) (h0 : Pv 0 σ H)
    (hs : ∀ i c σ H, z.cps.toList[i]? = some c → Pv i σ H → tb { D with nx := Pv (i + 1), ct := Pv (i + 1), bk := D.nx } (σ.set k (some (.str ⟨#[c]⟩))) H) (hd : ∀ σ H, Pv z.length σ H → D.nx σ H) :
    ∃ W : Nat → Nat → L2.St → Hp → Prop, (∃ m, W 0 m σ H) ∧ ∀ i m σ H, W i m σ H →
      ((Its z).stop i H ∧ D.nx σ H) ∨ ((Its z).go i H ∧ ∃ N : L2.St → Hp → Prop, (∀ σ' H', N σ' H' → ∃ m', m' < m ∧ W (i + 1) m' σ' H') ∧ ∀ x H', (Its z).yld i H x H' → gName k x σ H' fun σ2 H2 => tb { D with nx := N, ct := N, bk := D.nx } σ2 H2) := by
  refine for_it (walk_str (z := z)) Pv h0 (fun _ _ _ _ _ => trivial) (fun i x σ H H' hi hp y => ?_) hd
  obtain ⟨rfl, c, hc, rfl⟩ := y
  exact hs i c σ _ (by rw [Array.getElem?_toList]; exact hc) hp
theorem lc_sgn {z : Str} {k : Nat} {tt : TT} {te : TE} {vs : List Nat} {σ : L2.St} {H1 : Hp} {D : Addr} {Qd : Hp → Prop} (Pv : Nat → Hp → Prop) (h0 : Pv 0 (upd H1 D (.lst [])))
    (hs : ∀ i c H, z.cps.toList[i]? = some c → Pv i H → wipe ((wipe σ vs).set k (some (.str ⟨#[c]⟩))) vs = wipe σ vs ∧ tt ((wipe σ vs).set k (some (.str ⟨#[c]⟩))) H fun b H3 =>
      if b = true then te ((wipe σ vs).set k (some (.str ⟨#[c]⟩))) H3 fun y H4 => ∃ acc, H4 D = some (.lst acc) ∧ acc.length < sizeLine ∧ Pv (i + 1) (upd H4 D (.lst (acc ++ [y]))) else Pv (i + 1) H3) (hd : ∀ H, Pv z.length H → Qd H) :
    ∃ W : Nat → Nat → Hp → Prop, (∃ m, W 0 m (upd H1 D (.lst []))) ∧ ∀ i m H, W i m H →
      ((Its z).stop i H ∧ Qd H) ∨ ((Its z).go i H ∧ ∃ Nx : Hp → Prop, (∀ H', Nx H' → ∃ m', m' < m ∧ W (i + 1) m' H') ∧ ∀ x H', (Its z).yld i H x H' → gName k x (wipe σ vs) H' fun σ2 H2 => wipe σ2 vs = wipe σ vs ∧ tt σ2 H2 fun b H3 =>
        if b = true then te σ2 H3 fun y H4 => ∃ acc, H4 D = some (.lst acc) ∧ acc.length < sizeLine ∧ Nx (upd H4 D (.lst (acc ++ [y]))) else Nx H3) := by
  refine lc_it (walk_str (z := z)) Pv h0 (fun _ _ _ _ => trivial) (fun i x H H' hi hp y => ?_) hd
  obtain ⟨rfl, c, hc, rfl⟩ := y
  exact hs i c _ (by rw [Array.getElem?_toList]; exact hc) hp
/-! a name, told sign by sign -/
theorem isNm_of {z : Str} {c : Nat} {l : List Nat} (e : z.cps.toList = c :: l) : isNm z = (decide (z.length ≤ 8) && decide (c ∈ lets.cps.toList) && z.cps.toList.all fun d => decide (d ∈ letsD.cps.toList)) := by
  unfold isNm
  rw [← len_l, e]
  rfl
theorem isNm_zero {z : Str} (h : z.length = 0) : isNm z = false := by
  rw [← len_l] at h
  unfold isNm
  rw [List.eq_nil_of_length_eq_zero h]
  rfl
theorem rd_ii {a : Int} {R : Int → Prop} (h : R a) : ∃ i, V.int a = V.int i ∧ R i := ⟨a, rfl, h⟩
theorem rd_si {a : Str} {R : Str → Prop} (h : R a) : ∃ i, V.str a = V.str i ∧ R i := ⟨a, rfl, h⟩
theorem atI_zero {α : Type} {c : α} {l : List α} : atI (c :: l) 0 = some c := by
  unfold atI ixN
  rw [if_pos (by omega), if_pos (by simp)]
  simp
theorem rd_yes {σ : L2.St} {H : Hp} {QT : Bool → Hp → Prop} (h : QT true H) : tYes σ H QT := h
theorem rd_callNS' : True := trivial
/-! texts of at most n plain signs -/
def okS (n : Nat) (z : Str) : Bool := decide (z.length ≤ n) && z.cps.toList.all fun c => decide (c < 128)
def OkS (n : Nat) (z : Str) : Prop := okS n z = true
instance (n : Nat) (z : Str) : Decidable (OkS n z) := by unfold OkS; exact inferInstance
theorem okS_iff {n : Nat} {z : Str} : OkS n z ↔ z.length ≤ n ∧ ∀ c ∈ z.cps.toList, c < 128 := by
  unfold OkS okS
  rw [Bool.and_eq_true, decide_eq_true_iff, List.all_eq_true]
  exact ⟨fun h => ⟨h.1, fun c hc => of_decide_eq_true (h.2 c hc)⟩, fun h => ⟨h.1, fun c hc => decide_eq_true (h.2 c hc)⟩⟩
theorem OkS.len {n : Nat} {z : Str} (h : OkS n z) : z.length ≤ n := (okS_iff.mp h).1
theorem OkS.mono {m n : Nat} {z : Str} (h : OkS m z) (l : m ≤ n) : OkS n z := okS_iff.mpr ⟨by have := h.len; omega, (okS_iff.mp h).2⟩
theorem OkS.app {a b n : Nat} {x y : Str} (hx : OkS a x) (hy : OkS b y) (l : a + b ≤ n) : OkS n (x ++ y) := by
  refine okS_iff.mpr ⟨?_, fun c hc => ?_⟩
  · have := hx.len; have := hy.len; rw [app_len]; omega
  · rw [app_l] at hc
    exact (List.mem_append.mp hc).elim ((okS_iff.mp hx).2 c) ((okS_iff.mp hy).2 c)
theorem OkS.cut {n : Nat} {z : Str} {lo hi : Option Int} (h : OkS n z) : OkS n (cutS z lo hi) := by
  refine okS_iff.mpr ⟨Nat.le_trans (cutS_len z lo hi) h.len, fun c hc => (okS_iff.mp h).2 c ?_⟩
  have hc : c ∈ ((z.cps.toList.drop (HT.sIx z.length 0 lo)).take (HT.sIx z.length z.length hi - HT.sIx z.length 0 lo)) := hc
  exact List.mem_of_mem_drop (List.mem_of_mem_take hc)
theorem OkS.one {c : Nat} (h : c < 128) : OkS 1 ⟨#[c]⟩ := okS_iff.mpr ⟨Nat.le_refl _, fun d hd => by rw [List.mem_singleton.mp (show d ∈ [c] from hd)]; exact h⟩
theorem OkS.sign {n c : Nat} {z : Str} (h : OkS n z) (hc : c ∈ z.cps.toList) : OkS 1 ⟨#[c]⟩ := .one ((okS_iff.mp h).2 c hc)
theorem letsD_ok : OkS 36 letsD := by decide +kernel
theorem OkS.nm {z : Str} (h : isNm z = true) : OkS 8 z := by
  refine okS_iff.mpr ⟨(isNm_len h).2, fun d hd => ?_⟩
  cases e : z.cps.toList with
  | nil => rw [e] at hd; cases hd
  | cons c l =>
    rw [isNm_of e, Bool.and_eq_true, List.all_eq_true] at h
    exact (okS_iff.mp letsD_ok).2 d (of_decide_eq_true (h.2 d hd))
theorem OkS.num {n : Nat} (h : n < 100000) : OkS 5 (numS n) := by
  refine okS_iff.mpr ⟨numS_len h, fun c hc => ?_⟩
  rw [numS_l] at hc
  by_cases q : c < 48 ∨ 57 < c
  · exact absurd hc (TL.numL_free q)
  · omega
theorem shaped_strs {ns : List Str} {n : Nat} (h : ∀ s ∈ ns, OkS n s) : SeqAt.shaped (.list (ns.map PyData.str)) = true := by
  have h1 : PyData.canLayAll0 (ns.map PyData.str) = true := by
    induction ns with
    | nil => rfl
    | cons x xs ih =>
      have hx := h x List.mem_cons_self
      have ih := ih fun s hs => h s (List.mem_cons_of_mem _ hs)
      simp only [List.map, PyData.canLayAll0, PyData.canLay0, ih, Bool.and_true]
      show x.cps.all (· < 0x110000) = true
      rw [← Array.all_toList, List.all_eq_true]
      exact fun c hc => decide_eq_true (Nat.lt_trans ((okS_iff.mp hx).2 c hc) (by decide))
  have h2 : PyData.depth (.list (ns.map PyData.str)) ≤ 64 := by
    have e : ∀ xs : List Str, PyData.depthAll (xs.map PyData.str) = 0 := fun xs => by
      induction xs with
      | nil => rfl
      | cons x xs ih => simp only [List.map, PyData.depthAll, PyData.depth, ih, Nat.max_self]
    simp only [PyData.depth, e]
    decide
  unfold SeqAt.shaped
  rw [Bool.and_eq_true]
  exact ⟨by simp only [PyData.canLay0, h1], decide_eq_true h2⟩

/-! ### calls with values and keywords, and with defaults -/
structure HasN (P : Program) (w : World) (K : PySem.W.Frag) (mg : Str → Option Value) (base : Heap) (CX : CXT) (x : Str) (k n : Nat) (ps ks : List Str) (gV : List V → List V → List V) (sp : Sp) : Prop where
  ex : ∃ f fd, FnOk P w K mg base CX k f fd ps sp ∧ mg x = some (.ref f) ∧ PySem.W.keepIn K (.ref f) = true ∧ ∃ g, KBn K fd ps n ks g gV
theorem HasN.mono {P : Program} {w : World} {K : PySem.W.Frag} {mg : Str → Option Value} {base : Heap} {CX : CXT} {x : Str} {j k n : Nat} {ps ks : List Str} {gV : List V → List V → List V} {sp : Sp} (h : HasN P w K mg base CX x j n ps ks gV sp) (l : j ≤ k) : HasN P w K mg base CX x k n ps ks gV sp := by
  obtain ⟨f, fd, F, r⟩ := h.ex
  exact ⟨f, fd, F.mono l, r⟩
structure HasD (P : Program) (w : World) (K : PySem.W.Frag) (mg : Str → Option Value) (base : Heap) (CX : CXT) (x : Str) (k : Nat) (ps : List Str) (dvs : List V) (sp : Sp) : Prop where
  ex : ∃ f fd, FnOk P w K mg base CX k f fd ps sp ∧ mg x = some (.ref f) ∧ PySem.W.keepIn K (.ref f) = true ∧ ∃ ds, Vals dvs ds ∧ Binds K fd ps ds
theorem HasD.mono {P : Program} {w : World} {K : PySem.W.Frag} {mg : Str → Option Value} {base : Heap} {CX : CXT} {x : Str} {j k : Nat} {ps : List Str} {dvs : List V} {sp : Sp} (h : HasD P w K mg base CX x j ps dvs sp) (l : j ≤ k) : HasD P w K mg base CX x k ps dvs sp := by
  obtain ⟨f, fd, F, r⟩ := h.ex
  exact ⟨f, fd, F.mono l, r⟩
def tCallNS (n m : Nat) (sp : Sp) (gV : List V → List V → List V) (E : L2.St → XK) (t tk : TA) : TE := fun σ H Q => t σ H fun vs H1 => tk σ H1 fun zs H2 => vs.length = n ∧ zs.length = m ∧ sp (gV vs zs) H2 Q (E σ)
section
variable {X : Cx} {CX : CXT} {x : Str} {k n : Nat} {ps ks : List Str} {dvs : List V} {gV : List V → List V → List V} {sp : Sp} {E : L2.St → XK} {p pos : Pos} {e : Expr} {es : List Expr} {kws : List Keyword} {t tk : TA}
theorem pe_callNS (h : HasN X.prog X.w X.K X.mg X.base CX x k n ps ks gV sp) (hr : Room k X.A) (hg : Gl X x) (hx : ∀ σ, PassesAt CX X σ (E σ))
    (ha : PA X (e :: es) t) (hkw : PK X kws tk) (hall : (backToKw pos (keywordEach kws X.env)).all (·.1.isSome) = true := by rfl) (hks : (backToKw pos (keywordEach kws X.env)).filterMap (·.1) = ks := by rfl)
    (hdb : (x == ("__debug__" : Str)) = false := by decide) (he : starEach (e :: es) X.env = (false, eval e X.env) :: starEach es X.env := by rfl)
    (hpl : ((backTo pos (starEach (e :: es) X.env)).any (·.1) || (backToKw pos (keywordEach kws X.env)).any (·.1.isNone)) = false := by rfl) :
    PE X (.Call (.Name x p) (e :: es) kws pos) (tCallNS n ks.length sp gV E t tk) := by
  obtain ⟨f, fd, F, hm, hk, g, hb⟩ := h.ex
  refine ⟨fun pins s σ H Q I h => ?_⟩
  refine wpAny_Call_Name_kw (ld_glob I hg hm ?_ hdb)
  refine PySem.W.callWith_KW (h₀ := X.base) I.ok.mod.kin hk hall (thn (ha.run pos pins s σ H _ I h) fun us s1 ⟨vs, H1, I1, r, q⟩ => ?_) hpl he
  refine thn (hkw.run pos pins s1 σ H1 _ I1 q) fun ws s2 ⟨zs, H2, I2, rz, l1, l2, q2⟩ => ⟨I2.kIn, ?_⟩
  rw [hks]
  have r2 := hb.rel r rz
  refine wpAny_call (codeAny_mono (F.run X.A X.stack s2 H2 ⟨us, ks.zip ws⟩ (g us ws) (gV vs zs) Q (E σ) hr I2.env0 (hb.to s2 us ws I2.kIn (r.length.symm.trans l1) (rz.length.symm.trans l2)) r2 q2) fun r s' hq => ?_)
  cases r with
  | error e => exact hx σ pins H2 s2 e s' I2 hq
  | ok fl =>
    cases fl with
    | ret u => exact I2.after hq
    | next => exact False.elim hq
    | brk => exact False.elim hq
    | cont => exact False.elim hq
theorem pe_callDS (h : HasD X.prog X.w X.K X.mg X.base CX x k ps dvs sp) (hr : Room k X.A) (hg : Gl X x) (hx : ∀ σ, PassesAt CX X σ (E σ)) (ha : PA X (e :: es) t)
    (hdb : (x == ("__debug__" : Str)) = false := by decide) (he : starEach (e :: es) X.env = (false, eval e X.env) :: starEach es X.env := by rfl) (hpl : (backTo pos (starEach es X.env)).any (·.1) = false := by rfl) :
    PE X (.Call (.Name x p) (e :: es) [] pos) (tCallSD sp dvs E t) := by
  obtain ⟨f, fd, F, hm, hk, ds, hd, hb⟩ := h.ex
  exact pe_callSD F hr hg hm hk hb hd hx ha hdb he hpl
theorem rd_callNS {m : Nat} {σ : L2.St} {H : Hp} {Q : VK} (h : t σ H fun vs H1 => tk σ H1 fun zs H2 => vs.length = n ∧ zs.length = m ∧ sp (gV vs zs) H2 Q (E σ)) : tCallNS n m sp gV E t tk σ H Q := h
theorem rd_callSD {σ : L2.St} {H : Hp} {Q : VK} (h : t σ H fun vs H1 => sp (vs ++ dvs) H1 Q (E σ)) : tCallSD sp dvs E t σ H Q := h
end
/-! ### a text and a number, one behind the other -/
theorem empty_app (z : Str) : Str.empty ++ z = z := str_ext (by rw [app_l]; rfl)
theorem rd_fs2 {σ : L2.St} {H : Hp} {z : Str} {n i j : Nat} {R : Str → Hp → Prop} (e1 : σ[i]? = some (some (.str z))) (e2 : σ[j]? = some (some (.int n))) (hz : z.length ≤ 1000) (hn : n < 100000) (q : R (z ++ numS n) H) :
    tJs [tFmt (tVar i), tFmt (tVar j)] Str.empty σ H R := by
  refine ⟨_, e1, .inl ⟨z, rfl, sz (by omega), z, rfl, ?_, ?_⟩⟩
  · rw [empty_app]; exact sz (by omega)
  · refine ⟨_, e2, .inr ⟨n, rfl, ?_, numS n, rfl, ?_, ?_⟩⟩
    · show (Int.natAbs (n : Int)).log2 < 1920
      rw [Int.natAbs_natCast]
      by_cases h0 : n = 0
      · subst h0; decide
      · exact Nat.lt_of_lt_of_le ((Nat.log2_lt h0).mpr (by omega : n < 2 ^ 17)) (by decide)
    · rw [empty_app, app_len]
      have := numS_len hn
      exact sz (by omega)
    · show R (Str.empty ++ z ++ numS n) H
      rw [empty_app]; exact q
theorem log_ok {n : Nat} (hn : n < 100000) : (n : Int).natAbs.log2 < 1920 := by
  rw [Int.natAbs_natCast]
  by_cases h0 : n = 0
  · subst h0; decide
  · exact Nat.lt_of_lt_of_le ((Nat.log2_lt h0).mpr (by omega : n < 2 ^ 17)) (by decide)
theorem lc_rng {n k : Nat} {tt : TT} {te : TE} {vs : List Nat} {σ : L2.St} {H1 : Hp} {D : Addr} {Qd : Hp → Prop} (Pv : Nat → Hp → Prop) (h0 : Pv 0 (upd H1 D (.lst [])))
    (hs : ∀ i H, i < n → Pv i H → wipe ((wipe σ vs).set k (some (.int i))) vs = wipe σ vs ∧ tt ((wipe σ vs).set k (some (.int i))) H fun b H3 =>
      if b = true then te ((wipe σ vs).set k (some (.int i))) H3 fun y H4 => ∃ acc, H4 D = some (.lst acc) ∧ acc.length < sizeLine ∧ Pv (i + 1) (upd H4 D (.lst (acc ++ [y]))) else Pv (i + 1) H3) (hd : ∀ H, Pv n H → Qd H) :
    ∃ W : Nat → Nat → Hp → Prop, (∃ m, W 0 m (upd H1 D (.lst []))) ∧ ∀ i m H, W i m H →
      ((Itr 0 n).stop i H ∧ Qd H) ∨ ((Itr 0 n).go i H ∧ ∃ Nx : Hp → Prop, (∀ H', Nx H' → ∃ m', m' < m ∧ W (i + 1) m' H') ∧ ∀ x H', (Itr 0 n).yld i H x H' → gName k x (wipe σ vs) H' fun σ2 H2 => wipe σ2 vs = wipe σ vs ∧ tt σ2 H2 fun b H3 =>
        if b = true then te σ2 H3 fun y H4 => ∃ acc, H4 D = some (.lst acc) ∧ acc.length < sizeLine ∧ Nx (upd H4 D (.lst (acc ++ [y]))) else Nx H3) := by
  refine lc_range (lo := 0) Pv h0 (fun i H hi hp => ?_) hd
  have e : (V.int (0 + (i : Int))) = V.int i := by rw [Int.zero_add]
  rw [e]
  exact hs i H hi hp
/-! a dict's keys as the texts put in so far -/
def KeysAre (kvs : List (Key × V)) (ns : List Str) : Prop := ∀ x : Str, (valV kvs (Sum.inr x)).isSome = decide (x ∈ ns)
theorem keys_nil : KeysAre [] [] := fun x => by rw [valV_nil]; rfl
theorem KeysAre.put {kvs : List (Key × V)} {ns : List Str} {y : Str} {v : V} (h : KeysAre kvs ns) : KeysAre (putK kvs (Sum.inr y) v) (ns ++ [y]) := fun x => by
  rw [valV_put]
  by_cases e : (Sum.inr x : Key) = Sum.inr y
  · rw [if_pos e]
    have : x = y := Sum.inr.inj e
    subst this
    simp
  · rw [if_neg e, h x]
    have ne : x ≠ y := fun q => e (by rw [q])
    simp [ne]
theorem str1_le {z : Str} {l : List Str} {n : Nat} (h : (l.all fun s => decide (s.length ≤ n)) = true) (hz : z ∈ l) : z.length ≤ n := of_decide_eq_true (List.all_eq_true.mp h z hz)
theorem rd_dnewK {σ : L2.St} {H : Hp} {Q : VK} (h : ∀ p, H p = none → Q (.ref p) (upd H p (.dK []))) : tDNewK σ H Q := h
theorem rd_dput {td ty tv : TE} {D : Ends} {σ : L2.St} {H : Hp} (h : tv σ H fun v H1 => td σ H1 fun x H2 => ty σ H2 fun y H3 => ∃ a H4, x = .ref a ∧ DPut H3 a y v H4 ∧ D.nx σ H4) : sDPut td ty tv D σ H := h
theorem rd_dnotin {td ty : TE} {σ : L2.St} {H : Hp} {Q : VK} (h : ty σ H fun y H1 => td σ H1 fun x H2 => ∃ a o, x = .ref a ∧ DGet H2 a y o ∧ Q (.bl (!o.isSome)) H2) : tDNotIn ty td σ H Q := h
theorem cut_strs (U : List Str) (lo hi : Option Int) : ∃ U' : List Str, cutV (U.map V.str) lo hi = U'.map V.str ∧ ∀ s ∈ U', s ∈ U := by
  unfold cutV
  rw [← List.map_drop, ← List.map_take]
  exact ⟨_, rfl, fun s hs => List.mem_of_mem_drop (List.mem_of_mem_take hs)⟩
theorem cut_to_len {xs : List V} {k : Nat} : (cutV xs none (some (k : Int))).length ≤ k := by
  rw [cut_to, List.length_take]; omega
theorem cut_from_len {xs : List V} {k : Nat} : (cutV xs (some (k : Int)) none).length ≤ xs.length - k := by
  unfold cutV
  rw [HT.sIx_none, HT.sIx_nat, List.length_take, List.length_drop]
  omega
theorem ExS.free {S : Sto} {H H2 : Hp} {u : Addr} (e : ExS S H H2) (hS : StoreOk S H2) (n : H2 u = none) : H u = none := by
  cases q : H u with
  | none => rfl
  | some o => rw [e u o (hS.ne1 n) q] at n; cases n
theorem map_str_len {U : List Str} {xs : List V} (e : xs = U.map V.str) : U.length = xs.length := by rw [e, List.length_map]

set_option maxHeartbeats 2000000
/-! ### try .. except C1 as a: .. except C2 as b: .. -/
abbrev Hnd := Value × Nat × (Addr → Value → Option Addr → TS)
/-- the clauses, one behind the other -/
def wAsM (K : PySem.W.Frag) (Wout : WX) (D : Ends) : List Hnd → WX
  | [] => Wout
  | q :: r => wAs K q.1 q.2.1 q.2.2 (wAsM K Wout D r) D
/-- each clause names its class, its own name's slot and its suite -/
inductive HdsAs (X : Cx) : List ExceptHandler → List Hnd → Prop
  | nil : HdsAs X [] []
  | cons {x n : Str} {c : Value} {i : Nat} {ts : Addr → Value → Option Addr → TS} {b₀ : Stmt} {suite : List Stmt} {np pos' : Pos} {hds : List ExceptHandler} {l : List Hnd} (hi : X.N[i]? = some n) (hln : X.env.kindOf n = some .local) (hc : Names X x c)
      (hsu : ∀ (a : Addr) (oe : Obj) (cls : Value) (d : Option Addr) (pn : List (Addr × Obj)), Zc cls d oe → (∃ vs, oe.data = .fields vs) → PSs (X.suite a ((a, oe) :: pn)) (b₀ :: suite) (ts a cls d)) (r : HdsAs X hds l) :
      HdsAs X (.ExceptHandler (some (.Name x np)) (some n) (b₀ :: suite) pos' :: hds) ((c, i, ts) :: l)
section
variable {X : Cx} {body : List Stmt} {h₀ : ExceptHandler} {hds : List ExceptHandler} {l : List Hnd} {pos : Pos} {tb : WX → TS} {Wout : WX}
theorem ps_try_asM (hs : X.stack = X.env :: X.outer) (hf : X.env.frame = some X.env.locals) (hN : X.N.Nodup) (tk : Takes X Wout)
    (hb : ∀ (W : WX) (pn : List (Addr × Obj)) (xe : Value → Shared → Prop), Takes (X.tr pn xe) W → PassesOwn (model X.prog X.w) X.A X.env xe → PSs (X.tr pn xe) body (tb W))
    (hh : HdsAs X (h₀ :: hds) l) : PS X (.Try body (h₀ :: hds) [] [] pos) (fun D σ H => tb (wAsM X.K Wout D l) D σ H) := by
  refine ⟨fun pins s σ H D I h => ?_⟩
  have ok := I.ok
  have hfr : X.A.frames = some (X.env :: X.outer) := by rw [ok.frames, hs]
  refine wpAny_Try_except ?_
  refine wpAny_mono ((hb (wAsM X.K Wout D l) (X.pn ++ pins) (fun e s₁ => wpAny (model X.prog X.w) X.A (noteFrame e X.env) (fun _ s₂ => wpAny (model X.prog X.w) X.A (setFlight e none) (fun _ s₃ =>
    wpAny (model X.prog X.w) X.A (handleBy e X.env (h₀ :: hds)) (SP X pins D) X.xe s₃) X.xe s₂) X.xe s₁) (fun u s' xx => ?_) PassesOwn.looking).run [] s σ H D (I.toTry _) h) (fun f s1 hsp => ?_) (fun e s1 he => he)
  · obtain ⟨a, B, sI, pins', σ', H', cls, d, rfl, J', nb, up, sky, na, os, ag, w⟩ := xx
    have J : Inv X pins σ' H' sI := J'.ofTry ok
    have sky' : Sky B (X.env :: X.outer) a (Zc cls d) X.env.locals s'.heap := by rw [← hs]; exact sky
    show wpAny (model X.prog X.w) X.A (noteFrame (.ref a) X.env) _ _ _
    refine Sky.land Zc.steady hfr hf sky' fun h3 fl3 up3 => ?_
    have J3 : Inv X pins σ' H' { s' with heap := h3 } := J.landed nb fl3.1 (up.trans up3) os ag
    obtain ⟨oe3, vs3, he3, hz3, hd3⟩ := fl3.there
    have nfr : a ∉ frs (X.env :: X.outer) := fun hm => by
      obtain ⟨_, o', e', hnf⟩ := fl3.2.2.1.mem hm
      rw [he3] at e'; cases e'
      exact hnf _ hd3
    have nL : a ≠ X.env.locals := fun z => nfr (List.mem_filterMap.mpr ⟨X.env, List.mem_cons_self, by rw [hf, z]⟩)
    have nF : a ∉ X.fs := fun hm => by
      obtain ⟨e, he, q⟩ := List.mem_filterMap.mp hm
      exact nfr (List.mem_filterMap.mpr ⟨e, List.mem_cons_of_mem _ he, q⟩)
    have S3 := J3.suite he3 hd3 na nL nF
    have go : ∀ {hds' : List ExceptHandler} {l' : List Hnd}, HdsAs X hds' l' → wAsM X.K Wout D l' cls d σ' H' → wpAny (model X.prog X.w) X.A (handleBy (.ref a) X.env hds') (SP X pins D) X.xe { s' with heap := h3 } := by
      intro hds' l' hk
      induction hk with
      | nil =>
        intro w
        refine wpAny_handleBy_nil ?_
        obtain ⟨k1, k2, k3, oe, vs, T, oT, ts', he, hz, hd, h1, hr⟩ := id fl3
        unfold PySem.passOn
        refine wpAny_bind (wpAny_field he hd h1 ?_)
        rw [if_neg (show ¬ ((Value.ref T == Value.none) = true) from by simp)]
        have fin : wpAny (model X.prog X.w) X.A (setFlight (.ref a) X.env.frame) (fun _ s4 => wpAny (model X.prog X.w) X.A (throw (.ref a) : Sem Flow) (SP X pins D) X.xe s4) X.xe { s' with heap := h3 } := by
          rw [hf]
          refine HandSPX.setFlight_upZ fl3 fun h4 hh4 up4 => wpAny_throw (tk _ _ ?_)
          exact ⟨a, B, sI, pins, σ', H', cls, d, rfl, J, nb, (up.trans up3).trans up4, .inr (.inr (by rw [hs]; exact hh4)), na, os, ag, w⟩
        first
          | exact wpAny_bind (wpAny_pure (wpAny_bind fin))
          | exact wpAny_bind fin
      | @cons x n c i ts b₀ suite np pos' hds2 l2 hi hln hc hsu r ih =>
        intro w
        obtain ⟨b, hb1, hyes, hno⟩ := w
        refine wpAny_handleBy_cons (codeAny_handlers_test ?_) (by intro q; cases q)
        have LT : PySem.W.Looks (model X.prog X.w) h3 (typeOf (.ref a)) cls := fun A Q E s k q => wpAny_typeOf_ref (k _ _ he3) (by rw [hz3.1]; exact q)
        have LM := PySem.W.exm_one (M := model X.prog X.w) (J3.kIn) LT hb1
        have test : ∀ {Q : Value → Shared → Prop} {E : Value → Shared → Prop}, Q c { s' with heap := h3 } → wpAny (model X.prog X.w) (X.A.mark (some (.ref a))) (eval (.Name x np) X.env) Q E { s' with heap := h3 } := fun {Q E} q => by
          obtain ⟨hg, hdbg, hm | ⟨hm, hv, hnn⟩⟩ := hc
          · exact ld_glob (X := X.suite a ((a, oe3) :: (X.pn ++ pins))) S3 hg hm q hdbg
          · exact ld_blt (X := X.suite a ((a, oe3) :: (X.pn ++ pins))) S3 hg hm hv q hnn hdbg
        refine test (LM.here ?_)
        cases b with
        | true =>
          refine codeAny_handlers_suite_as ?_
          refine HandSPX.lands_againZ fl3 fun h4 fl4 up4 => ?_
          have J4 : Inv X pins σ' H' { s' with heap := h4 } := J.landed nb fl4.1 ((up.trans up3).trans up4) os ag
          obtain ⟨oe4, vs4, he4, hz4, hd4⟩ := fl4.there
          have S4 := J4.suite he4 hd4 na nL nF
          have hloc : Loc X.env.scope n := .inl hln
          refine store_ok (X := X.suite a ((a, oe4) :: (X.pn ++ pins))) (v := .ref a) S4 hN hi hloc rfl (fun s5 S5 => ?_) (.inr hln)
          refine wpAny_mono ((hsu a oe4 cls d (X.pn ++ pins) hz4 ⟨_, hd4⟩).run [] s5 _ H' _ S5 (hyes rfl a na)) (fun f s6 hsp => ?_) (fun _ _ z => False.elim z)
          have end_ : ∀ {σ6 : L2.St} {H6 : Hp} {Q : Shared → Prop}, Inv (X.suite a ((a, oe4) :: (X.pn ++ pins))) [] σ6 H6 s6 → (∀ s7, Inv X pins (σ6.set i none) H6 s7 → Q s7) →
              wpAny (model X.prog X.w) X.A (do bindName X.env n .none; unbindBehindTheSuite X.env n pos') (fun _ s7 => Q s7) X.xe s6 := fun {σ6 H6 Q} S6 hq => gone_ok (S6.unsuite ok) hN hi hln hq
          cases f with
          | next =>
            obtain ⟨σ6, H6, S6, q6⟩ := hsp
            exact end_ S6 fun s7 J7 => ⟨_, _, J7, q6⟩
          | brk =>
            obtain ⟨σ6, H6, S6, q6⟩ := hsp
            exact end_ S6 fun s7 J7 => ⟨_, _, J7, q6⟩
          | cont =>
            obtain ⟨σ6, H6, S6, q6⟩ := hsp
            exact end_ S6 fun s7 J7 => ⟨_, _, J7, q6⟩
          | ret u =>
            obtain ⟨v6, σ6, H6, S6, r6, q6⟩ := hsp
            exact end_ S6 fun s7 J7 => ⟨_, _, _, J7, r6, q6⟩
        | false =>
          show wpAny _ X.A (handleBy (.ref a) X.env hds2) _ _ _
          exact ih (hno rfl)
    exact go hh w
  · cases f with
    | next =>
      obtain ⟨σ', H', J', q⟩ := hsp
      exact wpAny_execs_nil ⟨σ', H', J'.ofTry ok, q⟩
    | brk =>
      obtain ⟨σ', H', J', q⟩ := hsp
      exact ⟨σ', H', J'.ofTry ok, q⟩
    | cont =>
      obtain ⟨σ', H', J', q⟩ := hsp
      exact ⟨σ', H', J'.ofTry ok, q⟩
    | ret u =>
      obtain ⟨v, σ', H', J', r, q⟩ := hsp
      exact ⟨v, σ', H', J'.ofTry ok, r, q⟩
end

set_option maxHeartbeats 1000000
/-! ### operators by a class's own methods: x in c, x not in c, x & y -/
structure HasM (P : Program) (w : World) (K : PySem.W.Frag) (mg : Str → Option Value) (base : Heap) (CX : CXT) (C : Addr) (x : Str) (k : Nat) (ps : List Str) (sp : Sp) : Prop where
  ex : ∃ f fd, FnOk P w K mg base CX k f fd ps sp ∧ PySem.W.findIn K (.ref C) x = some (some (.ref f)) ∧ PySem.W.isFn K (.ref f) = true ∧ Binds K fd ps []
theorem HasM.mono {P : Program} {w : World} {K : PySem.W.Frag} {mg : Str → Option Value} {base : Heap} {CX : CXT} {C : Addr} {x : Str} {j k : Nat} {ps : List Str} {sp : Sp} (h : HasM P w K mg base CX C x j ps sp) (l : j ≤ k) : HasM P w K mg base CX C x k ps sp := by
  obtain ⟨f, fd, F, r⟩ := h.ex
  exact ⟨f, fd, F.mono l, r⟩
def rInM (C : Addr) (sp : Sp) (E : XK) (neg : Bool) : R2 := fun x y H Q => ∃ a dx fs, y = .ref a ∧ H a = some (.ins C dx fs) ∧ sp [.ref a, x] H (fun v H' => ∃ b, v = .bl b ∧ Q (.bl (if neg then !b else b)) H') E
def rBinM (C : Addr) (sp : Sp) (E : XK) : R2 := fun x y H Q => ∃ a b dx dy fs gs, x = .ref a ∧ y = .ref b ∧ H a = some (.ins C dx fs) ∧ H b = some (.ins C dy gs) ∧ sp [.ref a, .ref b] H (fun v H' => (v = .non ∨ ∃ p, v = .ref p) ∧ Q v H') E
section
variable {X : Cx} {CX : CXT} {C : Addr} {k : Nat} {ps : List Str} {sp : Sp} {E : XK} {nm : Str}
theorem op_inM (h : HasM X.prog X.w X.K X.mg X.base CX C "__contains__" k ps sp) (hr : Room k X.A) (hx : Passes CX X E) : OpR X (compareOp .In) (rInM C sp E false) := by
  intro pins s σ H x y v u Q I rx ry q
  obtain ⟨f, fd, F, hs, hf, hb⟩ := h.ex
  obtain ⟨a, dx, fs, rfl, ha, q⟩ := q
  cases ry
  obtain ⟨mA, J, _⟩ := ins_get I.hok ha
  obtain ⟨od, J, _⟩ := J.look
  obtain ⟨m, hF⟩ := I.fr
  refine PySem.W.in_K hF I.ok.mod.kin J hs hf (wpAny_mono (run_fn (vs := [.ref a, x]) F hr hb .nil hx I (.cons rfl (.cons rx .nil)) (by rw [List.append_nil]; exact q)) (fun r s' z => ?_) fun _ _ z => z)
  obtain ⟨z, H', I', rz, b, rfl, q'⟩ := z
  cases rz
  exact wpAny_truthy_bool ⟨.bl b, H', I', rfl, q'⟩
theorem op_notInM (h : HasM X.prog X.w X.K X.mg X.base CX C "__contains__" k ps sp) (hr : Room k X.A) (hx : Passes CX X E) : OpR X (compareOp .NotIn) (rInM C sp E true) := by
  intro pins s σ H x y v u Q I rx ry q
  obtain ⟨f, fd, F, hs, hf, hb⟩ := h.ex
  obtain ⟨a, dx, fs, rfl, ha, q⟩ := q
  cases ry
  obtain ⟨mA, J, _⟩ := ins_get I.hok ha
  obtain ⟨od, J, _⟩ := J.look
  obtain ⟨m, hF⟩ := I.fr
  refine PySem.W.notIn_K hF I.ok.mod.kin J hs hf (wpAny_mono (run_fn (vs := [.ref a, x]) F hr hb .nil hx I (.cons rfl (.cons rx .nil)) (by rw [List.append_nil]; exact q)) (fun r s' z => ?_) fun _ _ z => z)
  obtain ⟨z, H', I', rz, b, rfl, q'⟩ := z
  cases rz
  exact wpAny_truthy_bool ⟨.bl (!b), H', I', rfl, q'⟩
theorem op_binM {op : Operator} (h : HasM X.prog X.w X.K X.mg X.base CX C (PySem.dunder op.info.2) k ps sp) (hc : PySem.W.selfFirst X.K C = true) (hr : Room k X.A) (hx : Passes CX X E) : OpR X (binaryOp op) (rBinM C sp E) := by
  intro pins s σ H x y v u Q I rx ry q
  obtain ⟨f, fd, F, hs, hf, hb⟩ := h.ex
  obtain ⟨a, b, dx, dy, fs, gs, rfl, rfl, ha, hb', q⟩ := q
  cases rx
  cases ry
  obtain ⟨mA, J, _⟩ := ins_get I.hok ha
  obtain ⟨mB, J', _⟩ := ins_get I.hok hb'
  obtain ⟨od, J, _⟩ := J.look
  obtain ⟨od', J', _⟩ := J'.look
  obtain ⟨m, hF⟩ := I.fr
  refine PySem.W.binop_K hF I.ok.mod.kin J J'.type hc hs hf (wpAny_mono (run_fn (vs := [.ref a, .ref b]) F hr hb .nil hx I (.cons rfl (.cons rfl .nil)) (by rw [List.append_nil]; exact q)) (fun r s' z => ?_) fun _ _ z => z)
  obtain ⟨z, H', I', rz, hz, q'⟩ := z
  rcases hz with rfl | ⟨p, rfl⟩
  · cases rz
    exact ⟨.non, H', I', rfl, q'⟩
  · cases rz
    exact ⟨.ref p, H', I', rfl, q'⟩
end
/-! ### an own error with two fields -/
def spInit2 (K : PySem.W.Frag) (f g : Str) : Sp := fun vs H Q _ => ∃ (a C : Addr) (u v : V), vs = [.ref a, u, v] ∧ OexC K C ∧ PySem.W.findIn K (.ref C) f = some none ∧ PySem.W.findIn K (.ref C) g = some none ∧ H a = some (exo a C none) ∧
  ∀ dx, H dx = none → dx ≠ a → Q .non (upd (upd (upd H dx (exd dx [(f, u)])) a (exo a C (some dx))) dx (exd dx [(g, v), (f, u)]))
theorem rd_mk2 {K : PySem.W.Frag} {C : Addr} {f g : Str} {u v : V} {H1 : Hp} {W : XK} (T : OexC K C) (nf : PySem.W.findIn K (.ref C) f = some none) (ng : PySem.W.findIn K (.ref C) g = some none) (h : ∀ d H', H1 d = none → Same H1 H' → H' d = some (.xd [(g, v), (f, u)]) → W (.ref C) (some d) H') :
    [u, v].length ≤ 1000 ∧ ∀ a, H1 a = none → spInit2 K f g (.ref a :: ([u, v] ++ [])) (upd H1 a (exo a C none))
      (fun v H2 => v = .non ∧ ∃ (d : Addr) (fs : List (Str × V)), H2 a = some (exo a C (some d)) ∧ H2 d = some (exd d fs) ∧ H1 d = none ∧ W (.ref C) (some d) (upd (del H2 a) d (.xd fs))) (fun _ _ _ => False) := by
  refine ⟨by simp, fun a na => ⟨a, C, u, v, rfl, T, nf, ng, upd_same, fun dx ndx ne => ?_⟩⟩
  have nd : H1 dx = none := by rw [upd_ne ne] at ndx; exact ndx
  refine ⟨rfl, dx, [(g, v), (f, u)], by rw [upd_ne ne.symm]; exact upd_same, upd_same, nd, h dx _ nd (fun b o hb => ?_) upd_same⟩
  have h1 := ne_of_none hb na
  have h2 := ne_of_none hb nd
  rw [upd_ne h2, del_ne h1, upd_ne h2, upd_ne h1, upd_ne h2, upd_ne h1]
  exact hb
/-! ### instances: what their class must have, reading and writing their fields -/
theorem rd_fld {K : PySem.W.Frag} {te : TE} {f : Str} {σ : L2.St} {H : Hp} {Q : VK} (h : te σ H fun x H1 => ∃ a C dx fs v, x = .ref a ∧ H1 a = some (.ins C dx fs) ∧ Cls K C ∧ NoAttr K C f ∧ fs.lookup f = some v ∧ Q v H1) : tFld K te f σ H Q := h
theorem rd_sfld {K : PySem.W.Frag} {ta tv : TE} {f : Str} {D : Ends} {σ : L2.St} {H : Hp} (h : tv σ H fun y H1 => ta σ H1 fun x H2 => ∃ a C dx fs, x = .ref a ∧ H2 a = some (.ins C dx fs) ∧ Cls K C ∧ NoAttr K C f ∧ fs.length < 1000 ∧ D.nx σ (upd H2 a (.ins C dx (putF f y fs)))) : sFld K ta tv f D σ H := h
theorem passF {X : Cx} (tk : Takes X fun _ _ _ _ => False) : Passes (L2.CX X.prog X.w) X (fun _ _ _ => False) := fun pins σ H s e s' I c => passAt tk σ pins H s e s' I c
theorem rd_make {C : Addr} {sp : Sp} {dvs : List V} {E : XK} {t : TA} {σ : L2.St} {H : Hp} {Q : VK} (h : t σ H fun vs H1 => ∀ x dx, H1 x = none → H1 dx = none → dx ≠ x → sp (.ref x :: (vs ++ dvs)) (upd (upd H1 dx (.own x)) x (.ins C dx [])) (fun v H2 => v = .non ∧ Q (.ref x) H2) E) : tMake C sp dvs E t σ H Q := h

set_option maxHeartbeats 1000000
/-! ### x == y by x's own __eq__, y of any of these kinds -/
inductive EqK (K : PySem.W.Frag) (C : Addr) (H : Hp) : V → Prop where
  | ins {b dy : Addr} {gs : List (Str × V)} (e : H b = some (.ins C dy gs)) : EqK K C H (.ref b)
  | int (i : Int) : EqK K C H (.int i)
  | str (z : Str) : EqK K C H (.str z)
  | tup {b : Addr} {xs : List V} (e : H b = some (.tup xs)) : EqK K C H (.ref b)
theorem nf_int {K : PySem.W.Frag} {C : Addr} : PySem.W.notFirst K C (.type "int") = true := by
  have e : PySem.W.subIn K (.type "int") (.ref C) = some false := by
    show (fastBuiltinMro "int").map (fun l => l.contains (.ref C)) = some false
    rw [show fastBuiltinMro "int" = some [.type "int", .type "object"] from by decide +kernel]
    simp
  simp [PySem.W.notFirst, e]
theorem nf_str {K : PySem.W.Frag} {C : Addr} : PySem.W.notFirst K C (.type "str") = true := by
  have e : PySem.W.subIn K (.type "str") (.ref C) = some false := by
    show (fastBuiltinMro "str").map (fun l => l.contains (.ref C)) = some false
    rw [show fastBuiltinMro "str" = some [.type "str", .type "object"] from by decide +kernel]
    simp
  simp [PySem.W.notFirst, e]
theorem nf_tuple {K : PySem.W.Frag} {C : Addr} : PySem.W.notFirst K C (.type "tuple") = true := by
  have e : PySem.W.subIn K (.type "tuple") (.ref C) = some false := by
    show (fastBuiltinMro "tuple").map (fun l => l.contains (.ref C)) = some false
    rw [show fastBuiltinMro "tuple" = some [.type "tuple", .type "object"] from by decide +kernel]
    simp
  simp [PySem.W.notFirst, e]
def rEqM (K : PySem.W.Frag) (C : Addr) (sp : Sp) (E : XK) : R2 := fun x y H Q => ∃ a dx fs, x = .ref a ∧ H a = some (.ins C dx fs) ∧ EqK K C H y ∧ sp [.ref a, y] H (fun v H' => ∃ b, v = .bl b ∧ Q (.bl b) H') E
theorem op_eqM {X : Cx} {CX : CXT} {C : Addr} {k : Nat} {ps : List Str} {sp : Sp} {E : XK} (h : HasM X.prog X.w X.K X.mg X.base CX C "__eq__" k ps sp) (hr : Room k X.A) (hx : Passes CX X E) : OpR X (compareOp .Eq) (rEqM X.K C sp E) := by
  intro pins s σ H x y v u Q I rx ry q
  obtain ⟨f, fd, F, hs, hf, hb⟩ := h.ex
  obtain ⟨a, dx, fs, rfl, ha, hy, q⟩ := q
  cases rx
  obtain ⟨mA, J, _⟩ := ins_get I.hok ha
  obtain ⟨od, J, _⟩ := J.look
  obtain ⟨m, hF⟩ := I.fr
  have go : ∀ tb, PySem.W.Looks (model X.prog X.w) s.heap (typeOf u) tb → PySem.W.notFirst X.K C tb = true → wpAny (model X.prog X.w) X.A (compareOp .Eq (.ref a) u) (EP X pins σ Q) X.xe s := fun tb hl hn => by
    refine PySem.W.cmp_K (op := .Eq) (tb := tb) hr.units0 hF I.ok.mod.kin J hl hn hs hf (wpAny_mono (run_fn (vs := [.ref a, y]) F hr hb .nil hx I (.cons rfl (.cons ry .nil)) (by rw [List.append_nil]; exact q)) (fun r s' z => ?_) fun _ _ z => z)
    obtain ⟨z, H', I', rz, b, rfl, q'⟩ := z
    cases rz
    exact ⟨.bl b, H', I', rfl, q'⟩
  cases hy with
  | ins e =>
    cases ry
    obtain ⟨mB, J', _⟩ := ins_get I.hok e
    obtain ⟨od', J', _⟩ := J'.look
    exact go _ J'.type (by simp [PySem.W.notFirst])
  | int i =>
    obtain ⟨t, rfl⟩ := ry
    exact go (.type "int") (PySem.W.Looks.of_pure rfl) nf_int
  | str z =>
    obtain ⟨t, rfl⟩ := ry
    exact go (.type "str") (PySem.W.Looks.of_pure rfl) nf_str
  | tup e =>
    cases ry
    obtain ⟨_, its, _, o, ho, hc, _⟩ := (show ObjOk X.prog X.w H s.heap _ (.tup _) from I.hok _ _ e)
    exact go (.type "tuple") (hc ▸ (PySem.W.Looks.ld ho).andThen .now) nf_tuple

set_option maxHeartbeats 1000000
/-! ### making an instance within a try: what it lets out may ask of the slots -/
def tMakeS (C : Addr) (sp : Sp) (dvs : List V) (E : L2.St → XK) (t : TA) : TE := fun σ H Q => t σ H fun vs H1 => ∀ x dx, H1 x = none → H1 dx = none → dx ≠ x →
  sp (.ref x :: (vs ++ dvs)) (upd (upd H1 dx (.own x)) x (.ins C dx [])) (fun v H2 => v = .non ∧ Q (.ref x) H2) (E σ)
section
variable {X : Cx} {CX : CXT} {C f : Addr} {fd : FuncData} {x : Str} {k : Nat} {ps : List Str} {ds : List Value} {dvs : List V} {sp : Sp} {E : L2.St → XK} {p pos : Pos} {e : Expr} {es : List Expr} {t : TA}
theorem pe_makeS (M : Mk X.K C f) (F : FnOk X.prog X.w X.K X.mg X.base CX k f fd ps sp) (hr : Room (k + 1) X.A) (hg : Gl X x) (hm : X.mg x = some (.ref C)) (hb : Binds X.K fd ps ds) (hd : Vals dvs ds) (hx : ∀ σ, PassesAt CX X σ (E σ)) (ha : PA X (e :: es) t)
    (hdb : (x == ("__debug__" : Str)) = false := by decide) (he : starEach (e :: es) X.env = (false, eval e X.env) :: starEach es X.env := by rfl) (hpl : (backTo pos (starEach es X.env)).any (·.1) = false := by rfl) :
    PE X (.Call (.Name x p) (e :: es) [] pos) (tMakeS C sp dvs E t) := by
  refine ⟨fun pins s σ H Q I h => ?_⟩
  refine wpAny_Call_Name_kw (ld_glob I hg hm ?_ hdb)
  refine PySem.W.callWith_K (h₀ := X.base) I.ok.mod.kin M.kp (thn (ha.run pos pins s σ H _ I h) fun us s1 ⟨vs, H1, I1, r, q⟩ => ⟨I1.kIn, ?_⟩) he hpl
  have hq := q (s1.heap.objs.size + 1) s1.heap.objs.size (I1.hok.fresh (Nat.le_succ _)) (I1.hok.fresh (Nat.le_refl _)) (Nat.ne_of_lt (Nat.lt_succ_self _))
  have I2 := Inv.made (C := C) I1
  have r2 : Vals (V.ref (s1.heap.objs.size + 1) :: (vs ++ dvs)) (Value.ref (s1.heap.objs.size + 1) :: (us ++ ds)) := .cons rfl (r.append hd)
  have hl : (Value.ref (s1.heap.objs.size + 1) :: us ++ ds).length = ps.length := by
    have e := r2.length
    rw [F.len _ _ _ _ hq] at e
    exact e.symm
  refine wpAny_call (make_map (f := f) I1.kIn M.makes M.init (beq_iff_eq.mp M.fn) (codeAny_mono (F.run _ X.stack _ _ ⟨Value.ref (s1.heap.objs.size + 1) :: us, []⟩ (Value.ref (s1.heap.objs.size + 1) :: (us ++ ds)) _ _ (E σ) (hr.make C us [])
    (I2.env0.make C us []) (hb _ (Value.ref (s1.heap.objs.size + 1) :: us) I2.kIn hl) r2 hq) fun r s' hq' => ?_))
  cases r with
  | error e => exact hx σ pins _ _ e s' I2 hq'
  | ok fl =>
    cases fl with
    | ret u =>
      obtain ⟨v, H', I3, rv, ev, q3⟩ := I2.after hq'
      subst ev
      exact ⟨rv, ⟨V.ref (s1.heap.objs.size + 1), H', I3, rfl, q3⟩⟩
    | next => exact False.elim hq'
    | brk => exact False.elim hq'
    | cont => exact False.elim hq'
theorem rd_makeS {σ : L2.St} {H : Hp} {Q : VK} (h : t σ H fun vs H1 => ∀ x dx, H1 x = none → H1 dx = none → dx ≠ x → sp (.ref x :: (vs ++ dvs)) (upd (upd H1 dx (.own x)) x (.ins C dx [])) (fun v H2 => v = .non ∧ Q (.ref x) H2) (E σ)) : tMakeS C sp dvs E t σ H Q := h
end

set_option maxHeartbeats 1000000
section
variable {X : Cx} {CX : CXT} {C f g q : Addr} {fd : FuncData} {x : Str} {k i : Nat} {ps ks : List Str} {ds : List Value} {dvs : List V} {sp : Sp} {E : L2.St → XK} {p pos apos : Pos} {e o : Expr} {es : List Expr} {kws : List Keyword} {t tk : TA} {ta : TE} {m : Str} {mc : Value} {pl : Sem Bool}
/-- a call that is bound already -/
theorem code_fnS {pins : List (Addr × Obj)} {σ : L2.St} {H : Hp} {s : Shared} {Q : VK} {us ws : List Value} {kw : List (Str × Value)} {vs : List V} {E : XK} (F : FnOk X.prog X.w X.K X.mg X.base CX k f fd ps sp) (hr : Room k X.A) (hb : BindsTo s fd ⟨us, kw⟩ (ps.zip ws)) (hx : PassesAt CX X σ E)
    (I : Inv X pins σ H s) (r : Vals vs ws) (h : sp vs H Q E) : codeAny (model X.prog X.w) X.A (.call (.ref f) ⟨us, kw⟩) (fun r s' => match r with | .ok (.ret v) => EP X pins σ Q v s' | .ok _ => False | .error e => X.xe e s') s := by
  refine codeAny_mono (F.run X.A X.stack s H ⟨us, kw⟩ ws vs Q E hr I.env0 hb r h) fun r s' hq => ?_
  cases r with
  | error e => exact hx pins H s e s' I hq
  | ok fl =>
    cases fl with
    | ret u => exact I.after hq
    | next => exact False.elim hq
    | brk => exact False.elim hq
    | cont => exact False.elim hq
/-! ### cls(..): a slot that holds the class -/
def tMakeL (i : Nat) (C : Addr) (sp : Sp) (dvs : List V) (E : XK) (t : TA) : TE := fun σ H Q => σ[i]? = some (some (.ref C)) ∧ t σ H fun vs H1 => ∀ x dx, H1 x = none → H1 dx = none → dx ≠ x →
  sp (.ref x :: (vs ++ dvs)) (upd (upd H1 dx (.own x)) x (.ins C dx [])) (fun v H2 => v = .non ∧ Q (.ref x) H2) E
theorem pe_makeL {E : XK} (M : Mk X.K C f) (F : FnOk X.prog X.w X.K X.mg X.base CX k f fd ps sp) (hr : Room (k + 1) X.A) (hN : X.N[i]? = some x) (hv : Vis X.env.scope x) (hb : Binds X.K fd ps ds) (hd : Vals dvs ds) (hx : Passes CX X E) (ha : PA X (e :: es) t)
    (hdb : (x == ("__debug__" : Str)) = false := by decide) (hcd : (x == ("__classdict__" : Str)) = false := by decide)
    (he : starEach (e :: es) X.env = (false, eval e X.env) :: starEach es X.env := by rfl) (hpl : (backTo pos (starEach es X.env)).any (·.1) = false := by rfl) :
    PE X (.Call (.Name x p) (e :: es) [] pos) (tMakeL i C sp dvs E t) := by
  refine ⟨fun pins s σ H Q I h => ?_⟩
  obtain ⟨hs, ht⟩ := h
  refine wpAny_Call_Name_kw (thn ((pe_var (pos := p) hN hv hdb hcd).run pins s σ H (fun v H1 => v = .ref C ∧ H1 = H) I ⟨.ref C, hs, rfl, rfl⟩) fun u s1 ⟨v, H1, I1, r1, q1⟩ => ?_)
  obtain ⟨rfl, rfl⟩ := q1
  cases r1
  refine PySem.W.callWith_K (h₀ := X.base) I.ok.mod.kin M.kp (thn (ha.run pos pins s1 σ _ _ I1 ht) fun us s2 ⟨vs, H2, I2, r, q⟩ => ⟨I2.kIn, ?_⟩) he hpl
  exact run_make M F hr hb hd hx I2 r q
/-! ### C.m(..), m a classmethod, in a try -/
def tCMethS (C : Addr) (sp : Sp) (E : L2.St → XK) (ta : TE) (t : TA) : TE := fun σ H Q => ta σ H fun x H1 => x = .ref C ∧ t σ H1 fun vs H2 => sp (.ref C :: vs) H2 Q (E σ)
theorem pe_cmethS (he : PE X o ta) (r : ClX.CRead X.K C mc) (c : ClX.CMet X.K C mc m q g) (F : FnOk X.prog X.w X.K X.mg X.base CX k g fd ps sp) (hb : Binds X.K fd ps []) (hr : Room k X.A) (hx : ∀ σ, PassesAt CX X σ (E σ)) (ha : PA X (e :: es) t)
    (hst : starEach (e :: es) X.env = (false, eval e X.env) :: starEach es X.env := by rfl) (hpl : (backTo pos (starEach es X.env)).any (·.1) = false := by rfl)
    (ht : eval (.Call (.Attribute o m apos) (e :: es) [] pos) X.env = (do
      let ov ← eval o X.env
      standAt apos.atName
      let (f, first) ← holding [ov] (getMethod ov m pl)
      callWith pos f first (backTo pos (starEach (e :: es) X.env)) (backToKw pos (keywordEach [] X.env))) := by rfl) :
    PE X (.Call (.Attribute o m apos) (e :: es) [] pos) (tCMethS C sp E ta t) := by
  refine ⟨fun pins s σ H Q I h => ?_⟩
  refine PySem.W.methodCall_KW (pl := pl) (thn (he.run pins s σ H _ I h) fun u s1 ⟨x, H1, I1, rx, ex, q⟩ => ?_) ht
  subst ex
  obtain rfl : u = Value.ref C := rx
  refine ClX.getmethcm_ok I1 r c fun s2 I2 => ?_
  refine ClX.callwith_cm I2 (ClX.base_none I1 (Nat.le_refl _)) c.fi (thn (ha.run pos _ s2 σ H1 _ I2 q) fun us s3 ⟨vs, H2, I3, rv, q2⟩ => ⟨⟨ClX.pin_at I3, I3.kIn⟩, ?_⟩) hst hpl
  have rv2 : Vals (V.ref C :: vs) (Value.ref C :: us) := .cons rfl rv
  have hl : (Value.ref C :: us).length = ps.length := by rw [← rv2.length]; exact F.len _ _ _ _ q2
  have b := hb s3 (Value.ref C :: us) I3.kIn (by rw [List.append_nil]; exact hl)
  rw [List.append_nil] at b
  have z := wpAny_call (PySem.W.method_call (ClX.pin_at I3) (code_fnS F hr b (hx σ) I3 rv2 q2))
  exact thn z fun _ _ y => ClX.unpinE y
def tCMethKS (C : Addr) (n : Nat) (sp : Sp) (E : L2.St → XK) (ta : TE) (tk : TA) : TE := fun σ H Q => ta σ H fun x H1 => x = .ref C ∧ tk σ H1 fun zs H2 => zs.length = n ∧ sp (.ref C :: zs) H2 Q (E σ)
theorem pe_cmethKS (he : PE X o ta) (r : ClX.CRead X.K C mc) (c : ClX.CMet X.K C mc m q g) (F : FnOk X.prog X.w X.K X.mg X.base CX k g fd ps sp) (hb : ∀ (s : Shared) (u : Value) (ws : List Value), ws.length = ks.length → BindsTo s fd ⟨[u], ks.zip ws⟩ (ps.zip (u :: ws))) (hr : Room k X.A) (hx : ∀ σ, PassesAt CX X σ (E σ)) (hkw : PK X kws tk)
    (hall : (backToKw pos (keywordEach kws X.env)).all (·.1.isSome) = true := by rfl) (hks : (backToKw pos (keywordEach kws X.env)).filterMap (·.1) = ks := by rfl)
    (hpl : ((backTo pos (starEach [] X.env)).any (·.1) || (backToKw pos (keywordEach kws X.env)).any (·.1.isNone)) = false := by rfl)
    (ht : eval (.Call (.Attribute o m apos) [] kws pos) X.env = (do
      let ov ← eval o X.env
      standAt apos.atName
      let (f, first) ← holding [ov] (getMethod ov m pl)
      callWith pos f first (backTo pos (starEach [] X.env)) (backToKw pos (keywordEach kws X.env))) := by rfl) :
    PE X (.Call (.Attribute o m apos) [] kws pos) (tCMethKS C ks.length sp E ta tk) := by
  refine ⟨fun pins s σ H Q I h => ?_⟩
  refine PySem.W.methodCall_KW (pl := pl) (thn (he.run pins s σ H _ I h) fun u s1 ⟨x, H1, I1, rx, ex, q⟩ => ?_) ht
  subst ex
  obtain rfl : u = Value.ref C := rx
  refine ClX.getmethcm_ok I1 r c fun s2 I2 => ?_
  refine PySem.W.callWith_of (P := fun h => PySem.W.MethP X.K _ g (.ref C) h) hpl (fun h Y => PySem.W.keeps_M c.fi h Y) (evalArgs_kw2_nil hall (thn (hkw.run pos _ s2 σ H1 _ I2 q) fun ws s3 ⟨zs, H2, I3, rz, l2, q2⟩ => ⟨⟨ClX.pin_at I3, I3.kIn⟩, ?_⟩))
  rw [hks]
  have rv2 : Vals (V.ref C :: zs) (Value.ref C :: ws) := .cons rfl rz
  have z := wpAny_call (PySem.W.method_call (ClX.pin_at I3) (code_fnS F hr (hb s3 (.ref C) ws (rz.length.symm.trans l2)) (hx σ) I3 rv2 q2))
  exact thn z fun _ _ y => ClX.unpinE y
theorem rd_makeL {E : XK} {σ : L2.St} {H : Hp} {Q : VK} (hs : σ[i]? = some (some (.ref C))) (h : t σ H fun vs H1 => ∀ x dx, H1 x = none → H1 dx = none → dx ≠ x → sp (.ref x :: (vs ++ dvs)) (upd (upd H1 dx (.own x)) x (.ins C dx [])) (fun v H2 => v = .non ∧ Q (.ref x) H2) E) : tMakeL i C sp dvs E t σ H Q := ⟨hs, h⟩
theorem rd_cmS {σ : L2.St} {H : Hp} {Q : VK} (h : ta σ H fun x H1 => x = .ref C ∧ t σ H1 fun vs H2 => sp (.ref C :: vs) H2 Q (E σ)) : tCMethS C sp E ta t σ H Q := h
theorem rd_cmKS {n : Nat} {σ : L2.St} {H : Hp} {Q : VK} (h : ta σ H fun x H1 => x = .ref C ∧ tk σ H1 fun zs H2 => zs.length = n ∧ sp (.ref C :: zs) H2 Q (E σ)) : tCMethKS C n sp E ta tk σ H Q := h
end

def topS (i : Nat) : Stmt := PySem.Challenge.pw_outshiners_k02_spans_meet.main.body.getD i (.Pass ⟨0, 0, 0, 0⟩)
abbrev s_law_store : Stmt := topS 21
theorem sc_law_store : FnScope ["script"] ["script"] (defScope s_law_store) := ⟨rfl, rfl, rfl, by decide +kernel, rfl, by decide +kernel, by decide +kernel⟩
abbrev s_law_stir : Stmt := topS 22
theorem sc_law_stir : FnScope ["store", "cell", "one", "two"] ["store", "cell"] (defScope s_law_stir) := ⟨rfl, rfl, rfl, by decide +kernel, rfl, by decide +kernel, by decide +kernel⟩
abbrev s_law_take : Stmt := topS 23
theorem sc_law_take : FnScope ["store", "many", "cells", "cell", "rest"] ["store", "many"] (defScope s_law_take) := ⟨rfl, rfl, rfl, by decide +kernel, rfl, by decide +kernel, by decide +kernel⟩
abbrev s_law_pick : Stmt := topS 24
theorem sc_law_pick : FnScope ["store", "items"] ["store", "items"] (defScope s_law_pick) := ⟨rfl, rfl, rfl, by decide +kernel, rfl, by decide +kernel, by decide +kernel⟩
abbrev s_law_shuffled : Stmt := topS 25
theorem sc_law_shuffled : FnScope ["store", "items", "mixed", "k", "j", "held"] ["store", "items"] (defScope s_law_shuffled) := ⟨rfl, rfl, rfl, by decide +kernel, rfl, by decide +kernel, by decide +kernel⟩
abbrev s_law_unlike : Stmt := topS 26
theorem sc_law_unlike : FnScope ["items", "kept", "item"] ["items"] (defScope s_law_unlike) := ⟨rfl, rfl, rfl, by decide +kernel, rfl, by decide +kernel, by decide +kernel⟩
structure Blt (mg : Str → Option Value) : Prop where
  len : mg "len" = none
  int : mg "int" = none
  max : mg "max" = none
  min : mg "min" = none
  range : mg "range" = none
  list' : mg "list" = none
  tuple : mg "tuple" = none
  bool : mg "bool" = none
  sorted : mg "sorted" = none
  isinstance : mg "isinstance" = none
  str : mg "str" = none
  dict : mg "dict" = none
  ValueError : mg "ValueError" = none
  g_LIMIT : ∃ t, mg "LIMIT" = some (.int 1000000000000 t)
local macro_rules | `(tactic| walk_at "sideA") => `(tactic| first | assumption | exact Z.sl_of (by assumption) | exact upd_same | (show (0 : Int) < _; omega) | exact Or.inl ⟨by omega, by omega⟩ | exact Or.inr ⟨by omega, by omega⟩)
local macro_rules | `(tactic| walk_at "tyofA") => `(tactic| first | exact TyOf.int _ | exact TyOf.bl _ | exact TyOf.non | exact TyOf.str _ | (apply TyOf.lst; assumption) | (apply TyOf.tup; assumption))
local macro_rules | `(tactic| walk_at "rd1A") => `(tactic| first
  | with_reducible first
    | refine rd_seq ?_ | refine rd_asg ?_ | refine rd_c ?_ | refine rd_op ?_ | refine rd_cons ?_ | refine rd_nil ?_ | refine rd_cb ?_ | refine rd_call ?_ | refine rd_I0 ?_ | refine rd_eqI ?_ | refine rd_bx ?_ | refine rd_nn ?_ | refine rd_int1 ?_ | refine rd_max2 ?_ | refine rd_min2 ?_
    | refine rd_ret ?_ | refine rd_ifS ?_ | refine rd_test ?_ | refine rd_tB ?_ | refine rd_not ?_ | refine rd_and ?_ | refine rd_or ?_ | refine rd_un ?_ | refine rd_U ?_ | refine rd_next ?_ | refine rd_drop ?_ | refine rd_andV ?_ | refine rd_orV ?_ | refine rd_notV ?_ | refine rd_if ?_ | refine rd_neI ?_
    | refine rd_lst ?_ | refine rd_tup ?_ | refine rd_sl ?_ | refine rd_bm ?_ | refine rd_chain ?_ | refine rd_asgS ?_ | refine iteT ?_ | refine iteF ?_ | refine if_nn ?_ | refine if_nf ?_ | refine if_nt ?_ | refine if_nnN ?_ | refine if_n_int ?_ | refine if_n_bl ?_ | refine if_n_str ?_ | refine if_n_ref ?_ | refine if_nN_int ?_ | refine if_nN_bl ?_ | refine if_nN_str ?_ | refine if_nN_ref ?_ | refine rd_eqB ?_ | refine rd_eqS ?_ | refine rd_neB ?_ | refine rd_part ?_ | refine rd_nopart ?_ | refine rd_for ?_ | refine rd_iRng1 ?_ | refine rd_iList ?_ | refine rd_iTup ?_ | refine rd_lc ?_ | refine rd_callS ?_ | refine rd_callKS ?_ | refine rd_mkO ?_ | refine rd_ckw ?_ | refine rd_xf ?_
    | refine rd_p9 ?_ | refine rd_p11 ?_ | refine rd_p12 ?_ | refine rd_p13 ?_ | refine rd_p18 ?_ | refine rd_p30 ?_ | refine rd_p40 ?_
  | ((with_reducible refine rd_var (v := ?v) ?hv ?_); (case hv => exact rfl))
  | ((with_reducible refine rd_setS (j := ?j) ?he ?_); (case he => exact rfl))
  | ((with_reducible refine rd_isi (a := ?a) (b := ?b) ?ty ?k ?_); (case ty => first | exact TyOf.int _ | exact TyOf.bl _ | exact TyOf.non | exact TyOf.str _); (case k => with_reducible first | exact kb_int_int | exact kb_int_bool | exact kb_int_str | exact kb_int_dict | exact kb_int_list | exact kb_int_tuple | exact kb_bool_int | exact kb_bool_bool | exact kb_bool_str | exact kb_bool_dict | exact kb_bool_list | exact kb_bool_tuple | exact kb_NoneType_int | exact kb_NoneType_bool | exact kb_NoneType_str | exact kb_NoneType_dict | exact kb_NoneType_list | exact kb_NoneType_tuple | exact kb_str_int | exact kb_str_bool | exact kb_str_str | exact kb_str_dict | exact kb_str_list | exact kb_str_tuple))
  | ((with_reducible refine rd_isiL (b := ?b) (by assumption) ?k ?_); (case k => with_reducible first | exact kb_list_int | exact kb_list_bool | exact kb_list_str | exact kb_list_dict | exact kb_list_list | exact kb_list_tuple))
  | ((with_reducible refine rd_isiT (b := ?b) (by assumption) ?k ?_); (case k => with_reducible first | exact kb_tuple_int | exact kb_tuple_bool | exact kb_tuple_str | exact kb_tuple_dict | exact kb_tuple_list | exact kb_tuple_tuple))
  | ((with_reducible refine rd_I ?hc ?_); (case hc => walk_at "sideA"))
  | ((with_reducible refine rd_ixL (xs := ?xs) (v := ?v) ?hh ?he ?_); (case hh => first | exact upd_same | assumption); (case he => exact rfl)))
local macro_rules | `(tactic| walk_at "rdA") => `(tactic| repeat walk_at "rd1A")

section
variable {P : Program} {w : World} {K : PySem.W.Frag} {mg : Str → Option Value} {base : Heap}
/-! ### _law_store -/
def spStore (K : PySem.W.Frag) : Sp := fun vs H Q _ => ∃ a, ∃ ns : List Int, vs = [.ref a] ∧ SqL K H a (ns.map V.int) ∧ ∀ (S : Sto) H', StoreOk S H' → Same H H' → Q (.ref S.1) H'
theorem ok_store {k : Nat} {f : Addr} {fd : FuncData} (F : Fun K "_law_store" "_law_store" s_law_store f fd) (T : Blt mg) : FnOk P w K mg base CX0 (k + 1) f fd ["script"] (spStore K) := by
  refine F.ok sc_law_store (fun vs H Q E h => ?_) (fun cdv A outer s H vs Q E hr h => ?_)
  · obtain ⟨a, ns, rfl, _⟩ := h; rfl
  · obtain ⟨a, ns, rfl, hL, q⟩ := h
    refine ⟨_, (pss_one (ps_ret (pe_lst (pa_cons (pe_callTy call_list_of (by rfl) T.list' (by decide +kernel) (pa_cons (pv 0) pa_nil)) (pa_cons pe_int (pa_cons pe_int (pa_cons pe_int (pa_cons pe_int (pa_cons pe_int (pa_cons pe_int pa_nil)))))))))), ?_⟩
    walk_at "rdA"
    refine ⟨a, _, rfl, .inl hL, fun q0 nq0 => ?_⟩
    walk_at "rdA"
    refine ⟨sz (by simp), fun S nS => ?_⟩
    have n2 : q0 ≠ S := fun e => by rw [← e, upd_same] at nS; cases nS
    refine q (S, q0) _ ⟨ns, 0, 0, 0, 0, 1, 1, n2, upd_same, by rw [upd_ne n2, upd_same], by omega, by omega, by omega, by omega, by omega⟩ ((same_new nq0).trans (same_new nS))
/-! ### _law_stir -/
def spStir : Sp := fun vs H Q _ => ∃ S n q a b c d e f, vs = [.ref S, .int n] ∧ H S = some (.lst [.ref q, .int a, .int b, .int c, .int d, .int e, .int f]) ∧ 0 ≤ e ∧ e < 2147483647 ∧ 0 ≤ f ∧ f < 2147483647 ∧ 
  ∀ d' e' f', 0 ≤ e' → e' < 2147483647 → 0 ≤ f' → f' < 2147483647 → Q .non (upd H S (.lst [.ref q, .int a, .int b, .int c, .int d', .int e', .int f']))
theorem ok_stir {k : Nat} {f : Addr} {fd : FuncData} (F : Fun K "_law_stir" "_law_stir" s_law_stir f fd) (T : Blt mg) : FnOk P w K mg base CX0 (k + 1) f fd ["store", "cell"] spStir := by
  refine F.ok sc_law_stir (fun vs H Q E h => ?_) (fun cdv A outer s H vs Q E hr h => ?_)
  · obtain ⟨S, n, q, a, b, c, d, e, f, rfl, _⟩ := h; rfl
  · obtain ⟨S, n, q, a, b, c, d, e, f', rfl, hs, h1, h2, h3, h4, h⟩ := h
    refine ⟨_, (pss_cons (ps_asg (pe_op op_add (pe_callTy call_int1 (by rfl) T.int (by decide +kernel) (pa_cons (pe_ix ix_list (pv 0) pe_int (fun _ _ => rfl)) pa_nil)) pe_int) (pg_sub (pv 0) pe_int set_list))
 (pss_cons (ps_set (i := 2) sc_law_stir.nd rfl (.inl rfl) (pe_op op_add (pe_op op_add (pe_op op_mul (pe_callTy call_int1 (by rfl) T.int (by decide +kernel) (pa_cons (pe_ix ix_list (pv 0) pe_int (fun _ _ => rfl)) pa_nil)) pe_int) (pe_op op_mod (pe_callTy call_int1 (by rfl) T.int (by decide +kernel) (pa_cons (pv 1) pa_nil)) pe_int)) (pe_callTy call_int1 (by rfl) T.int (by decide +kernel) (pa_cons (pe_ix ix_list (pv 0) pe_int (fun _ _ => rfl)) pa_nil))))
 (pss_cons (ps_asg (pe_op op_mod (pe_callTy call_int1 (by rfl) T.int (by decide +kernel) (pa_cons (pv 2) pa_nil)) pe_int) (pg_sub (pv 0) pe_int set_list))
 (pss_cons (ps_set (i := 3) sc_law_stir.nd rfl (.inl rfl) (pe_op op_add (pe_op op_add (pe_op op_add (pe_op op_mul (pe_callTy call_int1 (by rfl) T.int (by decide +kernel) (pa_cons (pe_ix ix_list (pv 0) pe_int (fun _ _ => rfl)) pa_nil)) pe_int) (pe_op op_mul (pe_callTy call_int1 (by rfl) T.int (by decide +kernel) (pa_cons (pe_ix ix_list (pv 0) pe_int (fun _ _ => rfl)) pa_nil)) pe_int)) (pe_op op_mod (pe_callTy call_int1 (by rfl) T.int (by decide +kernel) (pa_cons (pv 1) pa_nil)) pe_int)) (pe_callTy call_int1 (by rfl) T.int (by decide +kernel) (pa_cons (pe_ix ix_list (pv 0) pe_int (fun _ _ => rfl)) pa_nil))))
 (pss_one (ps_asg (pe_op op_mod (pe_callTy call_int1 (by rfl) T.int (by decide +kernel) (pa_cons (pv 3) pa_nil)) pe_int) (pg_sub (pv 0) pe_int set_list))))))), ?_⟩
    rw [← upd_id hs]
    walk_at "rdA"
    refine h _ _ _ ?_ ?_ ?_ ?_ <;> omega
/-! ### _law_take -/
def spTake : Sp := fun vs H Q _ => ∃ (S : Sto), ∃ m, vs = [.ref S.1, .int m] ∧ m < 2 ^ 200 ∧ StoreOk S H ∧ ∀ r H', 0 ≤ r → r < max 1 m → StoreOk S H' → ExS S H H' → Q (.int r) H'
theorem ok_take {k : Nat} {f : Addr} {fd : FuncData} (F : Fun K "_law_take" "_law_take" s_law_take f fd) (T : Blt mg) (H_law_stir : Has P w K mg base "_law_stir" k ["store", "cell"] spStir) : FnOk P w K mg base CX0 (k + 1) f fd ["store", "many"] spTake := by
  refine F.ok sc_law_take (fun vs H Q E h => ?_) (fun cdv A outer s H vs Q E hr h => ?_)
  · obtain ⟨S, m, rfl, _⟩ := h; rfl
  · obtain ⟨S, m, rfl, hm, hS, h⟩ := h
    refine ⟨_, (pss_cons (ps_set (i := 1) sc_law_take.nd rfl (.inl rfl) (pe_callB (call_max2 rfl) (by rfl) T.max (by decide +kernel) (pa_cons pe_int (pa_cons (pe_callTy call_int1 (by rfl) T.int (by decide +kernel) (pa_cons (pv 1) pa_nil)) pa_nil))))
 (pss_cons (ps_set (i := 2) sc_law_take.nd rfl (.inl rfl) (pe_ix ix_list (pv 0) pe_int (fun _ _ => rfl)))
 (C8.pss_cut (ps_if (PW.pt (pw_and (pt_cmpR op_eq (pe_callTy call_int1 (by rfl) T.int (by decide +kernel) (pa_cons (pe_ix ix_list (pv 0) pe_int (fun _ _ => rfl)) pa_nil)) pe_int (nomark _)) (pw_and (pt_cmpR op_eq (pe_callTy call_int1 (by rfl) T.int (by decide +kernel) (pa_cons (pe_ix ix_list (pv 0) pe_int (fun _ _ => rfl)) pa_nil)) pe_int (nomark _)) (pw_and1 (pt_cmpR op_lt (pe_callTy call_int1 (by rfl) T.int (by decide +kernel) (pa_cons (pe_ix ix_list (pv 0) pe_int (fun _ _ => rfl)) pa_nil)) (pe_callB call_len_seq (by rfl) T.len (by decide +kernel) (pa_cons (pv 2) pa_nil)) (nomark _)))))) (pss_cons (ps_set (i := 3) sc_law_take.nd rfl (.inl rfl) (pe_callTy call_int1 (by rfl) T.int (by decide +kernel) (pa_cons (pe_ix ix_list (pv 2) (pe_callTy call_int1 (by rfl) T.int (by decide +kernel) (pa_cons (pe_ix ix_list (pv 0) pe_int (fun _ _ => rfl)) pa_nil)) (fun _ _ => rfl)) pa_nil)))
 (pss_cons (ps_asg (pe_op op_add (pe_callTy call_int1 (by rfl) T.int (by decide +kernel) (pa_cons (pe_ix ix_list (pv 0) pe_int (fun _ _ => rfl)) pa_nil)) pe_int) (pg_sub (pv 0) pe_int set_list))
 (pss_cons (ps_asg pe_int (pg_sub (pv 0) pe_int set_list))
 (pss_cons (ps_expr (pe_callH H_law_stir hr (by rfl) (pa_cons (pv 0) (pa_cons (pv 3) pa_nil))))
 (pss_one (ps_if (pt_cmpR op_ge (pv 3) (pe_op op_pow pe_int pe_int) (nomark _)) (pss_cons (ps_asg (pv 3) (pg_sub (pv 0) pe_int set_list))
 (pss_one (ps_asg pe_int (pg_sub (pv 0) pe_int set_list)))) pss_nil)))))) pss_nil)
 (pss_cons (ps_set (i := 4) sc_law_take.nd rfl (.inl rfl) (pe_callTy call_int1 (by rfl) T.int (by decide +kernel) (pa_cons (pe_ix ix_list (pv 0) pe_int (fun _ _ => rfl)) pa_nil)))
 (pss_cons (ps_if (pt_cmpR op_gt (pv 4) pe_int (nomark _)) (pss_cons (ps_asg (pe_op op_fdivW (pv 4) (pv 1)) (pg_sub (pv 0) pe_int set_list))
 (pss_one (ps_ret (pe_op op_mod (pe_callTy call_int1 (by rfl) T.int (by decide +kernel) (pa_cons (pv 4) pa_nil)) (pv 1))))) pss_nil)
 (pss_cons (ps_expr (pe_callH H_law_stir hr (by rfl) (pa_cons (pv 0) (pa_cons pe_int pa_nil))))
 (pss_cons (ps_asg (pe_callB (call_max2 rfl) (by rfl) T.max (by decide +kernel) (pa_cons pe_int (pa_cons (pe_op op_sub (pe_callTy call_int1 (by rfl) T.int (by decide +kernel) (pa_cons (pe_ix ix_list (pv 0) pe_int (fun _ _ => rfl)) pa_nil)) pe_int) pa_nil))) (pg_sub (pv 0) pe_int set_list))
 (pss_one (ps_ret (pe_op op_mod (pe_callTy call_int1 (by rfl) T.int (by decide +kernel) (pa_cons (pe_op op_add (pe_op op_mul (pe_callTy call_int1 (by rfl) T.int (by decide +kernel) (pa_cons (pe_ix ix_list (pv 0) pe_int (fun _ _ => rfl)) pa_nil)) pe_int) (pe_callTy call_int1 (by rfl) T.int (by decide +kernel) (pa_cons (pe_ix ix_list (pv 0) pe_int (fun _ _ => rfl)) pa_nil))) pa_nil)) (pv 1))))))))))), ?_⟩
    obtain ⟨S, q⟩ := S
    obtain ⟨cells, a, b, c, d, e, f', nq, hs, hq, h0, h1, h2, h3, h4⟩ := hS
    dsimp only at nq hs hq ⊢
    rw [← upd_id hs]
    walk_at "rdA"
    obtain ⟨M, hM⟩ : ∃ M, M = (if m > 1 then m else 1) := ⟨_, rfl⟩
    rw [← hM]
    have hM1 : 1 ≤ M := by rw [hM]; split <;> omega
    have hM2 : M = max 1 m := by rw [hM]; split <;> omega
    have hM3 : M < 2 ^ 200 := by rw [hM]; split <;> omega
    clear hM
    refine rd_cut (fun σ' H' => ∃ a b c d e f y, σ' = [some (.ref S), some (.int M), some (.ref q), y, none] ∧ H' = upd H S (.lst [.ref q, .int a, .int b, .int c, .int d, .int e, .int f]) ∧ 0 ≤ a ∧ 0 ≤ e ∧ e < 2147483647 ∧ 0 ≤ f ∧ f < 2147483647) ?_ ?_
    · walk_at "rdA"
      refine if_dec (fun hb => ?_) (fun hb => ?_)
      · walk_at "rdA"
        refine if_dec (fun hc => ?_) (fun hc => ?_)
        · walk_at "rdA"
          refine rd_seqL (by rw [upd_ne nq]; exact hq) ?_
          walk_at "rdA"
          refine if_dec (fun hl => ?_) (fun hl => ?_)
          · obtain ⟨n, _, _, en⟩ := atI_ints h0 (by simpa using hl)
            walk_at "rdA"
            refine rd_ixL (by rw [upd_ne nq]; exact hq) en ?_
            walk_at "rdA"
            refine ⟨S, n, q, a + 1, b, 3, d, e, f', rfl, upd_same, h1, h2, h3, h4, fun d' e' f'' g1 g2 g3 g4 => ?_⟩
            rw [upd_upd]
            walk_at "rdA"
            refine if_dec (fun hn => ?_) (fun hn => ?_)
            · walk_at "rdA"
              exact ⟨_, _, _, _, _, _, _, rfl, rfl, by omega, g1, g2, g3, g4⟩
            · walk_at "rdA"
              exact ⟨_, _, _, _, _, _, _, rfl, rfl, by omega, g1, g2, g3, g4⟩
          · walk_at "rdA"
            exact ⟨_, _, _, _, _, _, _, rfl, rfl, h0, h1, h2, h3, h4⟩
        · walk_at "rdA"
          exact ⟨_, _, _, _, _, _, _, rfl, rfl, h0, h1, h2, h3, h4⟩
      · walk_at "rdA"
        exact ⟨_, _, _, _, _, _, _, rfl, rfl, h0, h1, h2, h3, h4⟩
    · rintro σ' H' ⟨a, b, c, d, e, f, y, rfl, rfl, h0, h1, h2, h3, h4⟩
      have fin : ∀ (r a b c d e f : Int), 0 ≤ r → r < M → 0 ≤ a → 0 ≤ e → e < 2147483647 → 0 ≤ f → f < 2147483647 → Q (.int r) (upd H S (.lst [.ref q, .int a, .int b, .int c, .int d, .int e, .int f])) := fun r a b c d e f r0 r1 h0 h1 h2 h3 h4 =>
        h r _ r0 (by omega) ⟨cells, a, b, c, d, e, f, nq, upd_same, by rw [upd_ne nq]; exact hq, h0, h1, h2, h3, h4⟩ (ExS.updS (S := (S, q)))
      walk_at "rdA"
      refine if_dec (fun hb => ?_) (fun hb => ?_)
      · walk_at "rdA"
        refine rd_I (wide_div (b := 200) (by omega) (by omega) (by omega) (by omega)) ?_
        walk_at "rdA"
        exact fin _ _ _ _ _ _ _ (Int.emod_nonneg _ (by omega)) (Int.emod_lt_of_pos _ (by omega)) h0 h1 h2 h3 h4
      · walk_at "rdA"
        refine ⟨S, 0, q, a, b, c, d, e, f, rfl, upd_same, h1, h2, h3, h4, fun d' e' f'' g1 g2 g3 g4 => ?_⟩
        rw [upd_upd]
        walk_at "rdA"
        exact fin _ _ _ _ _ _ _ (Int.emod_nonneg _ (by omega)) (Int.emod_lt_of_pos _ (by omega)) h0 g1 g2 g3 g4
/-! ### _law_pick -/
def spPick : Sp := fun vs H Q _ => ∃ (S : Sto), ∃ a xs, vs = [.ref S.1, .ref a] ∧ StoreOk S H ∧ At S H a (.lst xs) ∧ 0 < xs.length ∧ xs.length < 1000000 ∧ ∀ v H', v ∈ xs → StoreOk S H' → ExS S H H' → Q v H'
theorem ok_pick {k : Nat} {f : Addr} {fd : FuncData} (F : Fun K "_law_pick" "_law_pick" s_law_pick f fd) (T : Blt mg) (H_law_take : Has P w K mg base "_law_take" k ["store", "many"] spTake) : FnOk P w K mg base CX0 (k + 1) f fd ["store", "items"] spPick := by
  refine F.ok sc_law_pick (fun vs H Q E h => ?_) (fun cdv A outer s H vs Q E hr h => ?_)
  · obtain ⟨S, a, xs, rfl, _⟩ := h; rfl
  · obtain ⟨S, a, xs, rfl, hS, hA, l0, l1, h⟩ := h
    refine ⟨_, (pss_one (ps_ret (pe_ix ix_list (pv 1) (pe_callH H_law_take hr (by rfl) (pa_cons (pv 0) (pa_cons (pe_callB call_len_seq (by rfl) T.len (by decide +kernel) (pa_cons (pv 1) pa_nil)) pa_nil))) (fun _ _ => rfl)))), ?_⟩
    walk_at "rdA"
    refine rd_seqL hA.2 ?_
    walk_at "rdA"
    refine ⟨S, _, rfl, by omega, hS, fun r H' r0 r1 hS' he => ?_⟩
    obtain ⟨hb, e⟩ := atI_get (xs := xs) (i := r) r0 (by omega)
    exact rd_ixL (he _ _ hA.1 hA.2) e (h _ _ (List.getElem_mem hb) hS' he)
/-! ### _law_shuffled -/
def spShuffled : Sp := fun vs H Q _ => ∃ (S : Sto), ∃ a xs, vs = [.ref S.1, .ref a] ∧ StoreOk S H ∧ At S H a (.lst xs) ∧ xs.length < 1000000 ∧ ∀ p ys H', ys.Perm xs → H p = none → At S H' p (.lst ys) → StoreOk S H' → ExS S H H' → Q (.ref p) H'
theorem ok_shuffled {k : Nat} {f : Addr} {fd : FuncData} (F : Fun K "_law_shuffled" "_law_shuffled" s_law_shuffled f fd) (T : Blt mg) (H_law_take : Has P w K mg base "_law_take" k ["store", "many"] spTake) : FnOk P w K mg base CX0 (k + 1) f fd ["store", "items"] spShuffled := by
  refine F.ok sc_law_shuffled (fun vs H Q E h => ?_) (fun cdv A outer s H vs Q E hr h => ?_)
  · obtain ⟨S, a, xs, rfl, _⟩ := h; rfl
  · obtain ⟨S, a, xs, rfl, hS, hA, l1, h⟩ := h
    refine ⟨_, (pss_cons (ps_set (i := 2) sc_law_shuffled.nd rfl (.inl rfl) (pe_callTy call_list_of (by rfl) T.list' (by decide +kernel) (pa_cons (pv 1) pa_nil)))
 (pss_cons (ps_for PassesOwn.never rfl (pi_range1 rfl T.range (pa_cons (pe_callB call_len_seq (by rfl) T.len (by decide +kernel) (pa_cons (pv 2) pa_nil)) pa_nil)) (pg_name (i := 3) sc_law_shuffled.nd rfl (.inl rfl)) (pss_cons (ps_set (i := 4) sc_law_shuffled.nd rfl (.inl rfl) (pe_op op_add (pv 3) (pe_callH H_law_take hr (by rfl) (pa_cons (pv 0) (pa_cons (pe_op op_sub (pe_callB call_len_seq (by rfl) T.len (by decide +kernel) (pa_cons (pv 2) pa_nil)) (pv 3)) pa_nil)))))
 (pss_cons (ps_set (i := 5) sc_law_shuffled.nd rfl (.inl rfl) (pe_ix ix_list (pv 2) (pv 3) (fun _ _ => rfl)))
 (pss_cons (ps_asg (pe_ix ix_list (pv 2) (pv 4) (fun _ _ => rfl)) (pg_sub (pv 2) (pv 3) set_list))
 (pss_one (ps_asg (pv 5) (pg_sub (pv 2) (pv 4) set_list)))))))
 (pss_one (ps_ret (pv 2))))), ?_⟩
    walk_at "rdA"
    refine rd_seqL hA.2 fun p np => ?_
    walk_at "rdA"
    refine rd_seqL upd_same ?_
    walk_at "rdA"
    have pS : p ≠ S.1 := hS.ne1 np
    have pS2 : p ≠ S.2 := hS.ne2 np
    refine ⟨_, rfl, by omega, by omega, for_rng (fun i σ H' => ∃ ys y3 y4 y5, σ = [some (.ref S.1), some (.ref a), some (.ref p), y3, y4, y5] ∧ ys.Perm xs ∧ H' p = some (.lst ys) ∧ StoreOk S H' ∧ ExS S H H') ⟨xs, _, _, _, rfl, .refl _, upd_same, hS.new np, .new np⟩ ?_ ?_⟩
    · rintro i σ H' hi ⟨ys, y3, y4, y5, rfl, hp, eH, hS', hE⟩
      have hl : ys.length = xs.length := hp.length_eq
      have hi' : i < xs.length := by simpa using hi
      walk_at "rdA"
      refine rd_seqL eH ?_
      walk_at "rdA"
      refine ⟨S, _, rfl, by omega, hS', fun r H2 r0 r1 hS2 hE2 => ?_⟩
      have eH2 := hE2 _ _ pS eH
      walk_at "rdA"
      obtain ⟨hb, e⟩ := atI_get (xs := ys) (i := (i : Int)) (by omega) (by omega)
      refine rd_ixL eH2 e ?_
      walk_at "rdA"
      obtain ⟨hb2, e2⟩ := atI_get (xs := ys) (i := (i : Int) + r) (by omega) (by omega)
      refine rd_ixL eH2 e2 ?_
      walk_at "rdA"
      refine rd_setL eH2 (ixN_nat (by omega) (by omega)) ?_
      walk_at "rdA"
      refine rd_setL upd_same (ixN_nat (by omega) (by rw [List.length_set]; omega)) ?_
      rw [upd_upd]
      walk_at "rdA"
      refine ⟨_, _, _, _, rfl, (swap_perm hb hb2).trans hp, upd_same, store_upd hS2 pS pS2, (hE.trans hE2).mut np⟩
    · rintro σ H' ⟨ys, y3, y4, y5, rfl, hp, eH, hS', hE⟩
      walk_at "rdA"
      exact h p ys H' hp np ⟨pS, eH⟩ hS' hE
/-! ### _law_unlike -/
def spUnlike : Sp := fun vs H Q _ => ∃ a, ∃ ns : List Int, vs = [.ref a] ∧ H a = some (.lst (ns.map V.int)) ∧ ns.length < 100000 ∧ ∀ p, ∀ ms : List Int, ∀ H', (∀ m ∈ ms, m ∈ ns) → ms.length ≤ ns.length → H p = none → H' p = some (.lst (ms.map V.int)) → Same H H' → Q (.ref p) H'
theorem ok_unlike {k : Nat} {f : Addr} {fd : FuncData} (F : Fun K "_law_unlike" "_law_unlike" s_law_unlike f fd) (T : Blt mg) : FnOk P w K mg base CX0 (k + 1) f fd ["items"] spUnlike := by
  refine F.ok sc_law_unlike (fun vs H Q E h => ?_) (fun cdv A outer s H vs Q E hr h => ?_)
  · obtain ⟨a, ns, rfl, _⟩ := h; rfl
  · obtain ⟨a, ns, rfl, hA, l1, h⟩ := h
    refine ⟨_, (pss_cons (ps_set (i := 1) sc_law_unlike.nd rfl (.inl rfl) (pe_lst pa_nil))
 (pss_cons (ps_for PassesOwn.never rfl (pi_list (pv 0)) (pg_name (i := 2) sc_law_unlike.nd rfl (.inl rfl)) (pss_one (ps_if (pt_cmpR op_notIn_seq (pv 2) (pv 1) (by rfl)) (pss_one (ps_expr (pe_bm PySem.F.plainAttrs_list PySem.F.slot_list_append PySem.F.type_list_append mt_append (pv 1) (pa_cons (pv 2) pa_nil)))) pss_nil)))
 (pss_one (ps_ret (pv 1))))), ?_⟩
    walk_at "rdA"
    refine ⟨Nat.zero_le _, fun p np => ?_⟩
    walk_at "rdA"
    refine ⟨a, rfl, ⟨_, sl_of (same_new np _ _ hA)⟩, for_lst (xs := ns.map V.int) (fun i σ H' => ∃ ms : List Int, ∃ y2, σ = [some (.ref a), some (.ref p), y2] ∧ (∀ m ∈ ms, m ∈ ns) ∧ ms.length ≤ i ∧ H' p = some (.lst (ms.map V.int)) ∧ Same H H') ⟨[], _, rfl, by simp, by simp, upd_same, same_new np⟩ ?_ ?_ ?_⟩
    · rintro i σ H' ⟨ms, y2, rfl, _, _, _, hE⟩
      exact hE _ _ hA
    · rintro i x σ H' hi ⟨ms, y2, rfl, hm, hl, eH, hE⟩
      obtain ⟨n, hn, rfl⟩ := get_map hi
      have hil : i < ns.length := by
        have := (List.getElem?_eq_some_iff.mp hn).1; exact this
      walk_at "rdA"
      refine ⟨p, _, rfl, .inl (sl_of eH), rfl, flat_ints _, ?_⟩
      walk_at "rdA"
      refine if_bool (fun hb => ?_) (fun hb => ?_)
      · walk_at "rdA"
        refine ⟨.inl ⟨rfl, _, .inl (.inl eH)⟩, ?_⟩
        walk_at "rdA"
        refine ⟨p, _, _, rfl, rfl, eH, ?_, ?_⟩
        · rw [List.length_map]; exact Nat.lt_of_lt_of_le (by omega : ms.length < 100000) (by decide)
        · walk_at "rdA"
          refine ⟨ms ++ [n], _, rfl, ?_, ?_, ?_, ?_⟩
          · intro m hm'
            rcases List.mem_append.mp hm' with h1 | h1
            · exact hm m h1
            · rw [List.mem_singleton.mp h1]; exact List.mem_of_getElem? hn
          · rw [List.length_append]; simp; omega
          · rw [upd_same, List.map_append]; rfl
          · exact same_mut hE np
      · walk_at "rdA"
        exact ⟨ms, _, rfl, hm, by omega, eH, hE⟩
    · rintro σ H' ⟨ms, y2, rfl, hm, hl, eH, hE⟩
      walk_at "rdA"
      exact h p ms H' hm (by simpa using hl) np eH hE
end

abbrev s_law_number : Stmt := topS 27
theorem sc_law_number : FnScope ["store", "kind"] ["store"] (defScope s_law_number) := ⟨rfl, rfl, rfl, by decide +kernel, rfl, by decide +kernel, by decide +kernel⟩
abbrev s_law_clamped : Stmt := topS 28
theorem sc_law_clamped : FnScope ["number"] ["number"] (defScope s_law_clamped) := ⟨rfl, rfl, rfl, by decide +kernel, rfl, by decide +kernel, by decide +kernel⟩
abbrev s_law_pool : Stmt := topS 29
theorem sc_law_pool : FnScope ["store", "many", "kind", "ends", "start", "step", "numbers", "k"] ["store"] (defScope s_law_pool) := ⟨rfl, rfl, rfl, by decide +kernel, rfl, by decide +kernel, by decide +kernel⟩
local macro_rules | `(tactic| walk_at "side") => `(tactic| first | assumption | exact Z.sl_of (by assumption) | exact upd_same | (show (0 : Int) < _; omega) | exact Or.inl ⟨by omega, by omega⟩ | exact Or.inr ⟨by omega, by omega⟩)
local macro_rules | `(tactic| walk_at "tyof") => `(tactic| first | exact TyOf.int _ | exact TyOf.bl _ | exact TyOf.non | exact TyOf.str _ | (apply TyOf.lst; assumption) | (apply TyOf.tup; assumption))
local macro_rules | `(tactic| walk_at "rd1") => `(tactic| first
  | with_reducible first
    | refine rd_seq ?_ | refine rd_asg ?_ | refine rd_c ?_ | refine rd_op ?_ | refine rd_cons ?_ | refine rd_nil ?_ | refine rd_cb ?_ | refine rd_call ?_ | refine rd_I0 ?_ | refine rd_eqI ?_ | refine rd_bx ?_ | refine rd_nn ?_ | refine rd_int1 ?_ | refine rd_max2 ?_ | refine rd_min2 ?_
    | refine rd_ret ?_ | refine rd_ifS ?_ | refine rd_test ?_ | refine rd_tB ?_ | refine rd_not ?_ | refine rd_and ?_ | refine rd_or ?_ | refine rd_un ?_ | refine rd_U ?_ | refine rd_next ?_ | refine rd_drop ?_ | refine rd_andV ?_ | refine rd_orV ?_ | refine rd_notV ?_ | refine rd_if ?_ | refine rd_neI ?_
    | refine rd_lst ?_ | refine rd_tup ?_ | refine rd_sl ?_ | refine rd_bm ?_ | refine rd_chain ?_ | refine rd_asgS ?_ | refine iteT ?_ | refine iteF ?_ | refine if_nn ?_ | refine if_nf ?_ | refine if_nt ?_ | refine if_nnN ?_ | refine if_n_int ?_ | refine if_n_bl ?_ | refine if_n_str ?_ | refine if_n_ref ?_ | refine if_nN_int ?_ | refine if_nN_bl ?_ | refine if_nN_str ?_ | refine if_nN_ref ?_ | refine rd_eqB ?_ | refine rd_eqS ?_ | refine rd_neB ?_ | refine rd_part ?_ | refine rd_nopart ?_ | refine rd_for ?_ | refine rd_iRng1 ?_ | refine rd_iList ?_ | refine rd_iTup ?_ | refine rd_lc ?_ | refine rd_callS ?_ | refine rd_callKS ?_ | refine rd_mkO ?_ | refine rd_ckw ?_ | refine rd_xf ?_
    | refine rd_p9 ?_ | refine rd_p11 ?_ | refine rd_p12 ?_ | refine rd_p13 ?_ | refine rd_p18 ?_ | refine rd_p30 ?_ | refine rd_p40 ?_
  | ((with_reducible refine rd_var (v := ?v) ?hv ?_); (case hv => exact rfl))
  | ((with_reducible refine rd_setS (j := ?j) ?he ?_); (case he => exact rfl))
  | ((with_reducible refine rd_isi (a := ?a) (b := ?b) ?ty ?k ?_); (case ty => first | exact TyOf.int _ | exact TyOf.bl _ | exact TyOf.non | exact TyOf.str _); (case k => with_reducible first | exact kb_int_int | exact kb_int_bool | exact kb_int_str | exact kb_int_dict | exact kb_int_list | exact kb_int_tuple | exact kb_bool_int | exact kb_bool_bool | exact kb_bool_str | exact kb_bool_dict | exact kb_bool_list | exact kb_bool_tuple | exact kb_NoneType_int | exact kb_NoneType_bool | exact kb_NoneType_str | exact kb_NoneType_dict | exact kb_NoneType_list | exact kb_NoneType_tuple | exact kb_str_int | exact kb_str_bool | exact kb_str_str | exact kb_str_dict | exact kb_str_list | exact kb_str_tuple))
  | ((with_reducible refine rd_isiL (b := ?b) (by assumption) ?k ?_); (case k => with_reducible first | exact kb_list_int | exact kb_list_bool | exact kb_list_str | exact kb_list_dict | exact kb_list_list | exact kb_list_tuple))
  | ((with_reducible refine rd_isiT (b := ?b) (by assumption) ?k ?_); (case k => with_reducible first | exact kb_tuple_int | exact kb_tuple_bool | exact kb_tuple_str | exact kb_tuple_dict | exact kb_tuple_list | exact kb_tuple_tuple))
  | ((with_reducible refine rd_I ?hc ?_); (case hc => walk_at "side"))
  | ((with_reducible refine rd_ixL (xs := ?xs) (v := ?v) ?hh ?he ?_); (case hh => first | exact upd_same | assumption); (case he => exact rfl)))
local macro_rules | `(tactic| walk_at "rd") => `(tactic| repeat walk_at "rd1")

section
variable {P : Program} {w : World} {K : PySem.W.Frag} {mg : Str → Option Value} {base : Heap}
/-! ### _law_number -/
def spNumber : Sp := fun vs H Q _ => ∃ S : Sto, vs = [.ref S.1] ∧ StoreOk S H ∧ ∀ n H', InR n → StoreOk S H' → ExS S H H' → Q (.int n) H'
theorem ok_number {k : Nat} {f : Addr} {fd : FuncData} (F : Fun K "_law_number" "_law_number" s_law_number f fd) (T : Blt mg) (H_law_take : Has P w K mg base "_law_take" k ["store", "many"] spTake) (H_law_pick : Has P w K mg base "_law_pick" k ["store", "items"] spPick) : FnOk P w K mg base CX0 (k + 1) f fd ["store"] spNumber := by
  refine F.ok sc_law_number (fun vs H Q E h => ?_) (fun cdv A outer s H vs Q E hr h => ?_)
  · obtain ⟨S, rfl, _⟩ := h; rfl
  · obtain ⟨S, rfl, hS, h⟩ := h
    refine ⟨_, (pss_cons (ps_set (i := 1) sc_law_number.nd rfl (.inl rfl) (pe_callH H_law_take hr (by rfl) (pa_cons (pv 0) (pa_cons pe_int pa_nil))))
 (pss_cons (ps_if (pt_cmpR op_eq (pv 1) pe_int (nomark _)) (pss_one (ps_ret (pe_op op_sub (pe_callH H_law_take hr (by rfl) (pa_cons (pv 0) (pa_cons pe_int pa_nil))) pe_int))) pss_nil)
 (pss_cons (ps_if (pt_cmpR op_eq (pv 1) pe_int (nomark _)) (pss_one (ps_ret (pe_callH H_law_pick hr (by rfl) (pa_cons (pv 0) (pa_cons (pe_lst (pa_cons pe_int (pa_cons pe_int (pa_cons (pe_un un_neg pe_int) (pa_cons (pe_op op_pow pe_int pe_int) (pa_cons (pe_un un_neg (pe_op op_pow pe_int pe_int)) (pa_cons (pe_op op_sub (pe_op op_pow pe_int pe_int) pe_int) (pa_cons (pe_op op_sub pe_int (pe_op op_pow pe_int pe_int)) (pa_cons pe_int pa_nil))))))))) pa_nil))))) pss_nil)
 (pss_one (ps_ret (pe_op op_sub (pe_callH H_law_take hr (by rfl) (pa_cons (pv 0) (pa_cons (pe_op op_add (pe_op op_mul pe_int (pe_op op_pow pe_int pe_int)) pe_int) pa_nil))) (pe_op op_pow pe_int pe_int))))))), ?_⟩
    walk_at "rd"
    refine ⟨S, 3, rfl, by omega, hS, fun r H1 r0 r1 hS1 e1 => ?_⟩
    walk_at "rd"
    refine if_dec (fun hk => ?_) (fun hk => ?_)
    · walk_at "rd"
      refine ⟨S, 19, rfl, by omega, hS1, fun r2 H2 _ _ hS2 e2 => ?_⟩
      walk_at "rd"
      exact h _ _ ⟨by omega, by omega⟩ hS2 (e1.trans e2)
    · walk_at "rd"
      refine if_dec (fun hk => ?_) (fun hk => ?_)
      · walk_at "rd"
        refine ⟨sz (by simp), fun p np => ?_⟩
        walk_at "rd"
        refine ⟨S, p, _, rfl, hS1.new np, .new hS1 np, by simp, by simp, fun v H2 hv hS2 e2 => ?_⟩
        have e3 := e1.trans ((ExS.new np).trans e2)
        simp only [List.mem_cons, List.not_mem_nil, or_false] at hv
        rcases hv with rfl | rfl | rfl | rfl | rfl | rfl | rfl | rfl <;> exact h _ _ ⟨by omega, by omega⟩ hS2 e3
      · walk_at "rd"
        refine ⟨S, _, rfl, by omega, hS1, fun r2 H2 _ _ hS2 e2 => ?_⟩
        walk_at "rd"
        exact h _ _ ⟨by omega, by omega⟩ hS2 (e1.trans e2)
/-! ### _law_clamped -/
def spClamped : Sp := fun vs H Q _ => ∃ n, vs = [.int n] ∧ ∀ m, InR m → (InR n → m = n) → Q (.int m) H
theorem ok_clamped {k : Nat} {f : Addr} {fd : FuncData} (F : Fun K "_law_clamped" "_law_clamped" s_law_clamped f fd) (T : Blt mg) : FnOk P w K mg base CX0 (k + 1) f fd ["number"] spClamped := by
  refine F.ok sc_law_clamped (fun vs H Q E h => ?_) (fun cdv A outer s H vs Q E hr h => ?_)
  · obtain ⟨n, rfl, _⟩ := h; rfl
  · obtain ⟨n, rfl, h⟩ := h
    refine ⟨_, (pss_one (ps_ret (pe_callB (call_max2 rfl) (by rfl) T.max (by decide +kernel) (pa_cons (pe_un un_neg (pe_op op_pow pe_int pe_int)) (pa_cons (pe_callB (call_min2 rfl) (by rfl) T.min (by decide +kernel) (pa_cons (pe_op op_pow pe_int pe_int) (pa_cons (pv 0) pa_nil))) pa_nil))))), ?_⟩
    walk_at "rd"
    refine h _ ?_ (fun hn => ?_)
    · unfold InR; split <;> split <;> omega
    · unfold InR at hn; split <;> split <;> omega
/-! ### _law_pool -/
def spPool : Sp := fun vs H Q _ => ∃ S : Sto, vs = [.ref S.1] ∧ StoreOk S H ∧ ∀ p, ∀ ns : List Int, ∀ H', (∀ n ∈ ns, InR n) → 2 ≤ ns.length → ns.length ≤ 6 → At S H' p (.lst (ns.map V.int)) → StoreOk S H' → ExS S H H' → Q (.ref p) H'
theorem ok_pool {k : Nat} {f : Addr} {fd : FuncData} (F : Fun K "_law_pool" "_law_pool" s_law_pool f fd) (T : Blt mg) (H_law_take : Has P w K mg base "_law_take" k ["store", "many"] spTake) (H_law_shuffled : Has P w K mg base "_law_shuffled" k ["store", "items"] spShuffled) : FnOk P w K mg base CX0 (k + 1) f fd ["store"] spPool := by
  refine F.ok sc_law_pool (fun vs H Q E h => ?_) (fun cdv A outer s H vs Q E hr h => ?_)
  · obtain ⟨S, rfl, _⟩ := h; rfl
  · obtain ⟨S, rfl, hS, h⟩ := h
    refine ⟨_, (pss_cons (ps_set (i := 1) sc_law_pool.nd rfl (.inl rfl) (pe_op op_add pe_int (pe_callH H_law_take hr (by rfl) (pa_cons (pv 0) (pa_cons pe_int pa_nil)))))
 (pss_cons (ps_set (i := 2) sc_law_pool.nd rfl (.inl rfl) (pe_callH H_law_take hr (by rfl) (pa_cons (pv 0) (pa_cons pe_int pa_nil))))
 (pss_cons (ps_if (pt_cmpR op_eq (pv 2) pe_int (nomark _)) (pss_cons (ps_set (i := 3) sc_law_pool.nd rfl (.inl rfl) (pe_lst (pa_cons (pe_un un_neg (pe_op op_pow pe_int pe_int)) (pa_cons (pe_op op_sub pe_int (pe_op op_pow pe_int pe_int)) (pa_cons (pe_un un_neg pe_int) (pa_cons pe_int (pa_cons (pe_op op_sub (pe_op op_pow pe_int pe_int) pe_int) (pa_cons (pe_op op_pow pe_int pe_int) pa_nil))))))))
 (pss_one (ps_ret (pe_callB cr_sortedI (by rfl) T.sorted (by decide +kernel) (pa_cons (pe_slice sl_list (pe_callH H_law_shuffled hr (by rfl) (pa_cons (pv 0) (pa_cons (pv 3) pa_nil))) po_none (po_some (pv 1))) pa_nil))))) pss_nil)
 (pss_cons (ps_set (i := 4) sc_law_pool.nd rfl (.inl rfl) (pe_op op_sub (pe_callH H_law_take hr (by rfl) (pa_cons (pv 0) (pa_cons pe_int pa_nil))) pe_int))
 (pss_cons (ps_set (i := 5) sc_law_pool.nd rfl (.inl rfl) pe_int)
 (C8.pss_cut (ps_if (pt_cmpR op_eq (pv 2) pe_int (nomark _)) (pss_cons (ps_set (i := 4) sc_law_pool.nd rfl (.inl rfl) (pe_op op_sub (pe_callH H_law_take hr (by rfl) (pa_cons (pv 0) (pa_cons pe_int pa_nil))) pe_int))
 (pss_one (ps_set (i := 5) sc_law_pool.nd rfl (.inl rfl) pe_int))) pss_nil)
 (C8.pss_cut (ps_if (pt_cmpR op_eq (pv 2) pe_int (nomark _)) (pss_cons (ps_set (i := 4) sc_law_pool.nd rfl (.inl rfl) (pe_op op_sub (pe_callH H_law_take hr (by rfl) (pa_cons (pv 0) (pa_cons (pe_op op_pow pe_int pe_int) pa_nil))) (pe_op op_pow pe_int pe_int)))
 (pss_one (ps_set (i := 5) sc_law_pool.nd rfl (.inl rfl) (pe_op op_mul pe_int (pe_op op_pow pe_int pe_int))))) pss_nil)
 (pss_cons (ps_set (i := 6) sc_law_pool.nd rfl (.inl rfl) (pe_lst (pa_cons (pv 4) pa_nil)))
 (pss_cons (ps_for PassesOwn.never rfl (pi_range1 rfl T.range (pa_cons (pe_op op_sub (pv 1) pe_int) pa_nil)) (pg_name (i := 7) sc_law_pool.nd rfl (.inl rfl)) (pss_one (ps_expr (pe_bm PySem.F.plainAttrs_list PySem.F.slot_list_append PySem.F.type_list_append mt_append (pv 6) (pa_cons (pe_op op_add (pe_op op_add (pe_ix ix_list (pv 6) (pv 7) (fun _ _ => rfl)) pe_int) (pe_callH H_law_take hr (by rfl) (pa_cons (pv 0) (pa_cons (pv 5) pa_nil)))) pa_nil)))))
 (pss_one (ps_ret (pv 6)))))))))))), ?_⟩
    walk_at "rd"
    refine ⟨S, 5, rfl, by omega, hS, fun m H1 m0 m1 hS1 e1 => ?_⟩
    walk_at "rd"
    refine ⟨S, 4, rfl, by omega, hS1, fun kd H2 k0 k1 hS2 e2 => ?_⟩
    have e2 := e1.trans e2
    walk_at "rd"
    refine if_dec (fun hk => ?_) (fun hk => ?_)
    · walk_at "rd"
      refine ⟨sz (by simp), fun p np => ?_⟩
      walk_at "rd"
      refine ⟨S, p, _, rfl, hS2.new np, .new hS2 np, by simp, fun p2 ys H3 hp _ hA3 hS3 e3 => ?_⟩
      walk_at "rd"
      refine ⟨_, rfl, p2, ys, rfl, sl_of hA3.2, fun p3 np3 => ?_⟩
      walk_at "rd"
      obtain ⟨M, hM⟩ : ∃ M : Nat, (M : Int) = 2 + m := ⟨(2 + m).toNat, by omega⟩
      obtain ⟨ms, em, hm⟩ := ints_of (ns := [-1000000000000, 1 - 1000000000000, -1, 0, 1000000000000 - 1, 1000000000000]) (ys := ys.take M) (fun y hy => by
        have := hp.mem_iff.mp (List.mem_of_mem_take hy)
        simpa using this)
      have l6 : ys.length = 6 := by rw [hp.length_eq]; rfl
      have lm : ms.length = M := by
        have := congrArg List.length em
        rw [List.length_take, List.length_map, l6] at this
        omega
      rw [← hM, cut_to, em]
      refine ⟨p3, ms, rfl, sl_of upd_same, fun ns' p4 hp4 _ np4 => ?_⟩
      have hS4 := (hS3.new (o := .lst (ms.map V.int)) np3)
      refine h p4 ns' _ (fun n hn => ?_) (by rw [hp4.length_eq]; omega) (by rw [hp4.length_eq]; omega) (.new hS4 np4) (hS4.new np4) (((e2.trans (.new np)).trans e3).trans ((ExS.new np3).trans (.new np4)))
      have := hm n (hp4.mem_iff.mp hn)
      simp only [List.mem_cons, List.not_mem_nil, or_false] at this
      unfold InR
      omega
    · walk_at "rd"
      refine ⟨S, 5, rfl, by omega, hS2, fun s0 H3 s00 s01 hS3 e3 => ?_⟩
      have e3 := e2.trans e3
      walk_at "rd"
      refine rd_cut (fun σ' H' => ∃ s0 st : Int, σ' = [some (.ref S.1), some (.int (2 + m)), some (.int kd), none, some (.int s0), some (.int st), none, none] ∧ -1000000000000 ≤ s0 ∧ 1 ≤ st ∧ st ≤ 300000000000 ∧ s0 + 5 * st ≤ 1000000000000 ∧ StoreOk S H' ∧ ExS S H H') ?_ ?_
      · walk_at "rd"
        refine if_dec (fun hk => ?_) (fun hk => ?_)
        · walk_at "rd"
          refine ⟨S, 100, rfl, by omega, hS3, fun s1 H4 s10 s11 hS4 e4 => ?_⟩
          walk_at "rd"
          exact ⟨_, _, rfl, by omega, by omega, by omega, by omega, hS4, e3.trans e4⟩
        · walk_at "rd"
          exact ⟨_, _, rfl, by omega, by omega, by omega, by omega, hS3, e3⟩
      · rintro σ' H4 ⟨s0, st, rfl, a0, a1, a2, a3, hS4, e4⟩
        refine rd_cut (fun σ' H' => ∃ s0 st : Int, σ' = [some (.ref S.1), some (.int (2 + m)), some (.int kd), none, some (.int s0), some (.int st), none, none] ∧ -1000000000000 ≤ s0 ∧ 1 ≤ st ∧ st ≤ 300000000000 ∧ s0 + 5 * st ≤ 1000000000000 ∧ StoreOk S H' ∧ ExS S H H') ?_ ?_
        · walk_at "rd"
          refine if_dec (fun hk => ?_) (fun hk => ?_)
          · walk_at "rd"
            refine ⟨S, _, rfl, by omega, hS4, fun s1 H5 s10 s11 hS5 e5 => ?_⟩
            walk_at "rd"
            exact ⟨_, _, rfl, by omega, by omega, by omega, by omega, hS5, e4.trans e5⟩
          · walk_at "rd"
            exact ⟨_, _, rfl, a0, a1, a2, a3, hS4, e4⟩
        · rintro σ' H5 ⟨s0, st, rfl, a0, a1, a2, a3, hS5, e5⟩
          walk_at "rd"
          refine ⟨sz (by simp), fun p np => ?_⟩
          have pS := hS5.ne1 np
          have pS2 := hS5.ne2 np
          walk_at "rd"
          refine ⟨_, rfl, by omega, by omega, for_rng (fun i σ H' => ∃ ms : List Int, ∃ y, σ = [some (.ref S.1), some (.int (2 + m)), some (.int kd), none, some (.int s0), some (.int st), some (.ref p), y] ∧ ms.length = i + 1 ∧ (∀ n ∈ ms, -1000000000000 ≤ n ∧ n ≤ s0 + i * st) ∧ H' p = some (.lst (ms.map V.int)) ∧ StoreOk S H' ∧ ExS S H5 H') ⟨[s0], _, rfl, rfl, by simp; omega, upd_same, hS5.new np, .new np⟩ ?_ ?_⟩
          · rintro i σ H6 hi ⟨ms, y, rfl, hl, hb, eH, hS6, e6⟩
            walk_at "rd"
            obtain ⟨n, hn, _, en⟩ := atI_ints (xs := ms) (i := (i : Int)) (by omega) (by omega)
            refine ⟨.inl ⟨rfl, _, .inl (.inl eH)⟩, ?_⟩
            walk_at "rd"
            refine rd_ixL eH en ?_
            walk_at "rd"
            refine ⟨S, _, rfl, by omega, hS6, fun r H7 r0 r1 hS7 e7 => ?_⟩
            walk_at "rd"
            have eH7 := e7 _ _ pS eH
            have hn' := hb n hn
            refine ⟨p, _, _, rfl, rfl, eH7, ?_, ?_⟩
            · rw [List.length_map]; exact Nat.lt_of_lt_of_le (by omega : ms.length < 100000) (by decide)
            · walk_at "rd"
              have em : ((i + 1 : Nat) : Int) * st = i * st + st := by rw [Int.natCast_add, Int.add_mul]; simp
              have e0 : 0 ≤ (i : Int) * st := Int.mul_nonneg (by omega) (by omega)
              refine ⟨ms ++ [n + 1 + r], _, rfl, by rw [List.length_append, hl]; rfl, ?_, ?_, store_upd hS7 pS pS2, (e6.trans e7).mut np⟩
              · intro x hx
                rcases List.mem_append.mp hx with h1 | h1
                · have := hb x h1; omega
                · have := List.mem_singleton.mp h1; omega
              · rw [upd_same, List.map_append]; rfl
          · rintro σ H6 ⟨ms, y, rfl, hl, hb, eH, hS6, e6⟩
            walk_at "rd"
            have e7 : ((2 + m - 1).toNat : Int) * st ≤ 5 * st := Int.mul_le_mul_of_nonneg_right (by omega) (by omega)
            exact h p ms H6 (fun n hn => by have := hb n hn; exact ⟨by omega, by omega⟩) (by omega) (by omega) ⟨pS, eH⟩ hS6 (e5.trans e6)
end

abbrev s_law_near : Stmt := topS 30
theorem sc_law_near : FnScope ["store", "pool"] ["store", "pool"] (defScope s_law_near) := ⟨rfl, rfl, rfl, by decide +kernel, rfl, by decide +kernel, by decide +kernel⟩
abbrev s_law_bad_number : Stmt := topS 31
theorem sc_law_bad_number : FnScope ["store", "keyed", "far", "kind"] ["store", "keyed"] (defScope s_law_bad_number) := ⟨rfl, rfl, rfl, by decide +kernel, rfl, by decide +kernel, by decide +kernel⟩
abbrev s_law_is_number : Stmt := topS 33
theorem sc_law_is_number : FnScope ["value"] ["value"] (defScope s_law_is_number) := ⟨rfl, rfl, rfl, by decide +kernel, rfl, by decide +kernel, by decide +kernel⟩
local macro_rules | `(tactic| walk_at "side") => `(tactic| first | assumption | exact Z.sl_of (by assumption) | exact upd_same | (show (0 : Int) < _; omega) | exact Or.inl ⟨by omega, by omega⟩ | exact Or.inr ⟨by omega, by omega⟩)
local macro_rules | `(tactic| walk_at "tyof") => `(tactic| first | exact TyOf.int _ | exact TyOf.bl _ | exact TyOf.non | exact TyOf.str _ | (apply TyOf.lst; assumption) | (apply TyOf.tup; assumption))
local macro_rules | `(tactic| walk_at "rd1") => `(tactic| first
  | with_reducible first
    | refine rd_seq ?_ | refine rd_asg ?_ | refine rd_c ?_ | refine rd_op ?_ | refine rd_cons ?_ | refine rd_nil ?_ | refine rd_cb ?_ | refine rd_call ?_ | refine rd_I0 ?_ | refine rd_eqI ?_ | refine rd_bx ?_ | refine rd_nn ?_ | refine rd_int1 ?_ | refine rd_max2 ?_ | refine rd_min2 ?_
    | refine rd_ret ?_ | refine rd_ifS ?_ | refine rd_test ?_ | refine rd_tB ?_ | refine rd_not ?_ | refine rd_and ?_ | refine rd_or ?_ | refine rd_un ?_ | refine rd_U ?_ | refine rd_next ?_ | refine rd_drop ?_ | refine rd_andV ?_ | refine rd_orV ?_ | refine rd_notV ?_ | refine rd_if ?_ | refine rd_neI ?_
    | refine rd_lst ?_ | refine rd_tup ?_ | refine rd_sl ?_ | refine rd_bm ?_ | refine rd_chain ?_ | refine rd_asgS ?_ | refine iteT ?_ | refine iteF ?_ | refine if_nn ?_ | refine if_nf ?_ | refine if_nt ?_ | refine if_nnN ?_ | refine if_n_int ?_ | refine if_n_bl ?_ | refine if_n_str ?_ | refine if_n_ref ?_ | refine if_nN_int ?_ | refine if_nN_bl ?_ | refine if_nN_str ?_ | refine if_nN_ref ?_ | refine rd_eqB ?_ | refine rd_eqS ?_ | refine rd_neB ?_ | refine rd_part ?_ | refine rd_nopart ?_ | refine rd_for ?_ | refine rd_iRng1 ?_ | refine rd_iList ?_ | refine rd_iTup ?_ | refine rd_lc ?_ | refine rd_callS ?_ | refine rd_callKS ?_ | refine rd_mkO ?_ | refine rd_ckw ?_ | refine rd_xf ?_
    | refine rd_p9 ?_ | refine rd_p11 ?_ | refine rd_p12 ?_ | refine rd_p13 ?_ | refine rd_p18 ?_ | refine rd_p30 ?_ | refine rd_p40 ?_
  | ((with_reducible refine rd_var (v := ?v) ?hv ?_); (case hv => exact rfl))
  | ((with_reducible refine rd_setS (j := ?j) ?he ?_); (case he => exact rfl))
  | ((with_reducible refine rd_isi (a := ?a) (b := ?b) ?ty ?k ?_); (case ty => first | exact TyOf.int _ | exact TyOf.bl _ | exact TyOf.non | exact TyOf.str _); (case k => with_reducible first | exact kb_int_int | exact kb_int_bool | exact kb_int_str | exact kb_int_dict | exact kb_int_list | exact kb_int_tuple | exact kb_bool_int | exact kb_bool_bool | exact kb_bool_str | exact kb_bool_dict | exact kb_bool_list | exact kb_bool_tuple | exact kb_NoneType_int | exact kb_NoneType_bool | exact kb_NoneType_str | exact kb_NoneType_dict | exact kb_NoneType_list | exact kb_NoneType_tuple | exact kb_str_int | exact kb_str_bool | exact kb_str_str | exact kb_str_dict | exact kb_str_list | exact kb_str_tuple))
  | ((with_reducible refine rd_isiL (b := ?b) (by assumption) ?k ?_); (case k => with_reducible first | exact kb_list_int | exact kb_list_bool | exact kb_list_str | exact kb_list_dict | exact kb_list_list | exact kb_list_tuple))
  | ((with_reducible refine rd_isiT (b := ?b) (by assumption) ?k ?_); (case k => with_reducible first | exact kb_tuple_int | exact kb_tuple_bool | exact kb_tuple_str | exact kb_tuple_dict | exact kb_tuple_list | exact kb_tuple_tuple))
  | ((with_reducible refine rd_I ?hc ?_); (case hc => walk_at "side"))
  | ((with_reducible refine rd_ixL (xs := ?xs) (v := ?v) ?hh ?he ?_); (case hh => first | exact upd_same | assumption); (case he => exact rfl)))
local macro_rules | `(tactic| walk_at "rd") => `(tactic| repeat walk_at "rd1")

section
variable {P : Program} {w : World} {K : PySem.W.Frag} {mg : Str → Option Value} {base : Heap}
/-! ### _law_near -/
def spNear : Sp := fun vs H Q _ => ∃ S : Sto, ∃ p, ∃ ns : List Int, vs = [.ref S.1, .ref p] ∧ StoreOk S H ∧ At S H p (.lst (ns.map V.int)) ∧ 0 < ns.length ∧ ns.length < 1000 ∧ ∀ n H', InR n → StoreOk S H' → ExS S H H' → Q (.int n) H'
theorem ok_near {k : Nat} {f : Addr} {fd : FuncData} (F : Fun K "_law_near" "_law_near" s_law_near f fd) (T : Blt mg) (H_law_take : Has P w K mg base "_law_take" k ["store", "many"] spTake) (H_law_pick : Has P w K mg base "_law_pick" k ["store", "items"] spPick)
    (H_law_clamped : Has P w K mg base "_law_clamped" k ["number"] spClamped) : FnOk P w K mg base CX0 (k + 1) f fd ["store", "pool"] spNear := by
  refine F.ok sc_law_near (fun vs H Q E h => ?_) (fun cdv A outer s H vs Q E hr h => ?_)
  · obtain ⟨S, p, ns, rfl, _⟩ := h; rfl
  · obtain ⟨S, p, ns, rfl, hS, hA, l0, l1, h⟩ := h
    refine ⟨_, (pss_one (ps_ret (pe_callH H_law_clamped hr (by rfl) (pa_cons (pe_op op_add (pe_callH H_law_pick hr (by rfl) (pa_cons (pv 0) (pa_cons (pv 1) pa_nil))) (pe_ix ix_list (pe_lst (pa_cons pe_int (pa_cons pe_int (pa_cons pe_int (pa_cons (pe_un un_neg pe_int) pa_nil))))) (pe_callH H_law_take hr (by rfl) (pa_cons (pv 0) (pa_cons pe_int pa_nil))) (fun _ _ => rfl))) pa_nil)))), ?_⟩
    walk_at "rd"
    refine ⟨S, p, _, rfl, hS, hA, by simpa using l0, by rw [List.length_map]; omega, fun v H1 hv hS1 e1 => ?_⟩
    obtain ⟨n, hn, rfl⟩ := List.mem_map.mp hv
    walk_at "rd"
    refine ⟨sz (by simp), fun q nq => ?_⟩
    walk_at "rd"
    refine ⟨S, 4, rfl, by omega, hS1.new nq, fun r H2 r0 r1 hS2 e2 => ?_⟩
    have hq := e2 _ _ (hS1.ne1 nq) upd_same
    have e3 := e1.trans ((ExS.new nq).trans e2)
    obtain ⟨hb, en⟩ := atI_get (xs := [V.int 0, .int 0, .int 1, .int (-1)]) (i := r) r0 (by simp; omega)
    refine rd_ixL hq en ?_
    obtain ⟨d, hd⟩ : ∃ d, [V.int 0, .int 0, .int 1, .int (-1)][r.toNat] = .int d := by
      have : r.toNat = 0 ∨ r.toNat = 1 ∨ r.toNat = 2 ∨ r.toNat = 3 := by omega
      rcases this with e | e | e | e <;> simp only [e] <;> exact ⟨_, rfl⟩
    rw [hd]
    walk_at "rd"
    refine ⟨_, rfl, fun m hm _ => ?_⟩
    exact h m H2 hm hS2 e3
/-! ### _law_bad_number -/
def spBadNum : Sp := fun vs H Q _ => ∃ S : Sto, ∃ kd, vs = [.ref S.1, .bl kd] ∧ StoreOk S H ∧ ∀ v H', Bad v → (kd = true → ∃ n, v = .int n) → StoreOk S H' → ExS S H H' → Q v H'
theorem ok_bad_number {k : Nat} {f : Addr} {fd : FuncData} (F : Fun K "_law_bad_number" "_law_bad_number" s_law_bad_number f fd) (T : Blt mg) (H_law_take : Has P w K mg base "_law_take" k ["store", "many"] spTake) (H_law_pick : Has P w K mg base "_law_pick" k ["store", "items"] spPick) : FnOk P w K mg base CX0 (k + 1) f fd ["store", "keyed"] spBadNum := by
  refine F.ok sc_law_bad_number (fun vs H Q E h => ?_) (fun cdv A outer s H vs Q E hr h => ?_)
  · obtain ⟨S, kd, rfl, _⟩ := h; rfl
  · obtain ⟨S, kd, rfl, hS, h⟩ := h
    refine ⟨_, (pss_cons (ps_set (i := 2) sc_law_bad_number.nd rfl (.inl rfl) (pe_lst (pa_cons (pe_op op_add (pe_op op_pow pe_int pe_int) pe_int) (pa_cons (pe_op op_sub (pe_un un_neg (pe_op op_pow pe_int pe_int)) pe_int) (pa_cons (pe_op op_pow pe_int pe_int) (pa_cons (pe_un un_neg (pe_op op_pow pe_int pe_int)) (pa_cons (pe_op op_add (pe_op op_add (pe_op op_pow pe_int pe_int) pe_int) (pe_callH H_law_take hr (by rfl) (pa_cons (pv 0) (pa_cons (pe_op op_pow pe_int pe_int) pa_nil)))) pa_nil)))))))
 (pss_cons (ps_set (i := 3) sc_law_bad_number.nd rfl (.inl rfl) (pe_callH H_law_take hr (by rfl) (pa_cons (pv 0) (pa_cons pe_int pa_nil))))
 (pss_cons (ps_if (PW.pt (pw_or (pt_val (pv 1)) (pw_or1 (pt_cmpR op_eq (pv 3) pe_int (nomark _))))) (pss_one (ps_ret (pe_callH H_law_pick hr (by rfl) (pa_cons (pv 0) (pa_cons (pv 2) pa_nil))))) pss_nil)
 (pss_one (ps_ret (pe_cmpR op_eq (pv 3) pe_int (nomark _))))))), ?_⟩
    walk_at "rd"
    refine ⟨S, _, rfl, by omega, hS, fun r H1 r0 r1 hS1 e1 => ?_⟩
    walk_at "rd"
    refine ⟨sz (by simp), fun p np => ?_⟩
    walk_at "rd"
    refine ⟨S, 3, rfl, by omega, hS1.new np, fun c H2 c0 c1 hS2 e2 => ?_⟩
    have hp := e2 _ _ (hS1.ne1 np) upd_same
    have e3 := e1.trans ((ExS.new np).trans e2)
    have go : ∀ v H', v ∈ [V.int (1000000000000 + 1), .int (-1000000000000 - 1), .int 10000000000000, .int (-1000000000000000000000000000000), .int (1000000000000 + 1 + r)] → StoreOk S H' → ExS S H2 H' → Q v H' := fun v H' hv hS' e' => by
      have : ∃ n, v = .int n ∧ ¬ InR n := by
        simp only [List.mem_cons, List.not_mem_nil, or_false] at hv
        rcases hv with rfl | rfl | rfl | rfl | rfl <;> exact ⟨_, rfl, by unfold InR; omega⟩
      obtain ⟨n, rfl, hn⟩ := this
      exact h _ _ (.inr ⟨n, rfl, hn⟩) (fun _ => ⟨n, rfl⟩) hS' (e3.trans e')
    walk_at "rd"
    refine if_bool (fun hk => ?_) (fun hk => ?_)
    · walk_at "rd"
      exact ⟨S, p, _, rfl, hS2, ⟨hS1.ne1 np, hp⟩, by simp, by simp, go⟩
    · walk_at "rd"
      refine if_dec (fun hc => ?_) (fun hc => ?_)
      · walk_at "rd"
        exact ⟨S, p, _, rfl, hS2, ⟨hS1.ne1 np, hp⟩, by simp, by simp, go⟩
      · walk_at "rd"
        exact h _ _ (.inl ⟨_, rfl⟩) (fun e => by rw [e] at hk; cases hk) hS2 e3
/-! ### _law_is_number -/
def spIsNum : Sp := fun vs H Q _ => ∃ v, vs = [v] ∧ Sc v ∧ Q (.bl (isNum v)) H
theorem ok_is_number {k : Nat} {f : Addr} {fd : FuncData} (F : Fun K "_law_is_number" "_law_is_number" s_law_is_number f fd) (T : Blt mg) : FnOk P w K mg base CX0 (k + 1) f fd ["value"] spIsNum := by
  refine F.ok sc_law_is_number (fun vs H Q E h => ?_) (fun cdv A outer s H vs Q E hr h => ?_)
  · obtain ⟨v, rfl, _⟩ := h; rfl
  · obtain ⟨v, rfl, hv, h⟩ := h
    refine ⟨_, (pss_one (ps_ret (pe_and (pe_callB call_isi (by rfl) T.isinstance (by decide +kernel) (pa_cons (pv 0) (pa_cons (pe_bltn (v := .ty "int") rfl T.int (by decide +kernel) rfl) pa_nil))) (pe_and (pe_not (pe_callB call_isi (by rfl) T.isinstance (by decide +kernel) (pa_cons (pv 0) (pa_cons (pe_bltn (v := .ty "bool") rfl T.bool (by decide +kernel) rfl) pa_nil)))) (pe_one (pe_chain op_le op_le (pe_un un_neg (pe_op op_pow pe_int pe_int)) (pv 0) (pe_op op_pow pe_int pe_int))))))), ?_⟩
    cases v <;> first | exact hv.elim | skip
    · walk_at "rd"; exact h
    · walk_at "rd"; exact h
    · rename_i n
      walk_at "rd"
      have hh : ∀ b : Bool, b = isNum (.int n) → Q (.bl b) H := fun b e => by rw [e]; exact h
      refine if_dec (fun h1 => ?_) (fun h1 => ?_)
      · walk_at "rd"
        refine hh _ ?_
        unfold isNum InR; simp [h1]
      · refine hh _ ?_
        unfold isNum InR; simp [h1]
    · walk_at "rd"; exact h
end

abbrev s_law_match : Stmt := topS 34
theorem sc_law_match : FnScope ["left", "right", "strict", "k"] ["left", "right", "strict"] (defScope s_law_match) := ⟨rfl, rfl, rfl, by decide +kernel, rfl, by decide +kernel, by decide +kernel⟩
abbrev s_law_same : Stmt := topS 36
theorem sc_law_same : FnScope ["actual", "expected"] ["actual", "expected"] (defScope s_law_same) := ⟨rfl, rfl, rfl, by decide +kernel, rfl, by decide +kernel, by decide +kernel⟩
local macro_rules | `(tactic| walk_at "side") => `(tactic| first | assumption | exact Z.sl_of (by assumption) | exact upd_same | (show (0 : Int) < _; omega) | exact Or.inl ⟨by omega, by omega⟩ | exact Or.inr ⟨by omega, by omega⟩)
local macro_rules | `(tactic| walk_at "tyof") => `(tactic| first | exact TyOf.int _ | exact TyOf.bl _ | exact TyOf.non | exact TyOf.str _ | (apply TyOf.lst; assumption) | (apply TyOf.tup; assumption))
local macro_rules | `(tactic| walk_at "rd1") => `(tactic| first
  | with_reducible first
    | refine rd_seq ?_ | refine rd_asg ?_ | refine rd_c ?_ | refine rd_op ?_ | refine rd_cons ?_ | refine rd_nil ?_ | refine rd_cb ?_ | refine rd_call ?_ | refine rd_I0 ?_ | refine rd_eqI ?_ | refine rd_bx ?_ | refine rd_nn ?_ | refine rd_int1 ?_ | refine rd_max2 ?_ | refine rd_min2 ?_
    | refine rd_ret ?_ | refine rd_ifS ?_ | refine rd_test ?_ | refine rd_tB ?_ | refine rd_not ?_ | refine rd_and ?_ | refine rd_or ?_ | refine rd_un ?_ | refine rd_U ?_ | refine rd_next ?_ | refine rd_drop ?_ | refine rd_andV ?_ | refine rd_orV ?_ | refine rd_notV ?_ | refine rd_if ?_ | refine rd_neI ?_
    | refine rd_lst ?_ | refine rd_tup ?_ | refine rd_sl ?_ | refine rd_bm ?_ | refine rd_chain ?_ | refine rd_asgS ?_ | refine iteT ?_ | refine iteF ?_ | refine if_nn ?_ | refine if_nf ?_ | refine if_nt ?_ | refine if_nnN ?_ | refine if_n_int ?_ | refine if_n_bl ?_ | refine if_n_str ?_ | refine if_n_ref ?_ | refine if_nN_int ?_ | refine if_nN_bl ?_ | refine if_nN_str ?_ | refine if_nN_ref ?_ | refine rd_eqB ?_ | refine rd_eqS ?_ | refine rd_neB ?_ | refine rd_part ?_ | refine rd_nopart ?_ | refine rd_for ?_ | refine rd_iRng1 ?_ | refine rd_iList ?_ | refine rd_iTup ?_ | refine rd_lc ?_ | refine rd_callS ?_ | refine rd_callKS ?_ | refine rd_mkO ?_ | refine rd_ckw ?_ | refine rd_xf ?_
    | refine rd_p9 ?_ | refine rd_p11 ?_ | refine rd_p12 ?_ | refine rd_p13 ?_ | refine rd_p18 ?_ | refine rd_p30 ?_ | refine rd_p40 ?_
  | ((with_reducible refine rd_var (v := ?v) ?hv ?_); (case hv => exact rfl))
  | ((with_reducible refine rd_setS (j := ?j) ?he ?_); (case he => exact rfl))
  | ((with_reducible refine rd_isi (a := ?a) (b := ?b) ?ty ?k ?_); (case ty => first | exact TyOf.int _ | exact TyOf.bl _ | exact TyOf.non | exact TyOf.str _); (case k => with_reducible first | exact kb_int_int | exact kb_int_bool | exact kb_int_str | exact kb_int_dict | exact kb_int_list | exact kb_int_tuple | exact kb_bool_int | exact kb_bool_bool | exact kb_bool_str | exact kb_bool_dict | exact kb_bool_list | exact kb_bool_tuple | exact kb_NoneType_int | exact kb_NoneType_bool | exact kb_NoneType_str | exact kb_NoneType_dict | exact kb_NoneType_list | exact kb_NoneType_tuple | exact kb_str_int | exact kb_str_bool | exact kb_str_str | exact kb_str_dict | exact kb_str_list | exact kb_str_tuple))
  | ((with_reducible refine rd_isiL (b := ?b) (by assumption) ?k ?_); (case k => with_reducible first | exact kb_list_int | exact kb_list_bool | exact kb_list_str | exact kb_list_dict | exact kb_list_list | exact kb_list_tuple))
  | ((with_reducible refine rd_isiT (b := ?b) (by assumption) ?k ?_); (case k => with_reducible first | exact kb_tuple_int | exact kb_tuple_bool | exact kb_tuple_str | exact kb_tuple_dict | exact kb_tuple_list | exact kb_tuple_tuple))
  | ((with_reducible refine rd_I ?hc ?_); (case hc => walk_at "side"))
  | ((with_reducible refine rd_ixL (xs := ?xs) (v := ?v) ?hh ?he ?_); (case hh => first | exact upd_same | assumption); (case he => exact rfl)))
local macro_rules | `(tactic| walk_at "rd") => `(tactic| repeat walk_at "rd1")

section
variable {P : Program} {w : World} {K : PySem.W.Frag} {mg : Str → Option Value} {base : Heap}
/-! ### _law_match, _law_same -/
def spMatch (n : Nat) : Sp := fun vs H Q _ => ∃ x y st, vs = [x, y, .bl st] ∧ ((Sc x ∧ Sc y ∧ ∀ H', Same H H' → Q (.bl (decide (x = y))) H') ∨ (Alike H n x y ∧ ∀ H', Same H H' → Q (.bl true) H'))
theorem ok_match0 {k : Nat} {f : Addr} {fd : FuncData} (F : Fun K "_law_match" "_law_match" s_law_match f fd) (T : Blt mg) : FnOk P w K mg base CX0 (k + 1) f fd ["left", "right", "strict"] (spMatch 0) := by
  refine F.ok sc_law_match (fun vs H Q E h => ?_) (fun cdv A outer s H vs Q E hr h => ?_)
  · obtain ⟨x, y, st, rfl, _⟩ := h; rfl
  · obtain ⟨x, y, st, rfl, h⟩ := h
    have h : Sc x ∧ Sc y ∧ ∀ H', Same H H' → Q (.bl (decide (x = y))) H' := by
      rcases h with h | ⟨⟨h1, rfl⟩, h⟩
      · exact h
      · exact ⟨h1, h1, fun H' e => by rw [decide_eq_true rfl]; exact h H' e⟩
    refine ⟨_, (pss_cons (ps_if (PW.pt (pw_or (pt_cmpR op_isN (pv 0) pe_non (nomark _)) (pw_or1 (pt_cmpR op_isN (pv 1) pe_non (nomark _))))) (pss_one (ps_ret (pe_and (pe_cmpR op_isN (pv 0) pe_non (nomark _)) (pe_one (pe_cmpR op_isN (pv 1) pe_non (nomark _)))))) pss_nil)
 (pss_cons (ps_if (PW.pt (pw_or (pt_val (pe_callB call_isi (by rfl) T.isinstance (by decide +kernel) (pa_cons (pv 0) (pa_cons (pe_bltn (v := .ty "bool") rfl T.bool (by decide +kernel) rfl) pa_nil)))) (pw_or1 (pt_val (pe_callB call_isi (by rfl) T.isinstance (by decide +kernel) (pa_cons (pv 1) (pa_cons (pe_bltn (v := .ty "bool") rfl T.bool (by decide +kernel) rfl) pa_nil))))))) (pss_one (ps_ret (pe_and (pe_callB call_isi (by rfl) T.isinstance (by decide +kernel) (pa_cons (pv 0) (pa_cons (pe_bltn (v := .ty "bool") rfl T.bool (by decide +kernel) rfl) pa_nil))) (pe_and (pe_callB call_isi (by rfl) T.isinstance (by decide +kernel) (pa_cons (pv 1) (pa_cons (pe_bltn (v := .ty "bool") rfl T.bool (by decide +kernel) rfl) pa_nil))) (pe_one (pe_cmpR op_eq (pv 0) (pv 1) (nomark _))))))) pss_nil)
 (pss_cons (ps_if (PW.pt (pw_or (pt_val (pe_callB call_isi (by rfl) T.isinstance (by decide +kernel) (pa_cons (pv 0) (pa_cons (pe_bltn (v := .ty "int") rfl T.int (by decide +kernel) rfl) pa_nil)))) (pw_or1 (pt_val (pe_callB call_isi (by rfl) T.isinstance (by decide +kernel) (pa_cons (pv 1) (pa_cons (pe_bltn (v := .ty "int") rfl T.int (by decide +kernel) rfl) pa_nil))))))) (pss_one (ps_ret (pe_and (pe_callB call_isi (by rfl) T.isinstance (by decide +kernel) (pa_cons (pv 0) (pa_cons (pe_bltn (v := .ty "int") rfl T.int (by decide +kernel) rfl) pa_nil))) (pe_and (pe_callB call_isi (by rfl) T.isinstance (by decide +kernel) (pa_cons (pv 1) (pa_cons (pe_bltn (v := .ty "int") rfl T.int (by decide +kernel) rfl) pa_nil))) (pe_one (pe_cmpR op_eq (pv 0) (pv 1) (nomark _))))))) pss_nil)
 (pss_cons (ps_if (PW.pt (pw_or (pt_val (pe_callB call_isi (by rfl) T.isinstance (by decide +kernel) (pa_cons (pv 0) (pa_cons (pe_bltn (v := .ty "str") rfl T.str (by decide +kernel) rfl) pa_nil)))) (pw_or1 (pt_val (pe_callB call_isi (by rfl) T.isinstance (by decide +kernel) (pa_cons (pv 1) (pa_cons (pe_bltn (v := .ty "str") rfl T.str (by decide +kernel) rfl) pa_nil))))))) (pss_one (ps_ret (pe_and (pe_callB call_isi (by rfl) T.isinstance (by decide +kernel) (pa_cons (pv 0) (pa_cons (pe_bltn (v := .ty "str") rfl T.str (by decide +kernel) rfl) pa_nil))) (pe_and (pe_callB call_isi (by rfl) T.isinstance (by decide +kernel) (pa_cons (pv 1) (pa_cons (pe_bltn (v := .ty "str") rfl T.str (by decide +kernel) rfl) pa_nil))) (pe_one (pe_cmpR op_eq (pv 0) (pv 1) (nomark _))))))) pss_nil)
 (pss_cons (ps_if (PW.pt (pw_or (pt_val (pe_callB call_isi (by rfl) T.isinstance (by decide +kernel) (pa_cons (pv 0) (pa_cons (pe_bltn (v := .ty "dict") rfl T.dict (by decide +kernel) rfl) pa_nil)))) (pw_or1 (pt_val (pe_callB call_isi (by rfl) T.isinstance (by decide +kernel) (pa_cons (pv 1) (pa_cons (pe_bltn (v := .ty "dict") rfl T.dict (by decide +kernel) rfl) pa_nil))))))) (pss_one ps_never) pss_nil)
 (pss_cons (ps_if (PW.pt (pw_or (pt_not (pt_val (pe_callB call_isiT (by rfl) T.isinstance (by decide +kernel) (pa_cons (pv 0) (pa_cons (pe_tup (pa_cons (pe_bltn (v := .ty "list") rfl T.list' (by decide +kernel) rfl) (pa_cons (pe_bltn (v := .ty "tuple") rfl T.tuple (by decide +kernel) rfl) pa_nil))) pa_nil))))) (pw_or1 (pt_not (pt_val (pe_callB call_isiT (by rfl) T.isinstance (by decide +kernel) (pa_cons (pv 1) (pa_cons (pe_tup (pa_cons (pe_bltn (v := .ty "list") rfl T.list' (by decide +kernel) rfl) (pa_cons (pe_bltn (v := .ty "tuple") rfl T.tuple (by decide +kernel) rfl) pa_nil))) pa_nil)))))))) (pss_one (ps_ret pe_bl)) pss_nil)
 (pss_cons (ps_if (PW.pt (pw_or (pt_cmpR op_ne (pe_callB call_len_seq (by rfl) T.len (by decide +kernel) (pa_cons (pv 0) pa_nil)) (pe_callB call_len_seq (by rfl) T.len (by decide +kernel) (pa_cons (pv 1) pa_nil)) (nomark _)) (pw_or1 (PW.pt (pw_and (pt_val (pv 2)) (pw_and1 (pt_cmpR op_ne (pe_callB call_isi (by rfl) T.isinstance (by decide +kernel) (pa_cons (pv 0) (pa_cons (pe_bltn (v := .ty "list") rfl T.list' (by decide +kernel) rfl) pa_nil))) (pe_callB call_isi (by rfl) T.isinstance (by decide +kernel) (pa_cons (pv 1) (pa_cons (pe_bltn (v := .ty "list") rfl T.list' (by decide +kernel) rfl) pa_nil))) (nomark _)))))))) (pss_one (ps_ret pe_bl)) pss_nil)
 (pss_cons ps_never
 (pss_one (ps_ret pe_bl)))))))))), ?_⟩
    obtain ⟨hx, hy, h⟩ := h
    have h := h H (Same.refl H)
    cases x <;> first | exact hx.elim | skip
    all_goals cases y <;> first | exact hy.elim | skip
    all_goals walk_at "rd"
    all_goals first | exact h | (have e := h; simp at e ⊢; exact e)
theorem ok_matchS {n : Nat} {k : Nat} {f : Addr} {fd : FuncData} (F : Fun K "_law_match" "_law_match" s_law_match f fd) (T : Blt mg) (H_law_match : Has P w K mg base "_law_match" k ["left", "right", "strict"] (spMatch n)) : FnOk P w K mg base CX0 (k + 1) f fd ["left", "right", "strict"] (spMatch (n + 1)) := by
  refine F.ok sc_law_match (fun vs H Q E h => ?_) (fun cdv A outer s H vs Q E hr h => ?_)
  · obtain ⟨x, y, st, rfl, _⟩ := h; rfl
  · obtain ⟨x, y, st, rfl, h⟩ := h
    have h : (Sc x ∧ Sc y ∧ ∀ H', Same H H' → Q (.bl (decide (x = y))) H') ∨ ((∃ (a b : Addr) (xs ys : List V), x = .ref a ∧ y = .ref b ∧ ((H a = some (.lst xs) ∧ H b = some (.lst ys)) ∨ (H a = some (.tup xs) ∧ H b = some (.tup ys))) ∧ xs.length = ys.length ∧ xs.length ≤ 100000 ∧ ∀ (i : Nat) (u v : V), xs[i]? = some u → ys[i]? = some v → Alike H n u v) ∧ ∀ H', Same H H' → Q (.bl true) H') := by
      rcases h with h | ⟨⟨h1, rfl⟩ | h1, h⟩
      · exact .inl h
      · exact .inl ⟨h1, h1, fun H' e => by rw [decide_eq_true rfl]; exact h H' e⟩
      · exact .inr ⟨h1, h⟩
    refine ⟨_, (pss_cons (ps_if (PW.pt (pw_or (pt_cmpR op_isN (pv 0) pe_non (nomark _)) (pw_or1 (pt_cmpR op_isN (pv 1) pe_non (nomark _))))) (pss_one (ps_ret (pe_and (pe_cmpR op_isN (pv 0) pe_non (nomark _)) (pe_one (pe_cmpR op_isN (pv 1) pe_non (nomark _)))))) pss_nil)
 (pss_cons (ps_if (PW.pt (pw_or (pt_val (pe_callB call_isi (by rfl) T.isinstance (by decide +kernel) (pa_cons (pv 0) (pa_cons (pe_bltn (v := .ty "bool") rfl T.bool (by decide +kernel) rfl) pa_nil)))) (pw_or1 (pt_val (pe_callB call_isi (by rfl) T.isinstance (by decide +kernel) (pa_cons (pv 1) (pa_cons (pe_bltn (v := .ty "bool") rfl T.bool (by decide +kernel) rfl) pa_nil))))))) (pss_one (ps_ret (pe_and (pe_callB call_isi (by rfl) T.isinstance (by decide +kernel) (pa_cons (pv 0) (pa_cons (pe_bltn (v := .ty "bool") rfl T.bool (by decide +kernel) rfl) pa_nil))) (pe_and (pe_callB call_isi (by rfl) T.isinstance (by decide +kernel) (pa_cons (pv 1) (pa_cons (pe_bltn (v := .ty "bool") rfl T.bool (by decide +kernel) rfl) pa_nil))) (pe_one (pe_cmpR op_eq (pv 0) (pv 1) (nomark _))))))) pss_nil)
 (pss_cons (ps_if (PW.pt (pw_or (pt_val (pe_callB call_isi (by rfl) T.isinstance (by decide +kernel) (pa_cons (pv 0) (pa_cons (pe_bltn (v := .ty "int") rfl T.int (by decide +kernel) rfl) pa_nil)))) (pw_or1 (pt_val (pe_callB call_isi (by rfl) T.isinstance (by decide +kernel) (pa_cons (pv 1) (pa_cons (pe_bltn (v := .ty "int") rfl T.int (by decide +kernel) rfl) pa_nil))))))) (pss_one (ps_ret (pe_and (pe_callB call_isi (by rfl) T.isinstance (by decide +kernel) (pa_cons (pv 0) (pa_cons (pe_bltn (v := .ty "int") rfl T.int (by decide +kernel) rfl) pa_nil))) (pe_and (pe_callB call_isi (by rfl) T.isinstance (by decide +kernel) (pa_cons (pv 1) (pa_cons (pe_bltn (v := .ty "int") rfl T.int (by decide +kernel) rfl) pa_nil))) (pe_one (pe_cmpR op_eq (pv 0) (pv 1) (nomark _))))))) pss_nil)
 (pss_cons (ps_if (PW.pt (pw_or (pt_val (pe_callB call_isi (by rfl) T.isinstance (by decide +kernel) (pa_cons (pv 0) (pa_cons (pe_bltn (v := .ty "str") rfl T.str (by decide +kernel) rfl) pa_nil)))) (pw_or1 (pt_val (pe_callB call_isi (by rfl) T.isinstance (by decide +kernel) (pa_cons (pv 1) (pa_cons (pe_bltn (v := .ty "str") rfl T.str (by decide +kernel) rfl) pa_nil))))))) (pss_one (ps_ret (pe_and (pe_callB call_isi (by rfl) T.isinstance (by decide +kernel) (pa_cons (pv 0) (pa_cons (pe_bltn (v := .ty "str") rfl T.str (by decide +kernel) rfl) pa_nil))) (pe_and (pe_callB call_isi (by rfl) T.isinstance (by decide +kernel) (pa_cons (pv 1) (pa_cons (pe_bltn (v := .ty "str") rfl T.str (by decide +kernel) rfl) pa_nil))) (pe_one (pe_cmpR op_eq (pv 0) (pv 1) (nomark _))))))) pss_nil)
 (pss_cons (ps_if (PW.pt (pw_or (pt_val (pe_callB call_isi (by rfl) T.isinstance (by decide +kernel) (pa_cons (pv 0) (pa_cons (pe_bltn (v := .ty "dict") rfl T.dict (by decide +kernel) rfl) pa_nil)))) (pw_or1 (pt_val (pe_callB call_isi (by rfl) T.isinstance (by decide +kernel) (pa_cons (pv 1) (pa_cons (pe_bltn (v := .ty "dict") rfl T.dict (by decide +kernel) rfl) pa_nil))))))) (pss_one ps_never) pss_nil)
 (pss_cons (ps_if (PW.pt (pw_or (pt_not (pt_val (pe_callB call_isiT (by rfl) T.isinstance (by decide +kernel) (pa_cons (pv 0) (pa_cons (pe_tup (pa_cons (pe_bltn (v := .ty "list") rfl T.list' (by decide +kernel) rfl) (pa_cons (pe_bltn (v := .ty "tuple") rfl T.tuple (by decide +kernel) rfl) pa_nil))) pa_nil))))) (pw_or1 (pt_not (pt_val (pe_callB call_isiT (by rfl) T.isinstance (by decide +kernel) (pa_cons (pv 1) (pa_cons (pe_tup (pa_cons (pe_bltn (v := .ty "list") rfl T.list' (by decide +kernel) rfl) (pa_cons (pe_bltn (v := .ty "tuple") rfl T.tuple (by decide +kernel) rfl) pa_nil))) pa_nil)))))))) (pss_one (ps_ret pe_bl)) pss_nil)
 (C8.pss_cut (ps_if (PW.pt (pw_or (pt_cmpR op_ne (pe_callB call_len_seq (by rfl) T.len (by decide +kernel) (pa_cons (pv 0) pa_nil)) (pe_callB call_len_seq (by rfl) T.len (by decide +kernel) (pa_cons (pv 1) pa_nil)) (nomark _)) (pw_or1 (PW.pt (pw_and (pt_val (pv 2)) (pw_and1 (pt_cmpR op_ne (pe_callB call_isi (by rfl) T.isinstance (by decide +kernel) (pa_cons (pv 0) (pa_cons (pe_bltn (v := .ty "list") rfl T.list' (by decide +kernel) rfl) pa_nil))) (pe_callB call_isi (by rfl) T.isinstance (by decide +kernel) (pa_cons (pv 1) (pa_cons (pe_bltn (v := .ty "list") rfl T.list' (by decide +kernel) rfl) pa_nil))) (nomark _)))))))) (pss_one (ps_ret pe_bl)) pss_nil)
 (pss_cons (ps_for PassesOwn.never rfl (pi_range1 rfl T.range (pa_cons (pe_callB call_len_seq (by rfl) T.len (by decide +kernel) (pa_cons (pv 0) pa_nil)) pa_nil)) (pg_name (i := 3) sc_law_match.nd rfl (.inl rfl)) (pss_one (ps_if (pt_not (pt_val (pe_callH H_law_match hr (by rfl) (pa_cons (pe_ix ix_seq (pv 0) (pv 3) (fun _ _ => rfl)) (pa_cons (pe_ix ix_seq (pv 1) (pv 3) (fun _ _ => rfl)) (pa_cons (pv 2) pa_nil)))))) (pss_one (ps_ret pe_bl)) pss_nil)))
 (pss_one (ps_ret pe_bl)))))))))), ?_⟩
    rcases h with ⟨hx, hy, h⟩ | ⟨⟨a, b, xs, ys, rfl, rfl, hab, hl, h100, hi⟩, hq⟩
    · have h := h H (Same.refl H)
      cases x <;> first | exact hx.elim | skip
      all_goals cases y <;> first | exact hy.elim | skip
      all_goals walk_at "rd"
      all_goals first | exact h | (have e := h; simp at e ⊢; exact e)
    · rcases hab with ⟨ha, hb⟩ | ⟨ha, hb⟩
      · walk_at "rd"
        refine ⟨sz (by simp), fun p np => ?_⟩
        walk_at "rd"
        have ha1 := same_new (o := .tup [V.ty "list", V.ty "tuple"]) np _ _ ha
        have hb1 := same_new (o := .tup [V.ty "list", V.ty "tuple"]) np _ _ hb
        refine rd_isiLT upd_same (.lst ha1) ka_list ?_
        walk_at "rd"
        refine ⟨sz (by simp), fun p2 np2 => ?_⟩
        walk_at "rd"
        have s2 := (same_new (o := .tup [V.ty "list", V.ty "tuple"]) np).trans (same_new (o := .tup [V.ty "list", V.ty "tuple"]) np2)
        have ha2 := s2 _ _ ha
        have hb2 := s2 _ _ hb
        refine rd_isiLT upd_same (.lst hb2) ka_list ?_
        walk_at "rd"
        refine rd_cut (fun σ' H' => σ' = [some (.ref a), some (.ref b), some (.bl st), none] ∧ Same H H') ?_ ?_
        · walk_at "rd"
          refine rd_seqL ha2 ?_
          walk_at "rd"
          refine rd_seqL hb2 ?_
          walk_at "rd"
          refine if_ndec (fun hne => absurd (by rw [hl]) hne) (fun _ => ?_)
          walk_at "rd"
          refine if_bool (fun hst => ?_) (fun hst => ?_)
          · walk_at "rd"
            first | rw [decTF] | rw [show decide (false = false) = true from rfl]
            walk_at "rd"
            exact ⟨rfl, s2⟩
          · walk_at "rd"
            exact ⟨rfl, s2⟩
        · rintro σ' H3 ⟨rfl, s3⟩
          have ha3 := s3 _ _ ha
          have hb3 := s3 _ _ hb
          walk_at "rd"
          refine rd_seqL ha3 ?_
          walk_at "rd"
          refine ⟨_, rfl, by omega, ?_, for_rng (fun i σ H' => ∃ y, σ = [some (.ref a), some (.ref b), some (.bl st), y] ∧ Same H H') ⟨none, rfl, s3⟩ ?_ ?_⟩
          · omega
          · rintro i σ H4 hi4 ⟨y, rfl, s4⟩
            have ha4 := s4 _ _ ha
            have hb4 := s4 _ _ hb
            obtain ⟨c1, e1⟩ := atI_get (xs := xs) (i := (i : Int)) (by omega) (by omega)
            obtain ⟨c2, e2⟩ := atI_get (xs := ys) (i := (i : Int)) (by omega) (by omega)
            walk_at "rd"
            refine rd_ixQL ha4 e1 ?_
            walk_at "rd"
            refine rd_ixQL hb4 e2 ?_
            walk_at "rd"
            refine ⟨_, _, _, rfl, .inr ⟨(hi i _ _ (by simp) (by simp)).same s4, fun H5 s5 => ?_⟩⟩
            walk_at "rd"
            exact ⟨_, rfl, s4.trans s5⟩
          · rintro σ H4 ⟨y, rfl, s4⟩
            walk_at "rd"
            exact hq H4 s4
      · walk_at "rd"
        refine ⟨sz (by simp), fun p np => ?_⟩
        walk_at "rd"
        have ha1 := same_new (o := .tup [V.ty "list", V.ty "tuple"]) np _ _ ha
        have hb1 := same_new (o := .tup [V.ty "list", V.ty "tuple"]) np _ _ hb
        refine rd_isiLT upd_same (.tup ha1) ka_tuple ?_
        walk_at "rd"
        refine ⟨sz (by simp), fun p2 np2 => ?_⟩
        walk_at "rd"
        have s2 := (same_new (o := .tup [V.ty "list", V.ty "tuple"]) np).trans (same_new (o := .tup [V.ty "list", V.ty "tuple"]) np2)
        have ha2 := s2 _ _ ha
        have hb2 := s2 _ _ hb
        refine rd_isiLT upd_same (.tup hb2) ka_tuple ?_
        walk_at "rd"
        refine rd_cut (fun σ' H' => σ' = [some (.ref a), some (.ref b), some (.bl st), none] ∧ Same H H') ?_ ?_
        · walk_at "rd"
          refine rd_seqT ha2 ?_
          walk_at "rd"
          refine rd_seqT hb2 ?_
          walk_at "rd"
          refine if_ndec (fun hne => absurd (by rw [hl]) hne) (fun _ => ?_)
          walk_at "rd"
          refine if_bool (fun hst => ?_) (fun hst => ?_)
          · walk_at "rd"
            first | rw [decTF] | rw [show decide (false = false) = true from rfl]
            walk_at "rd"
            exact ⟨rfl, s2⟩
          · walk_at "rd"
            exact ⟨rfl, s2⟩
        · rintro σ' H3 ⟨rfl, s3⟩
          have ha3 := s3 _ _ ha
          have hb3 := s3 _ _ hb
          walk_at "rd"
          refine rd_seqT ha3 ?_
          walk_at "rd"
          refine ⟨_, rfl, by omega, ?_, for_rng (fun i σ H' => ∃ y, σ = [some (.ref a), some (.ref b), some (.bl st), y] ∧ Same H H') ⟨none, rfl, s3⟩ ?_ ?_⟩
          · omega
          · rintro i σ H4 hi4 ⟨y, rfl, s4⟩
            have ha4 := s4 _ _ ha
            have hb4 := s4 _ _ hb
            obtain ⟨c1, e1⟩ := atI_get (xs := xs) (i := (i : Int)) (by omega) (by omega)
            obtain ⟨c2, e2⟩ := atI_get (xs := ys) (i := (i : Int)) (by omega) (by omega)
            walk_at "rd"
            refine rd_ixQT ha4 e1 ?_
            walk_at "rd"
            refine rd_ixQT hb4 e2 ?_
            walk_at "rd"
            refine ⟨_, _, _, rfl, .inr ⟨(hi i _ _ (by simp) (by simp)).same s4, fun H5 s5 => ?_⟩⟩
            walk_at "rd"
            exact ⟨_, rfl, s4.trans s5⟩
          · rintro σ H4 ⟨y, rfl, s4⟩
            walk_at "rd"
            exact hq H4 s4
def spSame (n : Nat) : Sp := fun vs H Q _ => ∃ x y, vs = [x, y] ∧ ((Sc x ∧ Sc y ∧ ∀ H', Same H H' → Q (.bl (decide (x = y))) H') ∨ (Alike H n x y ∧ ∀ H', Same H H' → Q (.bl true) H'))
theorem ok_same {n : Nat} {k : Nat} {f : Addr} {fd : FuncData} (F : Fun K "_law_same" "_law_same" s_law_same f fd) (T : Blt mg) (H_law_match : Has P w K mg base "_law_match" k ["left", "right", "strict"] (spMatch n)) : FnOk P w K mg base CX0 (k + 1) f fd ["actual", "expected"] (spSame n) := by
  refine F.ok sc_law_same (fun vs H Q E h => ?_) (fun cdv A outer s H vs Q E hr h => ?_)
  · obtain ⟨x, y, rfl, _⟩ := h; rfl
  · obtain ⟨x, y, rfl, h⟩ := h
    refine ⟨_, (pss_one (ps_ret (pe_callH H_law_match hr (by rfl) (pa_cons (pv 0) (pa_cons (pv 1) (pa_cons pe_bl pa_nil)))))), ?_⟩
    walk_at "rd"
    exact ⟨_, _, _, rfl, h⟩
end

abbrev sBadNumber___init__ : Stmt := inClass (topS 3) 0
theorem scBadNumber___init__ : FnScope ["self", "number"] ["self", "number"] (defScope sBadNumber___init__) := ⟨rfl, rfl, rfl, by decide +kernel, rfl, by decide +kernel, by decide +kernel⟩
abbrev sBadSpan___init__ : Stmt := inClass (topS 4) 0
theorem scBadSpan___init__ : FnScope ["self", "low", "high"] ["self", "low", "high"] (defScope sBadSpan___init__) := ⟨rfl, rfl, rfl, by decide +kernel, rfl, by decide +kernel, by decide +kernel⟩
abbrev sis_number : Stmt := topS 9
theorem scis_number : FnScope ["value"] ["value"] (defScope sis_number) := ⟨rfl, rfl, rfl, by decide +kernel, rfl, by decide +kernel, by decide +kernel⟩
abbrev scheck_number : Stmt := topS 10
theorem sccheck_number : FnScope ["value"] ["value"] (defScope scheck_number) := ⟨rfl, rfl, rfl, by decide +kernel, rfl, by decide +kernel, by decide +kernel⟩
abbrev scheck_open_number : Stmt := topS 11
theorem sccheck_open_number : FnScope ["value"] ["value"] (defScope scheck_open_number) := ⟨rfl, rfl, rfl, by decide +kernel, rfl, by decide +kernel, by decide +kernel⟩
abbrev sare_crossed : Stmt := topS 13
theorem scare_crossed : FnScope ["low", "high"] ["low", "high"] (defScope sare_crossed) := ⟨rfl, rfl, rfl, by decide +kernel, rfl, by decide +kernel, by decide +kernel⟩
abbrev scheck_low_high : Stmt := topS 12
theorem sccheck_low_high : FnScope ["low", "high"] ["low", "high"] (defScope scheck_low_high) := ⟨rfl, rfl, rfl, by decide +kernel, rfl, by decide +kernel, by decide +kernel⟩
abbrev stold_ends : Stmt := topS 14
theorem sctold_ends : FnScope ["first", "second", "end"] ["first", "second"] (defScope stold_ends) := ⟨rfl, rfl, rfl, by decide +kernel, rfl, by decide +kernel, by decide +kernel⟩
abbrev slesser_end : Stmt := topS 15
theorem sclesser_end : FnScope ["first", "second"] ["first", "second"] (defScope slesser_end) := ⟨rfl, rfl, rfl, by decide +kernel, rfl, by decide +kernel, by decide +kernel⟩
abbrev sgreater_end : Stmt := topS 16
theorem scgreater_end : FnScope ["first", "second"] ["first", "second"] (defScope sgreater_end) := ⟨rfl, rfl, rfl, by decide +kernel, rfl, by decide +kernel, by decide +kernel⟩
local macro_rules | `(tactic| walk_at "side") => `(tactic| first | assumption | exact Z.sl_of (by assumption) | exact upd_same | (show (0 : Int) < _; omega) | exact Or.inl ⟨by omega, by omega⟩ | exact Or.inr ⟨by omega, by omega⟩)
local macro_rules | `(tactic| walk_at "tyof") => `(tactic| first | exact TyOf.int _ | exact TyOf.bl _ | exact TyOf.non | exact TyOf.str _ | (apply TyOf.lst; assumption) | (apply TyOf.tup; assumption))
local macro_rules | `(tactic| walk_at "rd1") => `(tactic| first
  | with_reducible first
    | refine rd_seq ?_ | refine rd_asg ?_ | refine rd_c ?_ | refine rd_op ?_ | refine rd_cons ?_ | refine rd_nil ?_ | refine rd_cb ?_ | refine rd_call ?_ | refine rd_I0 ?_ | refine rd_eqI ?_ | refine rd_bx ?_ | refine rd_nn ?_ | refine rd_int1 ?_ | refine rd_max2 ?_ | refine rd_min2 ?_
    | refine rd_ret ?_ | refine rd_ifS ?_ | refine rd_test ?_ | refine rd_tB ?_ | refine rd_not ?_ | refine rd_and ?_ | refine rd_or ?_ | refine rd_un ?_ | refine rd_U ?_ | refine rd_next ?_ | refine rd_drop ?_ | refine rd_andV ?_ | refine rd_orV ?_ | refine rd_notV ?_ | refine rd_if ?_ | refine rd_neI ?_
    | refine rd_lst ?_ | refine rd_tup ?_ | refine rd_sl ?_ | refine rd_bm ?_ | refine rd_chain ?_ | refine rd_asgS ?_ | refine iteT ?_ | refine iteF ?_ | refine if_nn ?_ | refine if_nf ?_ | refine if_nt ?_ | refine if_nnN ?_ | refine if_n_int ?_ | refine if_n_bl ?_ | refine if_n_str ?_ | refine if_n_ref ?_ | refine if_nN_int ?_ | refine if_nN_bl ?_ | refine if_nN_str ?_ | refine if_nN_ref ?_ | refine rd_eqB ?_ | refine rd_eqS ?_ | refine rd_neB ?_ | refine rd_part ?_ | refine rd_nopart ?_ | refine rd_for ?_ | refine rd_iRng1 ?_ | refine rd_iList ?_ | refine rd_iTup ?_ | refine rd_lc ?_ | refine rd_callS ?_ | refine rd_callKS ?_ | refine rd_mkO ?_ | refine rd_ckw ?_ | refine rd_xf ?_
    | refine rd_p9 ?_ | refine rd_p11 ?_ | refine rd_p12 ?_ | refine rd_p13 ?_ | refine rd_p18 ?_ | refine rd_p30 ?_ | refine rd_p40 ?_
  | ((with_reducible refine rd_var (v := ?v) ?hv ?_); (case hv => exact rfl))
  | ((with_reducible refine rd_setS (j := ?j) ?he ?_); (case he => exact rfl))
  | ((with_reducible refine rd_isi (a := ?a) (b := ?b) ?ty ?k ?_); (case ty => first | exact TyOf.int _ | exact TyOf.bl _ | exact TyOf.non | exact TyOf.str _); (case k => with_reducible first | exact kb_int_int | exact kb_int_bool | exact kb_int_str | exact kb_int_dict | exact kb_int_list | exact kb_int_tuple | exact kb_bool_int | exact kb_bool_bool | exact kb_bool_str | exact kb_bool_dict | exact kb_bool_list | exact kb_bool_tuple | exact kb_NoneType_int | exact kb_NoneType_bool | exact kb_NoneType_str | exact kb_NoneType_dict | exact kb_NoneType_list | exact kb_NoneType_tuple | exact kb_str_int | exact kb_str_bool | exact kb_str_str | exact kb_str_dict | exact kb_str_list | exact kb_str_tuple))
  | ((with_reducible refine rd_isiL (b := ?b) (by assumption) ?k ?_); (case k => with_reducible first | exact kb_list_int | exact kb_list_bool | exact kb_list_str | exact kb_list_dict | exact kb_list_list | exact kb_list_tuple))
  | ((with_reducible refine rd_isiT (b := ?b) (by assumption) ?k ?_); (case k => with_reducible first | exact kb_tuple_int | exact kb_tuple_bool | exact kb_tuple_str | exact kb_tuple_dict | exact kb_tuple_list | exact kb_tuple_tuple))
  | ((with_reducible refine rd_I ?hc ?_); (case hc => walk_at "side"))
  | ((with_reducible refine rd_ixL (xs := ?xs) (v := ?v) ?hh ?he ?_); (case hh => first | exact upd_same | assumption); (case he => exact rfl)))
local macro_rules | `(tactic| walk_at "rd") => `(tactic| repeat walk_at "rd1")

def isOpen : V → Bool
  | .non => true
  | v => isNum v
def under : V → V → Bool
  | _, .non => true
  | .int l, .int c => decide (l ≤ c)
  | _, _ => false
def ofV : V → List Int
  | .int i => [i]
  | _ => []
def tl (x y : V) : List Int := ofV x ++ ofV y
def lowC : V → V → V
  | .int i, .int j => .int (if j < i then j else i)
  | .non, y => y
  | x, _ => x
def NI (v : V) : Prop := v = .non ∨ ∃ i, v = .int i
def crossed : V → V → Bool
  | .int i, .int j => decide (j < i)
  | _, _ => false
def grC : V → V → V
  | .int i, .int j => .int (if i < j then j else i)
  | .non, y => y
  | x, _ => x
section
variable {P : Program} {w : World} {K : PySem.W.Frag} {mg : Str → Option Value} {base : Heap} {C : Addr}
/-! ### the error -/
theorem ok_BadNumber_init {k : Nat} {f : Addr} {fd : FuncData} (F : Fun K "__init__" "BadNumber.__init__" sBadNumber___init__ f fd) : FnOk P w K mg base CX0 (k + 1) f fd ["self", "number"] (spInit1 K "number") := by
  refine F.ok scBadNumber___init__ (fun vs H Q E h => ?_) (fun cdv A outer s H vs Q E hr h => ?_)
  · obtain ⟨a, C, v, rfl, _⟩ := h; rfl
  · obtain ⟨a, C, v, rfl, ox, nf, ha, h⟩ := h
    refine ⟨_, (pss_one (ps_ost (pv 0) (pv 1))), ?_⟩
    exact ⟨v, rfl, .ref a, rfl, a, C, rfl, ox, nf, .inl ⟨ha, h⟩⟩
/-! ### is_number, check_number, check_open_number -/
theorem ok_p_is_number {k : Nat} {f : Addr} {fd : FuncData} (F : Fun K "is_number" "is_number" sis_number f fd) (T : Blt mg) : FnOk P w K mg base CX0 (k + 1) f fd ["value"] spIsNum := by
  refine F.ok scis_number (fun vs H Q E h => ?_) (fun cdv A outer s H vs Q E hr h => ?_)
  · obtain ⟨v, rfl, _⟩ := h; rfl
  · obtain ⟨v, rfl, hv, h⟩ := h
    refine ⟨_, (pss_one (ps_ret (pe_and (pe_callB call_isi (by rfl) T.isinstance (by decide +kernel) (pa_cons (pv 0) (pa_cons (pe_bltn (v := .ty "int") rfl T.int (by decide +kernel) rfl) pa_nil))) (pe_and (pe_not (pe_callB call_isi (by rfl) T.isinstance (by decide +kernel) (pa_cons (pv 0) (pa_cons (pe_bltn (v := .ty "bool") rfl T.bool (by decide +kernel) rfl) pa_nil)))) (pe_one (pe_chain op_le op_le (pe_un un_neg (pe_globI rfl T.g_LIMIT)) (pv 0) (pe_globI rfl T.g_LIMIT))))))), ?_⟩
    cases v <;> first | exact hv.elim | skip
    · walk_at "rd"; exact h
    · walk_at "rd"; exact h
    · rename_i n
      walk_at "rd"
      have hh : ∀ b : Bool, b = isNum (.int n) → Q (.bl b) H := fun b e => by rw [e]; exact h
      refine if_dec (fun h1 => ?_) (fun h1 => ?_)
      · walk_at "rd"
        refine hh _ ?_
        unfold isNum InR; simp [h1]
      · refine hh _ ?_
        unfold isNum InR; simp [h1]
    · walk_at "rd"; exact h
def Err (E : XK) (C : Addr) (H : Hp) (v : V) : Prop := ∀ d H', Same H H' → H' d = some (.xd [("number", v)]) → E (.ref C) (some d) H'
def spCheck (C : Addr) : Sp := fun vs H Q E => ∃ v, vs = [v] ∧ Sc v ∧ (isNum v = true → Q v H) ∧ (isNum v = false → Err E C H v)
theorem ok_check_number {k : Nat} {f : Addr} {fd : FuncData} (F : Fun K "check_number" "check_number" scheck_number f fd) (T : Blt mg) (E_BadNumber : ErrC K mg "BadNumber" C) (I_BadNumber : HasI P w K mg base C 1 ["self", "number"] (spInit1 K "number")) (N_BadNumber_number : PySem.W.findIn K (.ref C) "number" = some none)
    (His_number : Has P w K mg base "is_number" k ["value"] spIsNum) (hk : 2 ≤ k) : FnOk P w K mg base (L2.CX P w) (k + 1) f fd ["value"] (spCheck C) := by
  refine F.okX sccheck_number (fun vs H Q E h => ?_) (fun cdv A outer s H vs Q E hr h => ?_)
  · obtain ⟨v, rfl, _⟩ := h; rfl
  · obtain ⟨v, rfl, hv, h1, h2⟩ := h
    refine ⟨_, (pss_cons (ps_if (pt_not (pt_val (pe_callH His_number hr (by rfl) (pa_cons (pv 0) pa_nil)))) (pss_one (ps_raiseC rfl (takes_of rfl rfl rfl rfl) E_BadNumber I_BadNumber hr (by omega) (by rfl) (pa_cons (pv 0) pa_nil))) pss_nil)
 (pss_one (ps_ret (pv 0)))), ?_⟩
    walk_at "rd"
    refine ⟨v, rfl, hv, ?_⟩
    walk_at "rd"
    refine if_nbool (fun hn => ?_) (fun hn => ?_)
    · walk_at "rd"
      exact rd_mk1 E_BadNumber.ox N_BadNumber_number fun d H' _ sm e => h2 hn d H' sm e
    · walk_at "rd"
      exact h1 hn
def spCheckO (C : Addr) : Sp := fun vs H Q E => ∃ v, vs = [v] ∧ Sc v ∧ (isOpen v = true → Q v H) ∧ (isOpen v = false → Err E C H v)
theorem ok_check_open_number {k : Nat} {f : Addr} {fd : FuncData} (F : Fun K "check_open_number" "check_open_number" scheck_open_number f fd) (T : Blt mg) (Hcheck_number : HasX P w K mg base "check_number" k ["value"] (spCheck C)) : FnOk P w K mg base (L2.CX P w) (k + 1) f fd ["value"] (spCheckO C) := by
  refine F.okX sccheck_open_number (fun vs H Q E h => ?_) (fun cdv A outer s H vs Q E hr h => ?_)
  · obtain ⟨v, rfl, _⟩ := h; rfl
  · obtain ⟨v, rfl, hv, h1, h2⟩ := h
    refine ⟨_, (pss_cons (ps_if (pt_cmpR op_isN (pv 0) pe_non (nomark _)) (pss_one (ps_ret pe_non)) pss_nil)
 (pss_one (ps_ret (pe_callX Hcheck_number hr (by rfl) (takes_of rfl rfl rfl rfl) (pa_cons (pv 0) pa_nil))))), ?_⟩
    cases v <;> first | exact hv.elim | skip
    · walk_at "rd"; exact h1 rfl
    all_goals walk_at "rd"
    all_goals exact ⟨_, rfl, trivial, h1, h2⟩
/-! ### told_ends, lesser_end, lower_ceiling -/
def keepN : V → Option V
  | .non => none
  | v => some v
theorem keep_tl {x y : V} (hx : NI x) (hy : NI y) : [x, y].filterMap keepN = (tl x y).map V.int := by
  rcases hx with rfl | ⟨i, rfl⟩ <;> rcases hy with rfl | ⟨j, rfl⟩ <;> rfl
def spTold : Sp := fun vs H Q _ => ∃ x y, vs = [x, y] ∧ NI x ∧ NI y ∧ ∀ p H', Same H H' → H' p = some (.lst ((tl x y).map V.int)) → Q (.ref p) H'
theorem ok_told_ends {k : Nat} {f : Addr} {fd : FuncData} (F : Fun K "told_ends" "told_ends" stold_ends f fd) (T : Blt mg) : FnOk P w K mg base CX0 (k + 1) f fd ["first", "second"] spTold := by
  refine F.ok sctold_ends (fun vs H Q E h => ?_) (fun cdv A outer s H vs Q E hr h => ?_)
  · obtain ⟨x, y, rfl, _⟩ := h; rfl
  · obtain ⟨x, y, rfl, hx, hy, h⟩ := h
    refine ⟨_, (pss_one (ps_ret (pe_lc (own := [("end", 2)]) (g := gName 2) (by rfl) sctold_ends.nd (pi_tup (pe_tup (pa_cons (pv 0) (pa_cons (pv 1) pa_nil)))) (blkOk_by (own := [("end", 2)]) (N := ["first", "second", "end"]) (sc := defScope stold_ends) (by decide +kernel)) (fun _ _ _ _ _ => pg_name (i := 2) sctold_ends.nd rfl (Or.inl rfl)) (fun _ _ _ _ _ => (pts_one (pt_cmpR op_notN (pv 2) pe_non (nomark _)))) (fun _ _ _ _ _ => (pv 2))))), ?_⟩
    walk_at "rd"
    refine ⟨sz (by simp), fun tp ntp => ?_⟩
    refine ⟨tp, rfl, ⟨_, st_of upd_same⟩, fun D nD => lc_tup (xs := [x, y]) (fun i H' => Same H H' ∧ H' tp = some (.tup [x, y]) ∧ H' D = some (.lst (([x, y].take i).filterMap keepN))) ⟨(same_new ntp).trans (same_new nD), same_new nD _ _ upd_same, upd_same⟩ (fun i H' _ hp => st_of hp.2.1) (fun i z H' hz hp => ?_) (fun H' hp => ?_)⟩
    · obtain ⟨s1, s2, s3⟩ := hp
      have hD : D ≠ tp := (ne_of_none upd_same nD).symm
      have ntD : H D = none := by rw [upd_ne hD] at nD; exact nD
      have ez : ([x, y].take (i + 1)).filterMap keepN = ([x, y].take i).filterMap keepN ++ (match keepN z with | none => [] | some v => [v]) := by
        rw [List.take_add_one, hz, List.filterMap_append]
        cases e : keepN z <;> simp [e]
      have hzn : NI z := by
        have := List.mem_of_getElem? hz
        simp at this
        rcases this with rfl | rfl <;> assumption
      refine ⟨rfl, ?_⟩
      rcases hzn with rfl | ⟨n, rfl⟩
      · walk_at "rd"
        refine ⟨s1, s2, ?_⟩
        rw [ez, s3]; simp [keepN]
      · walk_at "rd"
        refine ⟨_, s3, ?_, ?_, ?_, ?_⟩
        · have := List.length_filterMap_le keepN ([x, y].take i)
          have h2 : ([x, y].take i).length ≤ 2 := by rw [List.length_take]; simp; omega
          exact Nat.lt_of_le_of_lt (by omega : _ ≤ 2) (by decide)
        · exact same_mut s1 ntD
        · rw [upd_ne hD.symm]; exact s2
        · rw [upd_same, ez]; rfl
    · obtain ⟨s1, s2, s3⟩ := hp
      refine h D H' s1 ?_
      rw [s3, ← keep_tl hx hy]; rfl
def spLesser : Sp := fun vs H Q _ => ∃ x y, vs = [x, y] ∧ NI x ∧ NI y ∧ ∀ H', Same H H' → Q (lowC x y) H'
theorem ok_lesser_end {k : Nat} {f : Addr} {fd : FuncData} (F : Fun K "lesser_end" "lesser_end" slesser_end f fd) (T : Blt mg) (Htold_ends : Has P w K mg base "told_ends" k ["first", "second"] spTold) : FnOk P w K mg base CX0 (k + 1) f fd ["first", "second"] spLesser := by
  refine F.ok sclesser_end (fun vs H Q E h => ?_) (fun cdv A outer s H vs Q E hr h => ?_)
  · obtain ⟨x, y, rfl, _⟩ := h; rfl
  · obtain ⟨x, y, rfl, hx, hy, h⟩ := h
    refine ⟨_, (pss_one (ps_ret (pe_callBK (cr_minD rfl hr.units) (by rfl) T.min (by decide +kernel) (pa_cons (pe_callH Htold_ends hr (by rfl) (pa_cons (pv 0) (pa_cons (pv 1) pa_nil))) pa_nil) (pk_cons pe_non pk_nil)))), ?_⟩
    walk_at "rd"
    refine ⟨x, y, rfl, hx, hy, fun p H' s1 hp => ?_⟩
    walk_at "rd"
    have h := h H' s1
    refine ⟨p, _, .non, rfl, rfl, sl_of hp, fun e => ?_, fun m hm hl => ?_⟩
    · rcases hx with rfl | ⟨i, rfl⟩ <;> rcases hy with rfl | ⟨j, rfl⟩ <;> first | exact h | cases e
    · rcases hx with rfl | ⟨i, rfl⟩ <;> rcases hy with rfl | ⟨j, rfl⟩ <;> simp [tl, ofV] at hm hl <;> (try simp [lowC] at h)
      · subst hm; exact h
      · subst hm; exact h
      · have : m = if j < i then j else i := by split <;> omega
        rw [this]; exact h
def spGreater : Sp := fun vs H Q _ => ∃ x y, vs = [x, y] ∧ NI x ∧ NI y ∧ ∀ H', Same H H' → Q (grC x y) H'
theorem ok_greater_end {k : Nat} {f : Addr} {fd : FuncData} (F : Fun K "greater_end" "greater_end" sgreater_end f fd) (T : Blt mg) (Htold_ends : Has P w K mg base "told_ends" k ["first", "second"] spTold) : FnOk P w K mg base CX0 (k + 1) f fd ["first", "second"] spGreater := by
  refine F.ok scgreater_end (fun vs H Q E h => ?_) (fun cdv A outer s H vs Q E hr h => ?_)
  · obtain ⟨x, y, rfl, _⟩ := h; rfl
  · obtain ⟨x, y, rfl, hx, hy, h⟩ := h
    refine ⟨_, (pss_one (ps_ret (pe_callBK (cr_maxD rfl hr.units) (by rfl) T.max (by decide +kernel) (pa_cons (pe_callH Htold_ends hr (by rfl) (pa_cons (pv 0) (pa_cons (pv 1) pa_nil))) pa_nil) (pk_cons pe_non pk_nil)))), ?_⟩
    walk_at "rd"
    refine ⟨x, y, rfl, hx, hy, fun p H' s1 hp => ?_⟩
    walk_at "rd"
    have h := h H' s1
    refine ⟨p, _, .non, rfl, rfl, sl_of hp, fun e => ?_, fun m hm hl => ?_⟩
    · rcases hx with rfl | ⟨i, rfl⟩ <;> rcases hy with rfl | ⟨j, rfl⟩ <;> first | exact h | cases e
    · rcases hx with rfl | ⟨i, rfl⟩ <;> rcases hy with rfl | ⟨j, rfl⟩ <;> simp [tl, ofV] at hm hl <;> (try simp [grC] at h)
      · subst hm; exact h
      · subst hm; exact h
      · have : m = if i < j then j else i := by split <;> omega
        rw [this]; exact h
/-! ### two fields; crossed ends -/
theorem ok_BadSpan_init {k : Nat} {f : Addr} {fd : FuncData} (F : Fun K "__init__" "BadSpan.__init__" sBadSpan___init__ f fd) : FnOk P w K mg base CX0 (k + 1) f fd ["self", "low", "high"] (spInit2 K "low" "high") := by
  refine F.ok scBadSpan___init__ (fun vs H Q E h => ?_) (fun cdv A outer s H vs Q E hr h => ?_)
  · obtain ⟨a, C, u, v, rfl, _⟩ := h; rfl
  · obtain ⟨a, C, u, v, rfl, ox, nf, ng, ha, h⟩ := h
    refine ⟨_, (pss_cons (ps_ost (pv 0) (pv 1))
 (pss_one (ps_ost (pv 0) (pv 2)))), ?_⟩
    exact ⟨u, rfl, .ref a, rfl, a, C, rfl, ox, nf, .inl ⟨ha, fun dx ndx ne => ⟨v, rfl, .ref a, rfl, a, C, rfl, ox, ng, .inr ⟨dx, [("low", u)], upd_same, by rw [upd_ne ne]; exact upd_same, by simp, h dx ndx ne⟩⟩⟩⟩
def spCrossed : Sp := fun vs H Q _ => ∃ x y, vs = [x, y] ∧ NI x ∧ NI y ∧ Q (.bl (crossed x y)) H
theorem ok_are_crossed {k : Nat} {f : Addr} {fd : FuncData} (F : Fun K "are_crossed" "are_crossed" sare_crossed f fd) (T : Blt mg) : FnOk P w K mg base CX0 (k + 1) f fd ["low", "high"] spCrossed := by
  refine F.ok scare_crossed (fun vs H Q E h => ?_) (fun cdv A outer s H vs Q E hr h => ?_)
  · obtain ⟨x, y, rfl, _⟩ := h; rfl
  · obtain ⟨x, y, rfl, hx, hy, h⟩ := h
    refine ⟨_, (pss_one (ps_ret (pe_and (pe_cmpR op_notN (pv 0) pe_non (nomark _)) (pe_and (pe_cmpR op_notN (pv 1) pe_non (nomark _)) (pe_one (pe_cmpR op_gt (pv 0) (pv 1) (nomark _))))))), ?_⟩
    rcases hx with rfl | ⟨i, rfl⟩ <;> rcases hy with rfl | ⟨j, rfl⟩ <;> walk_at "rd" <;> exact h
def ErrB (E : XK) (C : Addr) (H : Hp) (x y : V) : Prop := ∀ d H', Same H H' → H' d = some (.xd [("high", y), ("low", x)]) → E (.ref C) (some d) H'
def spLowHigh (C : Addr) : Sp := fun vs H Q E => ∃ x y, vs = [x, y] ∧ NI x ∧ NI y ∧ (crossed x y = false → Q .non H) ∧ (crossed x y = true → ErrB E C H x y)
theorem ok_check_low_high {k : Nat} {f C2 : Addr} {fd : FuncData} (F : Fun K "check_low_high" "check_low_high" scheck_low_high f fd) (T : Blt mg) (E_BadSpan : ErrC K mg "BadSpan" C2) (I_BadSpan : HasI P w K mg base C2 1 ["self", "low", "high"] (spInit2 K "low" "high")) (N1 : PySem.W.findIn K (.ref C2) "low" = some none) (N2 : PySem.W.findIn K (.ref C2) "high" = some none)
    (Hare_crossed : Has P w K mg base "are_crossed" k ["low", "high"] spCrossed) (hk : 2 ≤ k) : FnOk P w K mg base (L2.CX P w) (k + 1) f fd ["low", "high"] (spLowHigh C2) := by
  refine F.okX sccheck_low_high (fun vs H Q E h => ?_) (fun cdv A outer s H vs Q E hr h => ?_)
  · obtain ⟨x, y, rfl, _⟩ := h; rfl
  · obtain ⟨x, y, rfl, hx, hy, h1, h2⟩ := h
    refine ⟨_, (pss_one (ps_if (pt_val (pe_callH Hare_crossed hr (by rfl) (pa_cons (pv 0) (pa_cons (pv 1) pa_nil)))) (pss_one (ps_raiseC rfl (takes_of rfl rfl rfl rfl) E_BadSpan I_BadSpan hr (by omega) (by rfl) (pa_cons (pv 0) (pa_cons (pv 1) pa_nil)))) pss_nil)), ?_⟩
    walk_at "rd"
    refine ⟨x, y, rfl, hx, hy, ?_⟩
    walk_at "rd"
    refine if_bool (fun hc => ?_) (fun hc => ?_)
    · walk_at "rd"
      exact rd_mk2 E_BadSpan.ox N1 N2 fun d H' _ sm e => h2 hc d H' sm e
    · walk_at "rd"
      exact h1 hc
end

abbrev sSpan___init__ : Stmt := inClass (topS 19) 0
theorem scSpan___init__ : FnScope ["self", "low", "high"] ["self", "low", "high"] (defScope sSpan___init__) := ⟨rfl, rfl, rfl, by decide +kernel, rfl, by decide +kernel, by decide +kernel⟩
abbrev sSpan___contains__ : Stmt := inClass (topS 19) 2
theorem scSpan___contains__ : FnScope ["self", "light", "above_low"] ["self", "light"] (defScope sSpan___contains__) := ⟨rfl, rfl, rfl, by decide +kernel, rfl, by decide +kernel, by decide +kernel⟩
abbrev sSpan___and__ : Stmt := inClass (topS 19) 3
theorem scSpan___and__ : FnScope ["self", "other", "low", "high"] ["self", "other"] (defScope sSpan___and__) := ⟨rfl, rfl, rfl, by decide +kernel, rfl, by decide +kernel, by decide +kernel⟩
local macro_rules | `(tactic| walk_at "side") => `(tactic| first | assumption | exact Z.sl_of (by assumption) | exact upd_same | (show (0 : Int) < _; omega) | exact Or.inl ⟨by omega, by omega⟩ | exact Or.inr ⟨by omega, by omega⟩)
local macro_rules | `(tactic| walk_at "tyof") => `(tactic| first | exact TyOf.int _ | exact TyOf.bl _ | exact TyOf.non | exact TyOf.str _ | (apply TyOf.lst; assumption) | (apply TyOf.tup; assumption))
local macro_rules | `(tactic| walk_at "rd1") => `(tactic| first
  | with_reducible first
    | refine rd_seq ?_ | refine rd_asg ?_ | refine rd_c ?_ | refine rd_op ?_ | refine rd_cons ?_ | refine rd_nil ?_ | refine rd_cb ?_ | refine rd_call ?_ | refine rd_I0 ?_ | refine rd_eqI ?_ | refine rd_bx ?_ | refine rd_nn ?_ | refine rd_int1 ?_ | refine rd_max2 ?_ | refine rd_min2 ?_
    | refine rd_ret ?_ | refine rd_ifS ?_ | refine rd_test ?_ | refine rd_tB ?_ | refine rd_not ?_ | refine rd_and ?_ | refine rd_or ?_ | refine rd_un ?_ | refine rd_U ?_ | refine rd_next ?_ | refine rd_drop ?_ | refine rd_andV ?_ | refine rd_orV ?_ | refine rd_notV ?_ | refine rd_if ?_ | refine rd_neI ?_
    | refine rd_lst ?_ | refine rd_tup ?_ | refine rd_sl ?_ | refine rd_bm ?_ | refine rd_chain ?_ | refine rd_asgS ?_ | refine iteT ?_ | refine iteF ?_ | refine if_nn ?_ | refine if_nf ?_ | refine if_nt ?_ | refine if_nnN ?_ | refine if_n_int ?_ | refine if_n_bl ?_ | refine if_n_str ?_ | refine if_n_ref ?_ | refine if_nN_int ?_ | refine if_nN_bl ?_ | refine if_nN_str ?_ | refine if_nN_ref ?_ | refine rd_eqB ?_ | refine rd_eqS ?_ | refine rd_neB ?_ | refine rd_part ?_ | refine rd_nopart ?_ | refine rd_for ?_ | refine rd_iRng1 ?_ | refine rd_iList ?_ | refine rd_iTup ?_ | refine rd_lc ?_ | refine rd_callS ?_ | refine rd_callKS ?_ | refine rd_mkO ?_ | refine rd_ckw ?_ | refine rd_xf ?_
    | refine rd_p9 ?_ | refine rd_p11 ?_ | refine rd_p12 ?_ | refine rd_p13 ?_ | refine rd_p18 ?_ | refine rd_p30 ?_ | refine rd_p40 ?_ | refine rd_ss ?_ | refine rd_s1 ?_ | refine rd_i1 ?_ | refine rd_fld ?_ | refine rd_sfld ?_ | refine rd_make ?_ | refine rd_lrv ?_ | refine rd_dnewK ?_ | refine rd_dput ?_ | refine rd_dnotin ?_ | refine rd_yes ?_ | refine rd_callNS ?_ | refine rd_callSD ?_ | refine rd_ii ?_ | refine rd_si ?_ | refine rd_iStr ?_
  | ((with_reducible refine rd_var (v := ?v) ?hv ?_); (case hv => exact rfl))
  | ((with_reducible refine rd_setS (j := ?j) ?he ?_); (case he => exact rfl))
  | ((with_reducible refine rd_isi (a := ?a) (b := ?b) ?ty ?k ?_); (case ty => first | exact TyOf.int _ | exact TyOf.bl _ | exact TyOf.non | exact TyOf.str _); (case k => with_reducible first | exact kb_int_int | exact kb_int_bool | exact kb_int_str | exact kb_int_dict | exact kb_int_list | exact kb_int_tuple | exact kb_bool_int | exact kb_bool_bool | exact kb_bool_str | exact kb_bool_dict | exact kb_bool_list | exact kb_bool_tuple | exact kb_NoneType_int | exact kb_NoneType_bool | exact kb_NoneType_str | exact kb_NoneType_dict | exact kb_NoneType_list | exact kb_NoneType_tuple | exact kb_str_int | exact kb_str_bool | exact kb_str_str | exact kb_str_dict | exact kb_str_list | exact kb_str_tuple))
  | ((with_reducible refine rd_isiL (b := ?b) (by assumption) ?k ?_); (case k => with_reducible first | exact kb_list_int | exact kb_list_bool | exact kb_list_str | exact kb_list_dict | exact kb_list_list | exact kb_list_tuple))
  | ((with_reducible refine rd_isiT (b := ?b) (by assumption) ?k ?_); (case k => with_reducible first | exact kb_tuple_int | exact kb_tuple_bool | exact kb_tuple_str | exact kb_tuple_dict | exact kb_tuple_list | exact kb_tuple_tuple))
  | ((with_reducible refine rd_I ?hc ?_); (case hc => walk_at "side"))
  | ((with_reducible refine rd_ixL (xs := ?xs) (v := ?v) ?hh ?he ?_); (case hh => first | exact upd_same | assumption); (case he => exact rfl)))
local macro_rules | `(tactic| walk_at "rd") => `(tactic| repeat walk_at "rd1")

/-! a class that may be called by its name -/
structure HasMk (P : Program) (w : World) (K : PySem.W.Frag) (mg : Str → Option Value) (base : Heap) (CX : CXT) (C : Addr) (x : Str) (k : Nat) (ps : List Str) (dvs : List V) (sp : Sp) : Prop where
  ex : ∃ f fd ds, FnOk P w K mg base CX k f fd ps sp ∧ Mk K C f ∧ mg x = some (.ref C) ∧ Vals dvs ds ∧ Binds K fd ps ds
theorem HasMk.mono {P : Program} {w : World} {K : PySem.W.Frag} {mg : Str → Option Value} {base : Heap} {CX : CXT} {C : Addr} {x : Str} {j k : Nat} {ps : List Str} {dvs : List V} {sp : Sp} (h : HasMk P w K mg base CX C x j ps dvs sp) (l : j ≤ k) : HasMk P w K mg base CX C x k ps dvs sp := by
  obtain ⟨f, fd, ds, F, r⟩ := h.ex
  exact ⟨f, fd, ds, F.mono l, r⟩
theorem pe_makeH {X : Cx} {CX : CXT} {C : Addr} {x : Str} {k : Nat} {ps : List Str} {dvs : List V} {sp : Sp} {E : XK} {p pos : Pos} {e : Expr} {es : List Expr} {t : TA} (h : HasMk X.prog X.w X.K X.mg X.base CX C x k ps dvs sp) (hr : Room (k + 1) X.A) (hg : Gl X x) (hx : Passes CX X E) (ha : PA X (e :: es) t)
    (hdb : (x == ("__debug__" : Str)) = false := by decide) (he : starEach (e :: es) X.env = (false, eval e X.env) :: starEach es X.env := by rfl) (hpl : (backTo pos (starEach es X.env)).any (·.1) = false := by rfl) :
    PE X (.Call (.Name x p) (e :: es) [] pos) (tMake C sp dvs E t) := by
  obtain ⟨f, fd, ds, F, M, hm, hd, hb⟩ := h.ex
  exact pe_make M F hr hg hm hb hd hx ha hdb he hpl
section
variable {P : Program} {w : World} {K : PySem.W.Frag} {mg : Str → Option Value} {base : Heap} {C CE CB : Addr}
structure SpC (K : PySem.W.Frag) (C : Addr) : Prop where
  cl : Cls K C
  nl : NoAttr K C "low"
  nh : NoAttr K C "high"
abbrev spn (l h : V) : List (Str × V) := [("low", l), ("high", h)]
theorem spn_low {l h : V} : (spn l h).lookup ("low" : Str) = some l := by simp [spn, List.lookup]
theorem spn_high {l h : V} : (spn l h).lookup ("high" : Str) = some h := by
  have e : (("high" : Str) == ("low" : Str)) = false := by decide
  simp [spn, List.lookup, e]
/-! ### Span.__init__ -/
def spSpanI (C CE CB : Addr) : Sp := fun vs H Q E => ∃ (a dx : Addr) (l h : V), vs = [.ref a, l, h] ∧ H a = some (.ins C dx []) ∧ Sc l ∧ Sc h ∧ (isOpen l = true → isOpen h = true → crossed l h = false → Q .non (upd H a (.ins C dx (spn l h)))) ∧
  (isOpen l = false → Err E CE H l) ∧ (isOpen l = true → isOpen h = false → Err E CE H h) ∧ (isOpen l = true → isOpen h = true → crossed l h = true → ErrB E CB H l h)
theorem open_NI {x : V} (h : isOpen x = true) : NI x := by
  cases x <;> first | exact .inl rfl | exact .inr ⟨_, rfl⟩ | cases h
theorem ok_span_init {k : Nat} {f : Addr} {fd : FuncData} (F : FunD K "__init__" "Span.__init__" (defArgs sSpan___init__) (defBody sSpan___init__) (defScope sSpan___init__) [.non, .non] [] f fd) (T : Blt mg) (S : SpC K C)
    (Hcheck_open_number : HasX P w K mg base "check_open_number" k ["value"] (spCheckO CE)) (Hcheck_low_high : HasX P w K mg base "check_low_high" k ["low", "high"] (spLowHigh CB)) : FnOk P w K mg base (L2.CX P w) (k + 1) f fd ["self", "low", "high"] (spSpanI C CE CB) := by
  refine F.ok scSpan___init__ (fun vs H Q E h => ?_) (fun cdv A outer s H vs Q E hr h => ?_)
  · obtain ⟨a, dx, l, h, rfl, _⟩ := h; rfl
  · obtain ⟨a, dx, l, hh, rfl, ha, sl, sh, h1, h2, h3, h4⟩ := h
    refine ⟨_, (pss_cons (ps_expr (pe_callX Hcheck_open_number hr (by rfl) (takes_of rfl rfl rfl rfl) (pa_cons (pv 1) pa_nil)))
 (pss_cons (ps_expr (pe_callX Hcheck_open_number hr (by rfl) (takes_of rfl rfl rfl rfl) (pa_cons (pv 2) pa_nil)))
 (pss_cons (ps_expr (pe_callX Hcheck_low_high hr (by rfl) (takes_of rfl rfl rfl rfl) (pa_cons (pv 1) (pa_cons (pv 2) pa_nil))))
 (pss_cons (ps_fld (pv 0) (pv 1) rfl)
 (pss_one (ps_fld (pv 0) (pv 2) rfl)))))), ?_⟩
    walk_at "rd"
    refine ⟨l, rfl, sl, fun ol => ?_, h2⟩
    walk_at "rd"
    refine ⟨hh, rfl, sh, fun oh => ?_, h3 ol⟩
    walk_at "rd"
    refine ⟨l, hh, rfl, open_NI ol, open_NI oh, fun nc => ?_, h4 ol oh⟩
    walk_at "rd"
    refine ⟨a, C, dx, _, rfl, ha, S.cl, S.nl, by simp, ?_⟩
    walk_at "rd"
    refine ⟨a, C, dx, _, rfl, upd_same, S.cl, S.nh, by simp [putF], ?_⟩
    have e : putF "high" hh (putF "low" l []) = spn l hh := by
      have e0 : ¬ (("low" : Str) = ("high" : Str)) := by decide
      simp [putF, spn, e0]
    rw [upd_upd, e]
    walk_at "rd"
    exact h1 ol oh nc
/-! ### Span.__contains__ -/
def lets_ (l h : V) (n : Int) : Bool := (match l with | .int i => decide (i ≤ n) | _ => true) && (match h with | .int j => decide (n ≤ j) | _ => true)
def spContains (C : Addr) : Sp := fun vs H Q _ => ∃ (a dx : Addr) (l h : V) (n : Int), vs = [.ref a, .int n] ∧ H a = some (.ins C dx (spn l h)) ∧ NI l ∧ NI h ∧ Q (.bl (lets_ l h n)) H
theorem ok_contains {k : Nat} {f : Addr} {fd : FuncData} (F : Fun K "__contains__" "Span.__contains__" sSpan___contains__ f fd) (T : Blt mg) (S : SpC K C) : FnOk P w K mg base CX0 (k + 1) f fd ["self", "light"] (spContains C) := by
  refine F.ok scSpan___contains__ (fun vs H Q E h => ?_) (fun cdv A outer s H vs Q E hr h => ?_)
  · obtain ⟨a, dx, l, h, n, rfl, _⟩ := h; rfl
  · obtain ⟨a, dx, l, hh, n, rfl, ha, hl, hh', h⟩ := h
    refine ⟨_, (pss_cons (ps_set (i := 2) scSpan___contains__.nd rfl (.inl rfl) (pe_or (pe_cmpR op_isN (pe_fld (pv 0) rfl) pe_non (nomark _)) (pe_one (pe_cmpR op_le (pe_fld (pv 0) rfl) (pv 1) (nomark _)))))
 (pss_one (ps_ret (pe_and (pv 2) (pe_one (pe_or (pe_cmpR op_isN (pe_fld (pv 0) rfl) pe_non (nomark _)) (pe_one (pe_cmpR op_le (pv 1) (pe_fld (pv 0) rfl) (nomark _))))))))), ?_⟩
    rcases hl with rfl | ⟨i, rfl⟩
    · walk_at "rd"
      refine ⟨a, C, dx, _, .non, rfl, ha, S.cl, S.nl, spn_low, ?_⟩
      walk_at "rd"
      refine ⟨a, C, dx, _, hh, rfl, ha, S.cl, S.nh, spn_high, ?_⟩
      rcases hh' with rfl | ⟨j, rfl⟩
      · walk_at "rd"
        exact h
      · walk_at "rd"
        refine ⟨a, C, dx, _, .int j, rfl, ha, S.cl, S.nh, spn_high, ?_⟩
        walk_at "rd"
        simpa [lets_] using h
    · walk_at "rd"
      refine ⟨a, C, dx, _, .int i, rfl, ha, S.cl, S.nl, spn_low, ?_⟩
      walk_at "rd"
      refine ⟨a, C, dx, _, .int i, rfl, ha, S.cl, S.nl, spn_low, ?_⟩
      walk_at "rd"
      refine if_dec (fun hi => ?_) (fun hi => ?_)
      · have e : lets_ (.int i) hh n = lets_ .non hh n := by simp [lets_, hi]
        rw [e] at h
        walk_at "rd"
        refine ⟨a, C, dx, _, hh, rfl, ha, S.cl, S.nh, spn_high, ?_⟩
        rcases hh' with rfl | ⟨j, rfl⟩
        · walk_at "rd"
          exact h
        · walk_at "rd"
          refine ⟨a, C, dx, _, .int j, rfl, ha, S.cl, S.nh, spn_high, ?_⟩
          walk_at "rd"
          simpa [lets_] using h
      · have e : lets_ (.int i) hh n = false := by simp [lets_, hi]
        rw [e] at h
        walk_at "rd"
        exact h
/-! ### Span.__and__ -/
def OpE (v : V) : Prop := NI v ∧ isOpen v = true
theorem OpE.sc {v : V} (h : OpE v) : Sc v := by
  rcases h.1 with rfl | ⟨n, rfl⟩ <;> trivial
theorem open_grC {x y : V} (hx : OpE x) (hy : OpE y) : OpE (grC x y) := by
  rcases hx with ⟨rfl | ⟨i, rfl⟩, ox⟩ <;> rcases hy with ⟨rfl | ⟨j, rfl⟩, oy⟩
  · exact ⟨.inl rfl, rfl⟩
  · exact ⟨.inr ⟨j, rfl⟩, oy⟩
  · exact ⟨.inr ⟨i, rfl⟩, ox⟩
  · show OpE (.int (if i < j then j else i))
    split
    · exact ⟨.inr ⟨j, rfl⟩, oy⟩
    · exact ⟨.inr ⟨i, rfl⟩, ox⟩
theorem open_lowC {x y : V} (hx : OpE x) (hy : OpE y) : OpE (lowC x y) := by
  rcases hx with ⟨rfl | ⟨i, rfl⟩, ox⟩ <;> rcases hy with ⟨rfl | ⟨j, rfl⟩, oy⟩
  · exact ⟨.inl rfl, rfl⟩
  · exact ⟨.inr ⟨j, rfl⟩, oy⟩
  · exact ⟨.inr ⟨i, rfl⟩, ox⟩
  · show OpE (.int (if j < i then j else i))
    split
    · exact ⟨.inr ⟨j, rfl⟩, oy⟩
    · exact ⟨.inr ⟨i, rfl⟩, ox⟩
def spAnd (C : Addr) : Sp := fun vs H Q _ => ∃ (a b dx dy : Addr) (l1 h1 l2 h2 : V), vs = [.ref a, .ref b] ∧ H a = some (.ins C dx (spn l1 h1)) ∧ H b = some (.ins C dy (spn l2 h2)) ∧ OpE l1 ∧ OpE h1 ∧ OpE l2 ∧ OpE h2 ∧
  (crossed (grC l1 l2) (lowC h1 h2) = true → ∀ H', Same H H' → Q .non H') ∧ (crossed (grC l1 l2) (lowC h1 h2) = false → ∀ p dp H', Same H H' → H p = none → H' p = some (.ins C dp (spn (grC l1 l2) (lowC h1 h2))) → Q (.ref p) H')
theorem ok_and {k j : Nat} {f : Addr} {fd : FuncData} (F : Fun K "__and__" "Span.__and__" sSpan___and__ f fd) (T : Blt mg) (S : SpC K C) (HM_Span : HasMk P w K mg base (L2.CX P w) C "Span" j ["self", "low", "high"] [] (spSpanI C CE CB)) (hk : j + 1 ≤ k)
    (Hgreater_end : Has P w K mg base "greater_end" k ["first", "second"] spGreater) (Hlesser_end : Has P w K mg base "lesser_end" k ["first", "second"] spLesser) (Hare_crossed : Has P w K mg base "are_crossed" k ["low", "high"] spCrossed) : FnOk P w K mg base CX0 (k + 1) f fd ["self", "other"] (spAnd C) := by
  refine F.ok scSpan___and__ (fun vs H Q E h => ?_) (fun cdv A outer s H vs Q E hr h => ?_)
  · obtain ⟨a, b, dx, dy, l1, h1, l2, h2, rfl, _⟩ := h; rfl
  · obtain ⟨a, b, dx, dy, l1, h1, l2, h2, rfl, ha, hb, o1, o2, o3, o4, hy, hn⟩ := h
    refine ⟨_, (pss_cons (ps_set (i := 2) scSpan___and__.nd rfl (.inl rfl) (pe_callH Hgreater_end hr (by rfl) (pa_cons (pe_fld (pv 0) rfl) (pa_cons (pe_fld (pv 1) rfl) pa_nil))))
 (pss_cons (ps_set (i := 3) scSpan___and__.nd rfl (.inl rfl) (pe_callH Hlesser_end hr (by rfl) (pa_cons (pe_fld (pv 0) rfl) (pa_cons (pe_fld (pv 1) rfl) pa_nil))))
 (pss_one (ps_ret (pe_ifExp (pt_val (pe_callH Hare_crossed hr (by rfl) (pa_cons (pv 2) (pa_cons (pv 3) pa_nil)))) pe_non (pe_makeH HM_Span (hr.mono hk) (by rfl) (passF takes0) (pa_cons (pv 2) (pa_cons (pv 3) pa_nil)))))))), ?_⟩
    walk_at "rd"
    refine ⟨a, C, dx, _, l1, rfl, ha, S.cl, S.nl, spn_low, ?_⟩
    walk_at "rd"
    refine ⟨b, C, dy, _, l2, rfl, hb, S.cl, S.nl, spn_low, ?_⟩
    walk_at "rd"
    refine ⟨l1, l2, rfl, o1.1, o3.1, fun H1 s1 => ?_⟩
    walk_at "rd"
    refine ⟨a, C, dx, _, h1, rfl, s1 _ _ ha, S.cl, S.nh, spn_high, ?_⟩
    walk_at "rd"
    refine ⟨b, C, dy, _, h2, rfl, s1 _ _ hb, S.cl, S.nh, spn_high, ?_⟩
    walk_at "rd"
    refine ⟨h1, h2, rfl, o2.1, o4.1, fun H2 s2 => ?_⟩
    have g1 := open_grC o1 o3
    have g2 := open_lowC o2 o4
    have s12 := s1.trans s2
    walk_at "rd"
    refine ⟨_, _, rfl, g1.1, g2.1, ?_⟩
    walk_at "rd"
    refine if_bool (fun hc => ?_) (fun hc => ?_)
    · walk_at "rd"
      exact hy hc H2 s12
    · walk_at "rd"
      intro p dp np ndp ne
      refine ⟨p, dp, _, _, rfl, upd_same, g1.sc, g2.sc, fun _ _ _ => ⟨rfl, ?_⟩, fun o => ?_, fun _ o => ?_, fun _ _ c => ?_⟩
      · exact hn hc p dp _ (s12.trans (same_mut ((same_new ndp).trans (same_new (by rw [upd_ne ne.symm]; exact np))) np)) (s12.free np) upd_same
      · rw [g1.2] at o; cases o
      · rw [g2.2] at o; cases o
      · rw [hc] at c; cases c
end

abbrev sSpan___eq__ : Stmt := inClass (topS 19) 4
theorem scSpan___eq__ : FnScope ["self", "other"] ["self", "other"] (defScope sSpan___eq__) := ⟨rfl, rfl, rfl, by decide +kernel, rfl, by decide +kernel, by decide +kernel⟩
local macro_rules | `(tactic| walk_at "side") => `(tactic| first | assumption | exact Z.sl_of (by assumption) | exact upd_same | (show (0 : Int) < _; omega) | exact Or.inl ⟨by omega, by omega⟩ | exact Or.inr ⟨by omega, by omega⟩)
local macro_rules | `(tactic| walk_at "tyof") => `(tactic| first | exact TyOf.int _ | exact TyOf.bl _ | exact TyOf.non | exact TyOf.str _ | (apply TyOf.lst; assumption) | (apply TyOf.tup; assumption))
local macro_rules | `(tactic| walk_at "rd1") => `(tactic| first
  | with_reducible first
    | refine rd_seq ?_ | refine rd_asg ?_ | refine rd_c ?_ | refine rd_op ?_ | refine rd_cons ?_ | refine rd_nil ?_ | refine rd_cb ?_ | refine rd_call ?_ | refine rd_I0 ?_ | refine rd_eqI ?_ | refine rd_bx ?_ | refine rd_nn ?_ | refine rd_int1 ?_ | refine rd_max2 ?_ | refine rd_min2 ?_
    | refine rd_ret ?_ | refine rd_ifS ?_ | refine rd_test ?_ | refine rd_tB ?_ | refine rd_not ?_ | refine rd_and ?_ | refine rd_or ?_ | refine rd_un ?_ | refine rd_U ?_ | refine rd_next ?_ | refine rd_drop ?_ | refine rd_andV ?_ | refine rd_orV ?_ | refine rd_notV ?_ | refine rd_if ?_ | refine rd_neI ?_
    | refine rd_lst ?_ | refine rd_tup ?_ | refine rd_sl ?_ | refine rd_bm ?_ | refine rd_chain ?_ | refine rd_asgS ?_ | refine iteT ?_ | refine iteF ?_ | refine if_nn ?_ | refine if_nf ?_ | refine if_nt ?_ | refine if_nnN ?_ | refine if_n_int ?_ | refine if_n_bl ?_ | refine if_n_str ?_ | refine if_n_ref ?_ | refine if_nN_int ?_ | refine if_nN_bl ?_ | refine if_nN_str ?_ | refine if_nN_ref ?_ | refine rd_eqB ?_ | refine rd_eqS ?_ | refine rd_neB ?_ | refine rd_part ?_ | refine rd_nopart ?_ | refine rd_for ?_ | refine rd_iRng1 ?_ | refine rd_iList ?_ | refine rd_iTup ?_ | refine rd_lc ?_ | refine rd_callS ?_ | refine rd_callKS ?_ | refine rd_mkO ?_ | refine rd_ckw ?_ | refine rd_xf ?_
    | refine rd_p9 ?_ | refine rd_p11 ?_ | refine rd_p12 ?_ | refine rd_p13 ?_ | refine rd_p18 ?_ | refine rd_p30 ?_ | refine rd_p40 ?_ | refine rd_ss ?_ | refine rd_s1 ?_ | refine rd_i1 ?_ | refine rd_fld ?_ | refine rd_sfld ?_ | refine rd_make ?_ | refine rd_lrv ?_ | refine rd_dnewK ?_ | refine rd_dput ?_ | refine rd_dnotin ?_ | refine rd_yes ?_ | refine rd_callNS ?_ | refine rd_callSD ?_ | refine rd_ii ?_ | refine rd_si ?_ | refine rd_iStr ?_
  | ((with_reducible refine rd_var (v := ?v) ?hv ?_); (case hv => exact rfl))
  | ((with_reducible refine rd_setS (j := ?j) ?he ?_); (case he => exact rfl))
  | ((with_reducible refine rd_isi (a := ?a) (b := ?b) ?ty ?k ?_); (case ty => first | exact TyOf.int _ | exact TyOf.bl _ | exact TyOf.non | exact TyOf.str _); (case k => with_reducible first | exact kb_int_int | exact kb_int_bool | exact kb_int_str | exact kb_int_dict | exact kb_int_list | exact kb_int_tuple | exact kb_bool_int | exact kb_bool_bool | exact kb_bool_str | exact kb_bool_dict | exact kb_bool_list | exact kb_bool_tuple | exact kb_NoneType_int | exact kb_NoneType_bool | exact kb_NoneType_str | exact kb_NoneType_dict | exact kb_NoneType_list | exact kb_NoneType_tuple | exact kb_str_int | exact kb_str_bool | exact kb_str_str | exact kb_str_dict | exact kb_str_list | exact kb_str_tuple))
  | ((with_reducible refine rd_isiL (b := ?b) (by assumption) ?k ?_); (case k => with_reducible first | exact kb_list_int | exact kb_list_bool | exact kb_list_str | exact kb_list_dict | exact kb_list_list | exact kb_list_tuple))
  | ((with_reducible refine rd_isiT (b := ?b) (by assumption) ?k ?_); (case k => with_reducible first | exact kb_tuple_int | exact kb_tuple_bool | exact kb_tuple_str | exact kb_tuple_dict | exact kb_tuple_list | exact kb_tuple_tuple))
  | ((with_reducible refine rd_I ?hc ?_); (case hc => walk_at "side"))
  | ((with_reducible refine rd_ixL (xs := ?xs) (v := ?v) ?hh ?he ?_); (case hh => first | exact upd_same | assumption); (case he => exact rfl)))
local macro_rules | `(tactic| walk_at "rd") => `(tactic| repeat walk_at "rd1")

theorem pe_globC {X : Cx} {x : Str} {C : Addr} {pos : Pos} (hg : Gl X x) (hm : X.mg x = some (.ref C)) (hd : (x == ("__debug__" : Str)) = false := by decide) : PE X (.Name x pos) (tC (.ref C)) := pe_glob hg hm rfl hd
section
variable {P : Program} {w : World} {K : PySem.W.Frag} {mg : Str → Option Value} {base : Heap} {C : Addr}
/-- isinstance's facts of the class -/
structure SpI (K : PySem.W.Frag) (C : Addr) : Prop where
  cl : Cls K C
  ha : PySem.W.findIn K (.ref C) "__class__" = some (some (.builtin "object.__class__"))
  hn : PySem.W.specialIn K (.builtin "object.__class__") "__get__" = some (some (.builtin "getset_descriptor.__get__"))
  ht : PySem.W.takesIn K (.builtin "object.__class__") = some true
  hm : PySem.W.mroIn K C (.type "object") = some true
  self : PySem.W.kitOne K (.ref C) (.ref C) = some true
  int : PySem.W.kitOne K (.type "int") (.ref C) = some false
  str : PySem.W.kitOne K (.type "str") (.ref C) = some false
  tup : PySem.W.kitOne K (.type "tuple") (.ref C) = some false
  non : PySem.W.kitOne K (.type "NoneType") (.ref C) = some false
theorem rd_isiC {H : Hp} {Q : VK} {x : V} {t : Value} {b : Bool} (ty : TyOf K H x t) (e : PySem.W.kitOne K t (.ref C) = some b) (q : Q (.bl b) H) : rIsi K [x, .ref C] H Q := ⟨x, .ref C, t, .ref C, b, rfl, .own C, .base ty, e, q⟩
theorem rd_eqN {x y : V} {H : Hp} {Q : VK} (hx : NI x) (hy : NI y) (h : Q (.bl (decide (x = y))) H) : rEq x y H Q := by
  refine ⟨?_, h⟩
  rcases hx with rfl | ⟨i, rfl⟩ <;> rcases hy with rfl | ⟨j, rfl⟩ <;> rfl
def spEqS (K : PySem.W.Frag) (C : Addr) : Sp := fun vs H Q _ => ∃ (a dx : Addr) (l h y : V), vs = [.ref a, y] ∧ H a = some (.ins C dx (spn l h)) ∧ NI l ∧ NI h ∧
  ((∃ (b dy : Addr) (l2 h2 : V), y = .ref b ∧ H b = some (.ins C dy (spn l2 h2)) ∧ NI l2 ∧ NI h2 ∧ Q (.bl (decide (l = l2) && decide (h = h2))) H) ∨ (((∃ i, y = .int i) ∨ (∃ z, y = .str z) ∨ ∃ b xs, y = .ref b ∧ H b = some (.tup xs)) ∧ Q (.bl false) H))
theorem ok_eqS {k : Nat} {f : Addr} {fd : FuncData} (F : Fun K "__eq__" "Span.__eq__" sSpan___eq__ f fd) (T : Blt mg) (S : SpC K C) (SI : SpI K C) (gS : mg "Span" = some (.ref C)) : FnOk P w K mg base CX0 (k + 1) f fd ["self", "other"] (spEqS K C) := by
  refine F.ok scSpan___eq__ (fun vs H Q E h => ?_) (fun cdv A outer s H vs Q E hr h => ?_)
  · obtain ⟨a, dx, l, h, y, rfl, _⟩ := h; rfl
  · obtain ⟨a, dx, l, hh, y, rfl, ha, nl, nh, h⟩ := h
    refine ⟨_, (pss_one (ps_ret (pe_and (pe_callB call_isi (by rfl) T.isinstance (by decide +kernel) (pa_cons (pv 1) (pa_cons (pe_globC rfl gS) pa_nil))) (pe_and (pe_cmpR op_eq (pe_fld (pv 0) rfl) (pe_fld (pv 1) rfl) (nomark _)) (pe_one (pe_cmpR op_eq (pe_fld (pv 0) rfl) (pe_fld (pv 1) rfl) (nomark _))))))), ?_⟩
    rcases h with ⟨b, dy, l2, h2, rfl, hb, nl2, nh2, h⟩ | ⟨hy, h⟩
    · walk_at "rd"
      refine rd_isiC (.ins hb SI.cl SI.ha SI.hn SI.ht SI.hm) SI.self ?_
      walk_at "rd"
      refine ⟨a, C, dx, _, l, rfl, ha, S.cl, S.nl, spn_low, ?_⟩
      walk_at "rd"
      refine ⟨b, C, dy, _, l2, rfl, hb, S.cl, S.nl, spn_low, ?_⟩
      refine rd_eqN nl nl2 ?_
      walk_at "rd"
      by_cases e : l = l2
      · rw [decide_eq_true e] at h ⊢
        walk_at "rd"
        refine ⟨a, C, dx, _, hh, rfl, ha, S.cl, S.nh, spn_high, ?_⟩
        walk_at "rd"
        refine ⟨b, C, dy, _, h2, rfl, hb, S.cl, S.nh, spn_high, ?_⟩
        refine rd_eqN nh nh2 ?_
        walk_at "rd"
        simpa using h
      · rw [decide_eq_false e] at h ⊢
        walk_at "rd"
        exact h
    · walk_at "rd"
      rcases hy with ⟨i, rfl⟩ | ⟨z, rfl⟩ | ⟨b, xs, rfl, hb⟩
      · refine rd_isiC (.int i) SI.int ?_
        walk_at "rd"
        exact h
      · refine rd_isiC (.str z) SI.str ?_
        walk_at "rd"
        exact h
      · refine rd_isiC (.tup hb) SI.tup ?_
        walk_at "rd"
        exact h
end

abbrev s_law_ends : Stmt := topS 32
theorem sc_law_ends : FnScope ["store", "pool", "kind", "one", "other"] ["store", "pool"] (defScope s_law_ends) := ⟨rfl, rfl, rfl, by decide +kernel, rfl, by decide +kernel, by decide +kernel⟩
abbrev s_law_held : Stmt := topS 40
theorem sc_law_held : FnScope ["light", "pairs", "ends"] ["light", "pairs"] (defScope s_law_held) := ⟨rfl, rfl, rfl, by decide +kernel, rfl, by decide +kernel, by decide +kernel⟩
local macro_rules | `(tactic| walk_at "side") => `(tactic| first | assumption | exact Z.sl_of (by assumption) | exact upd_same | (show (0 : Int) < _; omega) | exact Or.inl ⟨by omega, by omega⟩ | exact Or.inr ⟨by omega, by omega⟩)
local macro_rules | `(tactic| walk_at "tyof") => `(tactic| first | exact TyOf.int _ | exact TyOf.bl _ | exact TyOf.non | exact TyOf.str _ | (apply TyOf.lst; assumption) | (apply TyOf.tup; assumption))
local macro_rules | `(tactic| walk_at "rd1") => `(tactic| first
  | with_reducible first
    | refine rd_seq ?_ | refine rd_asg ?_ | refine rd_c ?_ | refine rd_op ?_ | refine rd_cons ?_ | refine rd_nil ?_ | refine rd_cb ?_ | refine rd_call ?_ | refine rd_I0 ?_ | refine rd_eqI ?_ | refine rd_bx ?_ | refine rd_nn ?_ | refine rd_int1 ?_ | refine rd_max2 ?_ | refine rd_min2 ?_
    | refine rd_ret ?_ | refine rd_ifS ?_ | refine rd_test ?_ | refine rd_tB ?_ | refine rd_not ?_ | refine rd_and ?_ | refine rd_or ?_ | refine rd_un ?_ | refine rd_U ?_ | refine rd_next ?_ | refine rd_drop ?_ | refine rd_andV ?_ | refine rd_orV ?_ | refine rd_notV ?_ | refine rd_if ?_ | refine rd_neI ?_
    | refine rd_lst ?_ | refine rd_tup ?_ | refine rd_sl ?_ | refine rd_bm ?_ | refine rd_chain ?_ | refine rd_asgS ?_ | refine iteT ?_ | refine iteF ?_ | refine if_nn ?_ | refine if_nf ?_ | refine if_nt ?_ | refine if_nnN ?_ | refine if_n_int ?_ | refine if_n_bl ?_ | refine if_n_str ?_ | refine if_n_ref ?_ | refine if_nN_int ?_ | refine if_nN_bl ?_ | refine if_nN_str ?_ | refine if_nN_ref ?_ | refine rd_eqB ?_ | refine rd_eqS ?_ | refine rd_neB ?_ | refine rd_part ?_ | refine rd_nopart ?_ | refine rd_for ?_ | refine rd_iRng1 ?_ | refine rd_iList ?_ | refine rd_iTup ?_ | refine rd_lc ?_ | refine rd_callS ?_ | refine rd_callKS ?_ | refine rd_mkO ?_ | refine rd_ckw ?_ | refine rd_xf ?_
    | refine rd_p9 ?_ | refine rd_p11 ?_ | refine rd_p12 ?_ | refine rd_p13 ?_ | refine rd_p18 ?_ | refine rd_p30 ?_ | refine rd_p40 ?_ | refine rd_ss ?_ | refine rd_s1 ?_ | refine rd_i1 ?_ | refine rd_fld ?_ | refine rd_sfld ?_ | refine rd_make ?_ | refine rd_lrv ?_ | refine rd_dnewK ?_ | refine rd_dput ?_ | refine rd_dnotin ?_ | refine rd_yes ?_ | refine rd_callNS ?_ | refine rd_callSD ?_ | refine rd_ii ?_ | refine rd_si ?_ | refine rd_iStr ?_
  | ((with_reducible refine rd_var (v := ?v) ?hv ?_); (case hv => exact rfl))
  | ((with_reducible refine rd_setS (j := ?j) ?he ?_); (case he => exact rfl))
  | ((with_reducible refine rd_isi (a := ?a) (b := ?b) ?ty ?k ?_); (case ty => first | exact TyOf.int _ | exact TyOf.bl _ | exact TyOf.non | exact TyOf.str _); (case k => with_reducible first | exact kb_int_int | exact kb_int_bool | exact kb_int_str | exact kb_int_dict | exact kb_int_list | exact kb_int_tuple | exact kb_bool_int | exact kb_bool_bool | exact kb_bool_str | exact kb_bool_dict | exact kb_bool_list | exact kb_bool_tuple | exact kb_NoneType_int | exact kb_NoneType_bool | exact kb_NoneType_str | exact kb_NoneType_dict | exact kb_NoneType_list | exact kb_NoneType_tuple | exact kb_str_int | exact kb_str_bool | exact kb_str_str | exact kb_str_dict | exact kb_str_list | exact kb_str_tuple))
  | ((with_reducible refine rd_isiL (b := ?b) (by assumption) ?k ?_); (case k => with_reducible first | exact kb_list_int | exact kb_list_bool | exact kb_list_str | exact kb_list_dict | exact kb_list_list | exact kb_list_tuple))
  | ((with_reducible refine rd_isiT (b := ?b) (by assumption) ?k ?_); (case k => with_reducible first | exact kb_tuple_int | exact kb_tuple_bool | exact kb_tuple_str | exact kb_tuple_dict | exact kb_tuple_list | exact kb_tuple_tuple))
  | ((with_reducible refine rd_I ?hc ?_); (case hc => walk_at "side"))
  | ((with_reducible refine rd_ixL (xs := ?xs) (v := ?v) ?hh ?he ?_); (case hh => first | exact upd_same | assumption); (case he => exact rfl)))
local macro_rules | `(tactic| walk_at "rd") => `(tactic| repeat walk_at "rd1")

def Bar (v : V) : Prop := v = .non ∨ ∃ n, v = .int n ∧ InR n
theorem Bar.op {v : V} (h : Bar v) : OpE v := by
  rcases h with rfl | ⟨n, rfl, h⟩
  · exact ⟨.inl rfl, rfl⟩
  · exact ⟨.inr ⟨n, rfl⟩, decide_eq_true h⟩
section
variable {P : Program} {w : World} {K : PySem.W.Frag} {mg : Str → Option Value} {base : Heap} {C : Addr}
/-! ### _law_ends -/
def spEnds : Sp := fun vs H Q _ => ∃ S : Sto, ∃ p, ∃ ns : List Int, vs = [.ref S.1, .ref p] ∧ StoreOk S H ∧ At S H p (.lst (ns.map V.int)) ∧ 0 < ns.length ∧ ns.length < 1000 ∧
  ∀ q l h H', Bar l → Bar h → crossed l h = false → H q = none → At S H' q (.tup [l, h]) → StoreOk S H' → ExS S H H' → Q (.ref q) H'
theorem exs_free {S : Sto} {H H2 : Hp} {u : Addr} (e : ExS S H H2) (hS : StoreOk S H2) (n : H2 u = none) : H u = none := by
  cases q : H u with
  | none => rfl
  | some o => rw [e u o (hS.ne1 n) q] at n; cases n
theorem ok_ends {k : Nat} {f : Addr} {fd : FuncData} (F : Fun K "_law_ends" "_law_ends" s_law_ends f fd) (T : Blt mg) (H_law_take : Has P w K mg base "_law_take" k ["store", "many"] spTake) (H_law_near : Has P w K mg base "_law_near" k ["store", "pool"] spNear) : FnOk P w K mg base CX0 (k + 1) f fd ["store", "pool"] spEnds := by
  refine F.ok sc_law_ends (fun vs H Q E h => ?_) (fun cdv A outer s H vs Q E hr h => ?_)
  · obtain ⟨S, p, ns, rfl, _⟩ := h; rfl
  · obtain ⟨S, p, ns, rfl, hS, hA, l0, l1, h⟩ := h
    refine ⟨_, (pss_cons (ps_set (i := 2) sc_law_ends.nd rfl (.inl rfl) (pe_callH H_law_take hr (by rfl) (pa_cons (pv 0) (pa_cons pe_int pa_nil))))
 (pss_cons (ps_if (pt_cmpR op_lt (pv 2) pe_int (nomark _)) (pss_one (ps_ret (pe_tup (pa_cons pe_non (pa_cons pe_non pa_nil))))) pss_nil)
 (pss_cons (ps_set (i := 3) sc_law_ends.nd rfl (.inl rfl) (pe_callH H_law_near hr (by rfl) (pa_cons (pv 0) (pa_cons (pv 1) pa_nil))))
 (pss_cons (ps_if (pt_cmpR op_eq (pv 2) pe_int (nomark _)) (pss_one (ps_ret (pe_tup (pa_cons pe_non (pa_cons (pv 3) pa_nil))))) pss_nil)
 (pss_cons (ps_if (pt_cmpR op_eq (pv 2) pe_int (nomark _)) (pss_one (ps_ret (pe_tup (pa_cons (pv 3) (pa_cons pe_non pa_nil))))) pss_nil)
 (pss_cons (ps_if (pt_cmpR op_eq (pv 2) pe_int (nomark _)) (pss_one (ps_ret (pe_tup (pa_cons (pv 3) (pa_cons (pv 3) pa_nil))))) pss_nil)
 (pss_cons (ps_set (i := 4) sc_law_ends.nd rfl (.inl rfl) (pe_callH H_law_near hr (by rfl) (pa_cons (pv 0) (pa_cons (pv 1) pa_nil))))
 (pss_one (ps_ret (pe_tup (pa_cons (pe_callB (call_min2 rfl) (by rfl) T.min (by decide +kernel) (pa_cons (pv 3) (pa_cons (pv 4) pa_nil))) (pa_cons (pe_callB (call_max2 rfl) (by rfl) T.max (by decide +kernel) (pa_cons (pv 3) (pa_cons (pv 4) pa_nil))) pa_nil)))))))))))), ?_⟩
    have fin : ∀ {H1 : Hp} {l hh : V}, Bar l → Bar hh → crossed l hh = false → StoreOk S H1 → ExS S H H1 → [l, hh].length ≤ sizeLine ∧ ∀ q, H1 q = none → Q (.ref q) (upd H1 q (.tup [l, hh])) := fun {H1 l hh} b1 b2 c hS1 e1 =>
      ⟨sz (by simp), fun q nq => h q l hh _ b1 b2 c (exs_free e1 hS1 nq) (.new hS1 nq) (hS1.new nq) (e1.trans (ExS.new nq))⟩
    walk_at "rd"
    refine ⟨S, 6, rfl, by omega, hS, fun r H1 r0 r1 hS1 e1 => ?_⟩
    walk_at "rd"
    refine if_dec (fun hk => ?_) (fun hk => ?_)
    · walk_at "rd"
      exact fin (.inl rfl) (.inl rfl) rfl hS1 e1
    · walk_at "rd"
      refine ⟨S, p, ns, rfl, hS1, hA.back e1, l0, l1, fun n H2 hn hS2 e2 => ?_⟩
      have e2' := e1.trans e2
      walk_at "rd"
      refine if_dec (fun hk2 => ?_) (fun hk2 => ?_)
      · walk_at "rd"
        exact fin (.inl rfl) (.inr ⟨n, rfl, hn⟩) rfl hS2 e2'
      · walk_at "rd"
        refine if_dec (fun hk3 => ?_) (fun hk3 => ?_)
        · walk_at "rd"
          exact fin (.inr ⟨n, rfl, hn⟩) (.inl rfl) rfl hS2 e2'
        · walk_at "rd"
          refine if_dec (fun hk5 => ?_) (fun hk5 => ?_)
          · walk_at "rd"
            exact fin (.inr ⟨n, rfl, hn⟩) (.inr ⟨n, rfl, hn⟩) (decide_eq_false (by omega)) hS2 e2'
          · walk_at "rd"
            refine ⟨S, p, ns, rfl, hS2, hA.back e2', l0, l1, fun m H3 hm hS3 e3 => ?_⟩
            walk_at "rd"
            refine fin (.inr ⟨_, rfl, ?_⟩) (.inr ⟨_, rfl, ?_⟩) (decide_eq_false ?_) hS3 (e2'.trans e3)
            all_goals unfold InR at *
            all_goals (repeat' split)
            all_goals omega
/-! ### _law_held -/
def heldAll (n : Int) (prs : List (V × V)) : Bool := prs.all fun p => lets_ p.1 p.2 n
/-- pairs of ends, as they stand -/
def PrsAt (H : Hp) (a : Addr) (prs : List (V × V)) : Prop := ∃ qs : List Addr, H a = some (.lst (qs.map V.ref)) ∧ qs.length = prs.length ∧ ∀ (i : Nat) (q : Addr) (p : V × V), qs[i]? = some q → prs[i]? = some p → H q = some (.tup [p.1, p.2]) ∧ NI p.1 ∧ NI p.2
theorem PrsAt.same {H H' : Hp} {a : Addr} {prs : List (V × V)} (h : PrsAt H a prs) (s : Same H H') : PrsAt H' a prs := by
  obtain ⟨qs, h1, h2, h3⟩ := h
  exact ⟨qs, s _ _ h1, h2, fun i q p a b => let ⟨x, y⟩ := h3 i q p a b; ⟨s _ _ x, y⟩⟩
def spHeld : Sp := fun vs H Q _ => ∃ (n : Int) (a : Addr) (prs : List (V × V)), vs = [.int n, .ref a] ∧ PrsAt H a prs ∧ Q (.bl (heldAll n prs)) H
theorem ok_held {k : Nat} {f : Addr} {fd : FuncData} (F : Fun K "_law_held" "_law_held" s_law_held f fd) (T : Blt mg) : FnOk P w K mg base CX0 (k + 1) f fd ["light", "pairs"] spHeld := by
  refine F.ok sc_law_held (fun vs H Q E h => ?_) (fun cdv A outer s H vs Q E hr h => ?_)
  · obtain ⟨n, a, prs, rfl, _⟩ := h; rfl
  · obtain ⟨n, a, prs, rfl, ⟨qs, ha, hl, hq⟩, h⟩ := h
    refine ⟨_, (pss_cons (ps_for PassesOwn.never rfl (pi_list (pv 1)) (pg_name (i := 2) sc_law_held.nd rfl (.inl rfl)) (pss_one (ps_if (PW.pt (pw_or (PW.pt (pw_and (pt_cmpR op_notN (pe_ix ix_seq (pv 2) pe_int (fun _ _ => rfl)) pe_non (nomark _)) (pw_and1 (pt_cmpR op_lt (pv 0) (pe_ix ix_seq (pv 2) pe_int (fun _ _ => rfl)) (nomark _))))) (pw_or1 (PW.pt (pw_and (pt_cmpR op_notN (pe_ix ix_seq (pv 2) pe_int (fun _ _ => rfl)) pe_non (nomark _)) (pw_and1 (pt_cmpR op_gt (pv 0) (pe_ix ix_seq (pv 2) pe_int (fun _ _ => rfl)) (nomark _)))))))) (pss_one (ps_ret pe_bl)) pss_nil)))
 (pss_one (ps_ret pe_bl))), ?_⟩
    walk_at "rd"
    refine ⟨a, rfl, ⟨_, sl_of ha⟩, for_lst (xs := qs.map V.ref) (fun i σ H' => ∃ y, σ = [some (.int n), some (.ref a), y] ∧ H' = H ∧ ∀ p ∈ prs.take i, lets_ p.1 p.2 n = true) ⟨_, rfl, rfl, by simp⟩ ?_ ?_ ?_⟩
    · rintro i σ H' ⟨y, rfl, rfl, _⟩
      exact ha
    · rintro i x σ H' hi ⟨y, rfl, rfl, hall⟩
      obtain ⟨q, hqi, rfl⟩ : ∃ q, qs[i]? = some q ∧ x = V.ref q := by
        rw [List.getElem?_map] at hi
        cases e : qs[i]? with
        | none => rw [e] at hi; cases hi
        | some q => rw [e] at hi; exact ⟨q, rfl, (Option.some.inj hi).symm⟩
      have hil : i < prs.length := by rw [← hl]; exact (List.getElem?_eq_some_iff.mp hqi).1
      obtain ⟨⟨l, hh⟩, hp⟩ : ∃ p, prs[i]? = some p := ⟨_, List.getElem?_eq_getElem hil⟩
      obtain ⟨ht, nl, nh⟩ := hq i q _ hqi hp
      have no : lets_ l hh n = false → Q (.bl false) H' := fun e => by
        rw [show heldAll n prs = false from ?_] at h
        · exact h
        · unfold heldAll
          rw [List.all_eq_false]
          exact ⟨(l, hh), List.mem_of_getElem? hp, by rw [e]; simp⟩
      have yes : lets_ l hh n = true → ∀ p ∈ prs.take (i + 1), lets_ p.1 p.2 n = true := fun e p hp' => by
        rw [List.take_add_one, hp] at hp'
        rcases List.mem_append.mp hp' with q1 | q1
        · exact hall p q1
        · have : p = (l, hh) := by simpa using q1
          rw [this]; exact e
      dsimp only at ht nl nh
      rcases nl with rfl | ⟨i1, rfl⟩
      · walk_at "rd"
        refine rd_ixQT ht rfl ?_
        walk_at "rd"
        refine rd_ixQT ht rfl ?_
        rcases nh with rfl | ⟨j, rfl⟩
        · walk_at "rd"
          exact ⟨_, rfl, rfl, yes (by simp [lets_])⟩
        · walk_at "rd"
          refine rd_ixQT ht rfl ?_
          walk_at "rd"
          refine if_dec (fun hj => ?_) (fun hj => ?_)
          · walk_at "rd"
            exact no (by simp [lets_]; omega)
          · walk_at "rd"
            exact ⟨_, rfl, rfl, yes (by simp [lets_]; omega)⟩

      · walk_at "rd"
        refine rd_ixQT ht rfl ?_
        walk_at "rd"
        refine rd_ixQT ht rfl ?_
        walk_at "rd"
        refine if_dec (fun h1 => ?_) (fun h1 => ?_)
        · walk_at "rd"
          exact no (by cases hh <;> simp [lets_] <;> omega)
        · walk_at "rd"
          refine rd_ixQT ht rfl ?_
          rcases nh with rfl | ⟨j, rfl⟩
          · walk_at "rd"
            exact ⟨_, rfl, rfl, yes (by simp [lets_]; omega)⟩
          · walk_at "rd"
            refine rd_ixQT ht rfl ?_
            walk_at "rd"
            refine if_dec (fun hj => ?_) (fun hj => ?_)
            · walk_at "rd"
              exact no (by simp [lets_]; omega)
            · walk_at "rd"
              exact ⟨_, rfl, rfl, yes (by simp [lets_]; omega)⟩
    · rintro σ H' ⟨y, rfl, rfl, hall⟩
      rw [List.length_map, hl, List.take_length] at hall
      rw [show heldAll n prs = true from List.all_eq_true.mpr hall] at h
      walk_at "rd"
      exact h
end

abbrev s_law_is_span : Stmt := topS 39
theorem sc_law_is_span : FnScope ["span", "ends"] ["span", "ends"] (defScope s_law_is_span) := ⟨rfl, rfl, rfl, by decide +kernel, rfl, by decide +kernel, by decide +kernel⟩
local macro_rules | `(tactic| walk_at "side") => `(tactic| first | assumption | exact Z.sl_of (by assumption) | exact upd_same | (show (0 : Int) < _; omega) | exact Or.inl ⟨by omega, by omega⟩ | exact Or.inr ⟨by omega, by omega⟩)
local macro_rules | `(tactic| walk_at "tyof") => `(tactic| first | exact TyOf.int _ | exact TyOf.bl _ | exact TyOf.non | exact TyOf.str _ | (apply TyOf.lst; assumption) | (apply TyOf.tup; assumption))
local macro_rules | `(tactic| walk_at "rd1") => `(tactic| first
  | with_reducible first
    | refine rd_seq ?_ | refine rd_asg ?_ | refine rd_c ?_ | refine rd_op ?_ | refine rd_cons ?_ | refine rd_nil ?_ | refine rd_cb ?_ | refine rd_call ?_ | refine rd_I0 ?_ | refine rd_eqI ?_ | refine rd_bx ?_ | refine rd_nn ?_ | refine rd_int1 ?_ | refine rd_max2 ?_ | refine rd_min2 ?_
    | refine rd_ret ?_ | refine rd_ifS ?_ | refine rd_test ?_ | refine rd_tB ?_ | refine rd_not ?_ | refine rd_and ?_ | refine rd_or ?_ | refine rd_un ?_ | refine rd_U ?_ | refine rd_next ?_ | refine rd_drop ?_ | refine rd_andV ?_ | refine rd_orV ?_ | refine rd_notV ?_ | refine rd_if ?_ | refine rd_neI ?_
    | refine rd_lst ?_ | refine rd_tup ?_ | refine rd_sl ?_ | refine rd_bm ?_ | refine rd_chain ?_ | refine rd_asgS ?_ | refine iteT ?_ | refine iteF ?_ | refine if_nn ?_ | refine if_nf ?_ | refine if_nt ?_ | refine if_nnN ?_ | refine if_n_int ?_ | refine if_n_bl ?_ | refine if_n_str ?_ | refine if_n_ref ?_ | refine if_nN_int ?_ | refine if_nN_bl ?_ | refine if_nN_str ?_ | refine if_nN_ref ?_ | refine rd_eqB ?_ | refine rd_eqS ?_ | refine rd_neB ?_ | refine rd_part ?_ | refine rd_nopart ?_ | refine rd_for ?_ | refine rd_iRng1 ?_ | refine rd_iList ?_ | refine rd_iTup ?_ | refine rd_lc ?_ | refine rd_callS ?_ | refine rd_callKS ?_ | refine rd_mkO ?_ | refine rd_ckw ?_ | refine rd_xf ?_
    | refine rd_p9 ?_ | refine rd_p11 ?_ | refine rd_p12 ?_ | refine rd_p13 ?_ | refine rd_p18 ?_ | refine rd_p30 ?_ | refine rd_p40 ?_ | refine rd_ss ?_ | refine rd_s1 ?_ | refine rd_i1 ?_ | refine rd_fld ?_ | refine rd_sfld ?_ | refine rd_make ?_ | refine rd_lrv ?_ | refine rd_dnewK ?_ | refine rd_dput ?_ | refine rd_dnotin ?_ | refine rd_yes ?_ | refine rd_callNS ?_ | refine rd_callSD ?_ | refine rd_ii ?_ | refine rd_si ?_ | refine rd_iStr ?_
  | ((with_reducible refine rd_var (v := ?v) ?hv ?_); (case hv => exact rfl))
  | ((with_reducible refine rd_setS (j := ?j) ?he ?_); (case he => exact rfl))
  | ((with_reducible refine rd_isi (a := ?a) (b := ?b) ?ty ?k ?_); (case ty => first | exact TyOf.int _ | exact TyOf.bl _ | exact TyOf.non | exact TyOf.str _); (case k => with_reducible first | exact kb_int_int | exact kb_int_bool | exact kb_int_str | exact kb_int_dict | exact kb_int_list | exact kb_int_tuple | exact kb_bool_int | exact kb_bool_bool | exact kb_bool_str | exact kb_bool_dict | exact kb_bool_list | exact kb_bool_tuple | exact kb_NoneType_int | exact kb_NoneType_bool | exact kb_NoneType_str | exact kb_NoneType_dict | exact kb_NoneType_list | exact kb_NoneType_tuple | exact kb_str_int | exact kb_str_bool | exact kb_str_str | exact kb_str_dict | exact kb_str_list | exact kb_str_tuple))
  | ((with_reducible refine rd_isiL (b := ?b) (by assumption) ?k ?_); (case k => with_reducible first | exact kb_list_int | exact kb_list_bool | exact kb_list_str | exact kb_list_dict | exact kb_list_list | exact kb_list_tuple))
  | ((with_reducible refine rd_isiT (b := ?b) (by assumption) ?k ?_); (case k => with_reducible first | exact kb_tuple_int | exact kb_tuple_bool | exact kb_tuple_str | exact kb_tuple_dict | exact kb_tuple_list | exact kb_tuple_tuple))
  | ((with_reducible refine rd_I ?hc ?_); (case hc => walk_at "side"))
  | ((with_reducible refine rd_ixL (xs := ?xs) (v := ?v) ?hh ?he ?_); (case hh => first | exact upd_same | assumption); (case he => exact rfl)))
local macro_rules | `(tactic| walk_at "rd") => `(tactic| repeat walk_at "rd1")

/-! ### the greatest low, the least high -/
def maxL : List (V × V) → V
  | [] => .non
  | p :: r => grC p.1 (maxL r)
def minH : List (V × V) → V
  | [] => .non
  | p :: r => lowC p.2 (minH r)
def AllNI (prs : List (V × V)) : Prop := ∀ p ∈ prs, NI p.1 ∧ NI p.2
theorem ni_maxL : ∀ {prs : List (V × V)}, AllNI prs → NI (maxL prs)
  | [], _ => .inl rfl
  | p :: r, h => by
    have h1 := (h p List.mem_cons_self).1
    have h2 := ni_maxL (prs := r) fun q hq => h q (List.mem_cons_of_mem _ hq)
    show NI (grC p.1 (maxL r))
    rcases h1 with e | ⟨i, e⟩ <;> rcases h2 with e2 | ⟨j, e2⟩ <;> rw [e, e2]
    · exact .inl rfl
    · exact .inr ⟨j, rfl⟩
    · exact .inr ⟨i, rfl⟩
    · exact .inr ⟨_, rfl⟩
theorem ni_minH : ∀ {prs : List (V × V)}, AllNI prs → NI (minH prs)
  | [], _ => .inl rfl
  | p :: r, h => by
    have h1 := (h p List.mem_cons_self).2
    have h2 := ni_minH (prs := r) fun q hq => h q (List.mem_cons_of_mem _ hq)
    show NI (lowC p.2 (minH r))
    rcases h1 with e | ⟨i, e⟩ <;> rcases h2 with e2 | ⟨j, e2⟩ <;> rw [e, e2]
    · exact .inl rfl
    · exact .inr ⟨j, rfl⟩
    · exact .inr ⟨i, rfl⟩
    · exact .inr ⟨_, rfl⟩
theorem lets_and {l1 h1 l2 h2 : V} {n : Int} (a : NI l1) (b : NI h1) (c : NI l2) (d : NI h2) : lets_ (grC l1 l2) (lowC h1 h2) n = (lets_ l1 h1 n && lets_ l2 h2 n) := by
  rw [Bool.eq_iff_iff]
  rcases a with rfl | ⟨i1, rfl⟩ <;> rcases b with rfl | ⟨j1, rfl⟩ <;> rcases c with rfl | ⟨i2, rfl⟩ <;> rcases d with rfl | ⟨j2, rfl⟩ <;> simp [lets_, grC, lowC] <;> (repeat' split) <;> omega
theorem held_lets {n : Int} : ∀ {prs : List (V × V)}, AllNI prs → heldAll n prs = lets_ (maxL prs) (minH prs) n
  | [], _ => rfl
  | p :: r, h => by
    have hp := h p List.mem_cons_self
    have hr : AllNI r := fun q hq => h q (List.mem_cons_of_mem _ hq)
    show (lets_ p.1 p.2 n && heldAll n r) = lets_ (grC p.1 (maxL r)) (lowC p.2 (minH r)) n
    rw [lets_and hp.1 hp.2 (ni_maxL hr) (ni_minH hr), held_lets hr]
theorem crossed_lets {l h : V} {n : Int} (a : NI l) (b : NI h) (c : crossed l h = true) : lets_ l h n = false := by
  rcases a with rfl | ⟨i, rfl⟩ <;> rcases b with rfl | ⟨j, rfl⟩ <;> try (cases c; done)
  have : j < i := of_decide_eq_true c
  unfold lets_
  simp
  omega
section
variable {P : Program} {w : World} {K : PySem.W.Frag} {mg : Str → Option Value} {base : Heap} {C : Addr}
/-! ### _law_is_span -/
def spIsSpan (C : Addr) : Sp := fun vs H Q _ => ∃ (a dx q : Addr) (l h : V), vs = [.ref a, .ref q] ∧ H a = some (.ins C dx (spn l h)) ∧ NI l ∧ NI h ∧ (H q = some (.tup [l, h]) ∨ H q = some (.lst [l, h])) ∧ ∀ H', Same H H' → Q (.bl true) H'
theorem NI.sc {v : V} (h : NI v) : Sc v := by
  rcases h with rfl | ⟨n, rfl⟩ <;> trivial
theorem ok_is_span {k : Nat} {f : Addr} {fd : FuncData} (F : Fun K "_law_is_span" "_law_is_span" s_law_is_span f fd) (T : Blt mg) (S : SpC K C) (SI : SpI K C) (gS : mg "Span" = some (.ref C)) (H_law_same : Has P w K mg base "_law_same" k ["actual", "expected"] (spSame 2)) : FnOk P w K mg base CX0 (k + 1) f fd ["span", "ends"] (spIsSpan C) := by
  refine F.ok sc_law_is_span (fun vs H Q E h => ?_) (fun cdv A outer s H vs Q E hr h => ?_)
  · obtain ⟨a, dx, q, l, h, rfl, _⟩ := h; rfl
  · obtain ⟨a, dx, q, l, hh, rfl, ha, nl, nh, hq, h⟩ := h
    have ix : ∀ {H1 : Hp} {i : Int} {v : V} {Q : VK}, Same H H1 → atI [l, hh] i = some v → Q v H1 → rIx K (.ref q) (.int i) H1 Q := fun {H1 i v Q} s e r => by
      rcases hq with hq | hq
      · exact rd_ixQT (s _ _ hq) e r
      · exact rd_ixQL (s _ _ hq) e r
    refine ⟨_, (pss_one (ps_ret (pe_and (pe_callB call_isi (by rfl) T.isinstance (by decide +kernel) (pa_cons (pv 0) (pa_cons (pe_globC rfl gS) pa_nil))) (pe_and (pe_callH H_law_same hr (by rfl) (pa_cons (pe_fld (pv 0) rfl) (pa_cons (pe_ix ix_seq (pv 1) pe_int (fun _ _ => rfl)) pa_nil))) (pe_one (pe_callH H_law_same hr (by rfl) (pa_cons (pe_fld (pv 0) rfl) (pa_cons (pe_ix ix_seq (pv 1) pe_int (fun _ _ => rfl)) pa_nil)))))))), ?_⟩
    walk_at "rd"
    refine rd_isiC (.ins ha SI.cl SI.ha SI.hn SI.ht SI.hm) SI.self ?_
    walk_at "rd"
    refine ⟨a, C, dx, _, l, rfl, ha, S.cl, S.nl, spn_low, ?_⟩
    walk_at "rd"
    refine ix (Same.refl H) rfl ?_
    refine ⟨_, _, rfl, .inl ⟨nl.sc, nl.sc, fun H1 s1 => ?_⟩⟩
    rw [decide_eq_true rfl]
    walk_at "rd"
    refine ⟨a, C, dx, _, hh, rfl, s1 _ _ ha, S.cl, S.nh, spn_high, ?_⟩
    walk_at "rd"
    refine ix s1 rfl ?_
    refine ⟨_, _, rfl, .inl ⟨nh.sc, nh.sc, fun H2 s2 => ?_⟩⟩
    rw [decide_eq_true rfl]
    exact h H2 (s1.trans s2)
end

abbrev s_law_is_meet : Stmt := topS 41
theorem sc_law_is_meet : FnScope ["met", "pairs", "lights", "lows", "highs", "bounds", "light", "ends"] ["met", "pairs", "lights"] (defScope s_law_is_meet) := ⟨rfl, rfl, rfl, by decide +kernel, rfl, by decide +kernel, by decide +kernel⟩
local macro_rules | `(tactic| walk_at "side") => `(tactic| first | assumption | exact Z.sl_of (by assumption) | exact upd_same | (show (0 : Int) < _; omega) | exact Or.inl ⟨by omega, by omega⟩ | exact Or.inr ⟨by omega, by omega⟩)
local macro_rules | `(tactic| walk_at "tyof") => `(tactic| first | exact TyOf.int _ | exact TyOf.bl _ | exact TyOf.non | exact TyOf.str _ | (apply TyOf.lst; assumption) | (apply TyOf.tup; assumption))
local macro_rules | `(tactic| walk_at "rd1") => `(tactic| first
  | with_reducible first
    | refine rd_seq ?_ | refine rd_asg ?_ | refine rd_c ?_ | refine rd_op ?_ | refine rd_cons ?_ | refine rd_nil ?_ | refine rd_cb ?_ | refine rd_call ?_ | refine rd_I0 ?_ | refine rd_eqI ?_ | refine rd_bx ?_ | refine rd_nn ?_ | refine rd_int1 ?_ | refine rd_max2 ?_ | refine rd_min2 ?_
    | refine rd_ret ?_ | refine rd_ifS ?_ | refine rd_test ?_ | refine rd_tB ?_ | refine rd_not ?_ | refine rd_and ?_ | refine rd_or ?_ | refine rd_un ?_ | refine rd_U ?_ | refine rd_next ?_ | refine rd_drop ?_ | refine rd_andV ?_ | refine rd_orV ?_ | refine rd_notV ?_ | refine rd_if ?_ | refine rd_neI ?_
    | refine rd_lst ?_ | refine rd_tup ?_ | refine rd_sl ?_ | refine rd_bm ?_ | refine rd_chain ?_ | refine rd_asgS ?_ | refine iteT ?_ | refine iteF ?_ | refine if_nn ?_ | refine if_nf ?_ | refine if_nt ?_ | refine if_nnN ?_ | refine if_n_int ?_ | refine if_n_bl ?_ | refine if_n_str ?_ | refine if_n_ref ?_ | refine if_nN_int ?_ | refine if_nN_bl ?_ | refine if_nN_str ?_ | refine if_nN_ref ?_ | refine rd_eqB ?_ | refine rd_eqS ?_ | refine rd_neB ?_ | refine rd_part ?_ | refine rd_nopart ?_ | refine rd_for ?_ | refine rd_iRng1 ?_ | refine rd_iList ?_ | refine rd_iTup ?_ | refine rd_lc ?_ | refine rd_callS ?_ | refine rd_callKS ?_ | refine rd_mkO ?_ | refine rd_ckw ?_ | refine rd_xf ?_
    | refine rd_p9 ?_ | refine rd_p11 ?_ | refine rd_p12 ?_ | refine rd_p13 ?_ | refine rd_p18 ?_ | refine rd_p30 ?_ | refine rd_p40 ?_ | refine rd_ss ?_ | refine rd_s1 ?_ | refine rd_i1 ?_ | refine rd_fld ?_ | refine rd_sfld ?_ | refine rd_make ?_ | refine rd_lrv ?_ | refine rd_dnewK ?_ | refine rd_dput ?_ | refine rd_dnotin ?_ | refine rd_yes ?_ | refine rd_callNS ?_ | refine rd_callSD ?_ | refine rd_ii ?_ | refine rd_si ?_ | refine rd_iStr ?_
  | ((with_reducible refine rd_var (v := ?v) ?hv ?_); (case hv => exact rfl))
  | ((with_reducible refine rd_setS (j := ?j) ?he ?_); (case he => exact rfl))
  | ((with_reducible refine rd_isi (a := ?a) (b := ?b) ?ty ?k ?_); (case ty => first | exact TyOf.int _ | exact TyOf.bl _ | exact TyOf.non | exact TyOf.str _); (case k => with_reducible first | exact kb_int_int | exact kb_int_bool | exact kb_int_str | exact kb_int_dict | exact kb_int_list | exact kb_int_tuple | exact kb_bool_int | exact kb_bool_bool | exact kb_bool_str | exact kb_bool_dict | exact kb_bool_list | exact kb_bool_tuple | exact kb_NoneType_int | exact kb_NoneType_bool | exact kb_NoneType_str | exact kb_NoneType_dict | exact kb_NoneType_list | exact kb_NoneType_tuple | exact kb_str_int | exact kb_str_bool | exact kb_str_str | exact kb_str_dict | exact kb_str_list | exact kb_str_tuple))
  | ((with_reducible refine rd_isiL (b := ?b) (by assumption) ?k ?_); (case k => with_reducible first | exact kb_list_int | exact kb_list_bool | exact kb_list_str | exact kb_list_dict | exact kb_list_list | exact kb_list_tuple))
  | ((with_reducible refine rd_isiT (b := ?b) (by assumption) ?k ?_); (case k => with_reducible first | exact kb_tuple_int | exact kb_tuple_bool | exact kb_tuple_str | exact kb_tuple_dict | exact kb_tuple_list | exact kb_tuple_tuple))
  | ((with_reducible refine rd_I ?hc ?_); (case hc => walk_at "side"))
  | ((with_reducible refine rd_ixL (xs := ?xs) (v := ?v) ?hh ?he ?_); (case hh => first | exact upd_same | assumption); (case he => exact rfl)))
local macro_rules | `(tactic| walk_at "rd") => `(tactic| repeat walk_at "rd1")

theorem ix_seqK {X : Cx} {K : PySem.W.Frag} (e : X.K = K) : IxR X (rIx K) := e ▸ ix_seq
def intV : V → Option Int
  | .int i => some i
  | _ => none
theorem intV_int {i : Int} : intV (.int i) = some i := rfl
theorem intV_non : intV .non = none := rfl
theorem maxL_spec : ∀ {prs : List (V × V)}, AllNI prs → (maxL prs = .non ∧ prs.filterMap (fun p => intV p.1) = []) ∨ ∃ m, maxL prs = .int m ∧ m ∈ prs.filterMap (fun p => intV p.1) ∧ ∀ y ∈ prs.filterMap (fun p => intV p.1), y ≤ m
  | [], _ => .inl ⟨rfl, rfl⟩
  | p :: r, h => by
    have hp := (h p List.mem_cons_self).1
    have hr := maxL_spec (prs := r) fun q hq => h q (List.mem_cons_of_mem _ hq)
    have e : maxL (p :: r) = grC p.1 (maxL r) := rfl
    rcases hp with q | ⟨i, q⟩ <;> rcases hr with ⟨e1, e2⟩ | ⟨m, e1, e2, e3⟩ <;> simp only [List.filterMap_cons, q, intV_int, intV_non, e, e1]
    · exact .inl ⟨rfl, e2⟩
    · exact .inr ⟨m, rfl, e2, e3⟩
    · exact .inr ⟨i, rfl, by simp, fun y hy => by rw [e2] at hy; simp at hy; omega⟩
    · refine .inr ⟨_, rfl, ?_, fun y hy => ?_⟩
      · split
        · exact List.mem_cons_of_mem _ e2
        · exact List.mem_cons_self
      · rcases List.mem_cons.mp hy with rfl | hy
        · split <;> omega
        · have := e3 y hy
          split <;> omega
theorem minH_spec : ∀ {prs : List (V × V)}, AllNI prs → (minH prs = .non ∧ prs.filterMap (fun p => intV p.2) = []) ∨ ∃ m, minH prs = .int m ∧ m ∈ prs.filterMap (fun p => intV p.2) ∧ ∀ y ∈ prs.filterMap (fun p => intV p.2), m ≤ y
  | [], _ => .inl ⟨rfl, rfl⟩
  | p :: r, h => by
    have hp := (h p List.mem_cons_self).2
    have hr := minH_spec (prs := r) fun q hq => h q (List.mem_cons_of_mem _ hq)
    have e : minH (p :: r) = lowC p.2 (minH r) := rfl
    rcases hp with q | ⟨i, q⟩ <;> rcases hr with ⟨e1, e2⟩ | ⟨m, e1, e2, e3⟩ <;> simp only [List.filterMap_cons, q, intV_int, intV_non, e, e1]
    · exact .inl ⟨rfl, e2⟩
    · exact .inr ⟨m, rfl, e2, e3⟩
    · exact .inr ⟨i, rfl, by simp, fun y hy => by rw [e2] at hy; simp at hy; omega⟩
    · refine .inr ⟨_, rfl, ?_, fun y hy => ?_⟩
      · split
        · exact List.mem_cons_of_mem _ e2
        · exact List.mem_cons_self
      · rcases List.mem_cons.mp hy with rfl | hy
        · split <;> omega
        · have := e3 y hy
          split <;> omega
section
variable {P : Program} {w : World} {K : PySem.W.Frag} {mg : Str → Option Value} {base : Heap} {C : Addr}
/-! ### _law_is_meet -/
def spIsMeet (C : Addr) : Sp := fun vs H Q _ => ∃ (met : V) (a b : Addr) (prs : List (V × V)) (ls : List Int), vs = [met, .ref a, .ref b] ∧ PrsAt H a prs ∧ AllNI prs ∧ prs.length ≤ 10 ∧ H b = some (.lst (ls.map V.int)) ∧ ls.length ≤ 10000 ∧
  ((met = .non ∧ crossed (maxL prs) (minH prs) = true) ∨ ∃ p dx, met = .ref p ∧ H p = some (.ins C dx (spn (maxL prs) (minH prs))) ∧ crossed (maxL prs) (minH prs) = false) ∧ ∀ H', Same H H' → Q (.bl true) H'
theorem ok_is_meet {k : Nat} {f : Addr} {fd : FuncData} (F : Fun K "_law_is_meet" "_law_is_meet" s_law_is_meet f fd) (T : Blt mg) (HM_contains : HasM P w K mg base CX0 C "__contains__" k ["self", "light"] (spContains C)) (H_law_held : Has P w K mg base "_law_held" k ["light", "pairs"] spHeld) (H_law_same : Has P w K mg base "_law_same" k ["actual", "expected"] (spSame 2)) (H_law_is_span : Has P w K mg base "_law_is_span" k ["span", "ends"] (spIsSpan C)) : FnOk P w K mg base CX0 (k + 1) f fd ["met", "pairs", "lights"] (spIsMeet C) := by
  refine F.ok sc_law_is_meet (fun vs H Q E h => ?_) (fun cdv A outer s H vs Q E hr h => ?_)
  · obtain ⟨met, a, b, prs, ls, rfl, _⟩ := h; rfl
  · obtain ⟨met, a, b, prs, ls, rfl, hP, hN, hpl, hb, hll, hm, h⟩ := h
    refine ⟨_, (pss_cons (ps_if (pt_cmpR op_isN (pv 0) pe_non (nomark _)) (pss_one (ps_ret (pe_cmpR op_eq (pe_callB call_len_seq (by rfl) T.len (by decide +kernel) (pa_cons (pe_lc (own := [("light", 6)]) (g := gName 6) (by rfl) sc_law_is_meet.nd (pi_list (pv 2)) (blkOk_by (own := [("light", 6)]) (N := ["met", "pairs", "lights", "lows", "highs", "bounds", "light", "ends"]) (sc := defScope s_law_is_meet) (by decide +kernel)) (fun _ _ _ _ _ => pg_name (i := 6) sc_law_is_meet.nd rfl (Or.inl rfl)) (fun _ _ _ _ _ => (pts_one (pt_val (pe_callH H_law_held hr (by rfl) (pa_cons (pv 6) (pa_cons (pv 1) pa_nil)))))) (fun _ _ _ _ _ => (pv 6))) pa_nil)) pe_int (nomark _)))) pss_nil)
 (pss_cons (ps_setLc (i := 3) (own := [("ends", 7)]) (g := gName 7) (by rfl) sc_law_is_meet.nd rfl rfl (sw_true rfl rfl rfl (by decide +kernel)) (pi_list (pv 1)) (blkOk_by (own := [("ends", 7)]) (N := ["met", "pairs", "lights", "lows", "highs", "bounds", "light", "ends"]) (sc := defScope s_law_is_meet) (by decide +kernel)) (fun _ _ _ _ _ => pg_name (i := 7) sc_law_is_meet.nd rfl (Or.inl rfl)) (fun _ _ _ _ _ => (pts_one (pt_cmpR op_notN (pe_ix (ix_seqK (K := K) rfl) (pv 7) pe_int (fun _ _ => rfl)) pe_non (nomark _)))) (fun _ _ _ _ _ => (pe_ix (ix_seqK (K := K) rfl) (pv 7) pe_int (fun _ _ => rfl))))
 (pss_cons (ps_setLc (i := 4) (own := [("ends", 7)]) (g := gName 7) (by rfl) sc_law_is_meet.nd rfl rfl (sw_true rfl rfl rfl (by decide +kernel)) (pi_list (pv 1)) (blkOk_by (own := [("ends", 7)]) (N := ["met", "pairs", "lights", "lows", "highs", "bounds", "light", "ends"]) (sc := defScope s_law_is_meet) (by decide +kernel)) (fun _ _ _ _ _ => pg_name (i := 7) sc_law_is_meet.nd rfl (Or.inl rfl)) (fun _ _ _ _ _ => (pts_one (pt_cmpR op_notN (pe_ix (ix_seqK (K := K) rfl) (pv 7) pe_int (fun _ _ => rfl)) pe_non (nomark _)))) (fun _ _ _ _ _ => (pe_ix (ix_seqK (K := K) rfl) (pv 7) pe_int (fun _ _ => rfl))))
 (pss_cons (ps_set (i := 5) sc_law_is_meet.nd rfl (.inl rfl) (pe_lst (pa_cons pe_non (pa_cons pe_non pa_nil))))
 (C8.pss_cut (ps_if (pt_cmpR op_gt (pe_callB call_len_seq (by rfl) T.len (by decide +kernel) (pa_cons (pv 3) pa_nil)) pe_int (nomark _)) (pss_one (ps_asg (pe_callB (cr_max rfl) (by rfl) T.max (by decide +kernel) (pa_cons (pv 3) pa_nil)) (pg_sub (pv 5) pe_int set_list))) pss_nil)
 (C8.pss_cut (ps_if (pt_cmpR op_gt (pe_callB call_len_seq (by rfl) T.len (by decide +kernel) (pa_cons (pv 4) pa_nil)) pe_int (nomark _)) (pss_one (ps_asg (pe_callB (cr_min rfl) (by rfl) T.min (by decide +kernel) (pa_cons (pv 4) pa_nil)) (pg_sub (pv 5) pe_int set_list))) pss_nil)
 (C8.pss_cut (ps_if (PW.pt (pw_and (pt_cmpR op_notN (pe_ix ix_list (pv 5) pe_int (fun _ _ => rfl)) pe_non (nomark _)) (pw_and (pt_cmpR op_notN (pe_ix ix_list (pv 5) pe_int (fun _ _ => rfl)) pe_non (nomark _)) (pw_and1 (pt_cmpR op_gt (pe_ix ix_list (pv 5) pe_int (fun _ _ => rfl)) (pe_ix ix_list (pv 5) pe_int (fun _ _ => rfl)) (nomark _)))))) (pss_one (ps_ret pe_bl)) pss_nil)
 (pss_cons (ps_for PassesOwn.never rfl (pi_list (pv 2)) (pg_name (i := 6) sc_law_is_meet.nd rfl (.inl rfl)) (pss_one (ps_if (pt_not (pt_val (pe_callH H_law_same hr (by rfl) (pa_cons (pe_cmpR (op_inM HM_contains hr pass0) (pv 6) (pv 0) (by rfl)) (pa_cons (pe_callH H_law_held hr (by rfl) (pa_cons (pv 6) (pa_cons (pv 1) pa_nil))) pa_nil))))) (pss_one (ps_ret pe_bl)) pss_nil)))
 (pss_one (ps_ret (pe_callH H_law_is_span hr (by rfl) (pa_cons (pv 0) (pa_cons (pv 5) pa_nil))))))))))))), ?_⟩
    have hst : ∀ {qs : List Addr} {i : Nat} {x : V}, (qs.map V.ref)[i]? = some x → ∃ q, qs[i]? = some q ∧ x = V.ref q := fun {qs i x} hi => by
      rw [List.getElem?_map] at hi
      cases e : qs[i]? with
      | none => rw [e] at hi; cases hi
      | some q => rw [e] at hi; exact ⟨q, rfl, (Option.some.inj hi).symm⟩
    rcases hm with ⟨rfl, hc⟩ | ⟨p, dx, rfl, hp, hc⟩
    · walk_at "rd"
      refine ⟨b, rfl, ⟨_, sl_of hb⟩, fun D nD => lc_list (xs := ls.map V.int) (fun i H' => H' = upd H D (.lst [])) rfl (fun i H' _ e => by rw [e]; exact sl_of (same_new nD _ _ hb)) (fun i x H' hx e => ?_) (fun H' e => ?_)⟩
      · subst e
        obtain ⟨n, hn, rfl⟩ := get_map hx
        refine ⟨rfl, ?_⟩
        walk_at "rd"
        refine ⟨n, a, prs, rfl, hP.same (same_new nD), ?_⟩
        rw [held_lets hN, crossed_lets (ni_maxL hN) (ni_minH hN) hc]
        walk_at "rd"
        rfl
      · subst e
        walk_at "rd"
        refine rd_seqL upd_same ?_
        walk_at "rd"
        exact h _ (same_new nD)
    · obtain ⟨qs, ha, hql, hq⟩ := hP
      have part : ∀ (fld : V × V → V) (j : Int), (∀ p : V × V, atI [p.1, p.2] j = some (fld p)) → (∀ p ∈ prs, NI (fld p)) → ∀ {H0 : Hp} {D : Addr}, Same H H0 → H0 D = none → ∀ {i : Nat} {x : V} {H' : Hp}, (qs.map V.ref)[i]? = some x → Same H0 H' → H' D = some (.lst (((prs.take i).filterMap fun p => intV (fld p)).map V.int)) →
          ∃ q p, x = V.ref q ∧ (∀ H2, Same H H2 → H2 q = some (.tup [p.1, p.2])) ∧ NI (fld p) ∧ ((prs.take (i + 1)).filterMap fun p => intV (fld p)) = ((prs.take i).filterMap fun p => intV (fld p)) ++ (match intV (fld p) with | none => [] | some n => [n]) ∧ ((prs.take i).filterMap fun p => intV (fld p)).length ≤ 10 := fun fld j hj hni {H0 D} s0 nD {i x H'} hx sm hD => by
        obtain ⟨q, hqi, rfl⟩ := hst hx
        have hil : i < prs.length := by rw [← hql]; exact (List.getElem?_eq_some_iff.mp hqi).1
        obtain ⟨p, hp'⟩ : ∃ p, prs[i]? = some p := ⟨_, List.getElem?_eq_getElem hil⟩
        obtain ⟨ht, _, _⟩ := hq i q p hqi hp'
        refine ⟨q, p, rfl, fun H2 s2 => s2 _ _ ht, hni p (List.mem_of_getElem? hp'), ?_, ?_⟩
        · rw [List.take_add_one, hp', List.filterMap_append]
          cases e : intV (fld p) <;> simp [e]
        · have h1 := List.length_filterMap_le (fun p => intV (fld p)) (prs.take i)
          have h2 : (prs.take i).length ≤ prs.length := by rw [List.length_take]; omega
          omega
      walk_at "rd"
      have s00 := Same.refl H
      refine ⟨a, rfl, ⟨_, sl_of (s00 _ _ ha)⟩, fun D nD => lc_list (xs := qs.map V.ref) (fun i H' => Same H H' ∧ H' D = some (.lst (((prs.take i).filterMap fun p => intV p.1).map V.int))) ⟨same_new nD, upd_same⟩ (fun i H' _ e => sl_of ((s00.trans e.1) _ _ ha)) (fun i x H' hx e => ?_) (fun DH e => ?_)⟩
      · obtain ⟨sm, hD⟩ := e
        obtain ⟨q, ⟨l, hh⟩, rfl, ht, hn, et, hl10⟩ := part Prod.fst 0 (fun _ => rfl) (fun p hp => (hN p hp).1) s00 nD hx sm hD
        dsimp only at ht hn et hl10
        refine ⟨rfl, ?_⟩
        walk_at "rd"
        refine rd_ixQT (ht _ (s00.trans sm)) rfl ?_
        rcases hn with rfl | ⟨n, rfl⟩
        · walk_at "rd"
          refine ⟨sm, ?_⟩
          rw [et]
          simpa [intV] using hD
        · walk_at "rd"
          refine rd_ixQT (ht _ (s00.trans sm)) rfl ?_
          refine ⟨_, hD, ?_, same_mut sm nD, ?_⟩
          · rw [List.length_map]; exact Nat.lt_of_le_of_lt hl10 (by decide)
          · rw [upd_same, et, List.map_append]; rfl
      obtain ⟨sm1, hD1⟩ := e
      rw [List.length_map, hql, List.take_length] at hD1
      walk_at "rd"
      refine ⟨a, rfl, ⟨_, sl_of (sm1 _ _ ha)⟩, fun G nG => lc_list (xs := qs.map V.ref) (fun i H' => Same DH H' ∧ H' G = some (.lst (((prs.take i).filterMap fun p => intV p.2).map V.int))) ⟨same_new nG, upd_same⟩ (fun i H' _ e => sl_of ((sm1.trans e.1) _ _ ha)) (fun i x H' hx e => ?_) (fun GH e => ?_)⟩
      · obtain ⟨sm, hD⟩ := e
        obtain ⟨q, ⟨l, hh⟩, rfl, ht, hn, et, hl10⟩ := part Prod.snd 1 (fun _ => rfl) (fun p hp => (hN p hp).2) sm1 nG hx sm hD
        dsimp only at ht hn et hl10
        refine ⟨rfl, ?_⟩
        walk_at "rd"
        refine rd_ixQT (ht _ (sm1.trans sm)) rfl ?_
        rcases hn with rfl | ⟨n, rfl⟩
        · walk_at "rd"
          refine ⟨sm, ?_⟩
          rw [et]
          simpa [intV] using hD
        · walk_at "rd"
          refine rd_ixQT (ht _ (sm1.trans sm)) rfl ?_
          refine ⟨_, hD, ?_, same_mut sm nG, ?_⟩
          · rw [List.length_map]; exact Nat.lt_of_le_of_lt hl10 (by decide)
          · rw [upd_same, et, List.map_append]; rfl
      obtain ⟨sm2, hG2⟩ := e
      rw [List.length_map, hql, List.take_length] at hG2
      have sm2' := sm1.trans sm2
      have hD2 := sm2 _ _ hD1
      walk_at "rd"
      refine ⟨sz (by simp), fun bp nbp => ?_⟩
      walk_at "rd"
      have smb := same_new (o := .lst [V.non, V.non]) nbp
      have Dbp : D ≠ bp := ne_of_none hD2 nbp
      refine rd_cut (fun σ' H' => σ' = [some (.ref p), some (.ref a), some (.ref b), some (.ref D), some (.ref G), some (.ref bp), none, none] ∧ Same GH H' ∧ H' bp = some (.lst [maxL prs, .non])) ?_ ?_
      · walk_at "rd"
        refine rd_seqL (smb _ _ hD2) ?_
        rcases maxL_spec hN with ⟨e1, e2⟩ | ⟨m, e1, e2, e3⟩
        · rw [e2]
          walk_at "rd"
          rw [e1]
          exact ⟨rfl, smb, upd_same⟩
        · have hpos := List.length_pos_of_mem e2
          walk_at "rd"
          refine if_dec (fun _ => ?_) (fun hz => absurd (by rw [List.length_map]; omega) hz)
          walk_at "rd"
          refine ⟨D, _, rfl, sl_of (smb _ _ hD2), hpos, fun m' hm' hmax => ?_⟩
          have em : m' = m := by have := e3 m' hm'; have := hmax m e2; omega
          subst em
          walk_at "rd"
          rw [e1]
          exact ⟨rfl, same_mut (Same.refl _) nbp, upd_same⟩
      · rintro σ' H3 ⟨rfl, sm3, hb3⟩
        have hD3 := sm3 _ _ hD2
        have hG3 := sm3 _ _ hG2
        refine rd_cut (fun σ' H' => σ' = [some (.ref p), some (.ref a), some (.ref b), some (.ref D), some (.ref G), some (.ref bp), none, none] ∧ Same GH H' ∧ H' bp = some (.lst [maxL prs, minH prs])) ?_ ?_
        · walk_at "rd"
          refine rd_seqL hG3 ?_
          rcases minH_spec hN with ⟨e1, e2⟩ | ⟨m, e1, e2, e3⟩
          · rw [e2]
            walk_at "rd"
            rw [e1]
            exact ⟨rfl, sm3, hb3⟩
          · have hpos := List.length_pos_of_mem e2
            walk_at "rd"
            refine if_dec (fun _ => ?_) (fun hz => absurd (by rw [List.length_map]; omega) hz)
            walk_at "rd"
            refine ⟨G, _, rfl, sl_of hG3, hpos, fun m' hm' hmin => ?_⟩
            have em : m' = m := by have := e3 m' hm'; have := hmin m e2; omega
            subst em
            walk_at "rd"
            refine rd_setL (j := 1) hb3 rfl ?_
            walk_at "rd"
            rw [e1]
            exact ⟨rfl, same_mut sm3 nbp, upd_same⟩
        · rintro σ' H4 ⟨rfl, sm4, hb4⟩
          have sm4' := sm2'.trans sm4
          have nL := ni_maxL hN
          have nH := ni_minH hN
          have hheld := fun n => held_lets (n := n) hN
          obtain ⟨L, eL⟩ : ∃ L, L = maxL prs := ⟨_, rfl⟩
          obtain ⟨M, eM⟩ : ∃ M, M = minH prs := ⟨_, rfl⟩
          rw [← eL, ← eM] at hb4 hc hp
          rw [← eL] at nL
          rw [← eM] at nH
          refine rd_cut (fun σ' H' => σ' = [some (.ref p), some (.ref a), some (.ref b), some (.ref D), some (.ref G), some (.ref bp), none, none] ∧ H' = H4) ?_ ?_
          · walk_at "rd"
            rcases nL with rfl | ⟨i, rfl⟩
            · walk_at "rd"
              exact ⟨rfl, rfl⟩
            · walk_at "rd"
              rcases nH with rfl | ⟨j, rfl⟩
              · walk_at "rd"
                exact ⟨rfl, rfl⟩
              · walk_at "rd"
                refine if_dec (fun hj => ?_) (fun hj => ?_)
                · have : decide (j < i) = false := hc
                  rw [decide_eq_true hj] at this; cases this
                · walk_at "rd"
                  exact ⟨rfl, rfl⟩
          · rintro σ' H5 ⟨rfl, rfl⟩
            walk_at "rd"
            refine ⟨b, rfl, ⟨_, sl_of (sm4' _ _ hb)⟩, for_lst (xs := ls.map V.int) (fun i σ H' => ∃ y, σ = [some (.ref p), some (.ref a), some (.ref b), some (.ref D), some (.ref G), some (.ref bp), y, none] ∧ Same H5 H') ⟨_, rfl, Same.refl _⟩ ?_ ?_ ?_⟩
            · rintro i σ H' ⟨y, rfl, sm⟩
              exact sm _ _ (sm4' _ _ hb)
            · rintro i x σ H' hi ⟨y, rfl, sm⟩
              obtain ⟨n, hn, rfl⟩ := get_map hi
              have smH := sm4'.trans sm
              walk_at "rd"
              refine ⟨p, dx, _, rfl, smH _ _ hp, p, dx, L, M, n, rfl, smH _ _ hp, nL, nH, ?_⟩
              refine ⟨_, rfl, ?_⟩
              walk_at "rd"
              refine ⟨n, a, prs, rfl, PrsAt.same ⟨qs, ha, hql, hq⟩ smH, ?_⟩
              rw [hheld n, ← eL, ← eM]
              walk_at "rd"
              refine ⟨_, _, rfl, .inl ⟨trivial, trivial, fun H6 s6 => ?_⟩⟩
              rw [decide_eq_true (by simp)]
              walk_at "rd"
              exact ⟨_, rfl, sm.trans s6⟩
            · rintro σ H' ⟨y, rfl, sm⟩
              walk_at "rd"
              exact ⟨p, dx, bp, L, M, rfl, (sm4'.trans sm) _ _ hp, nL, nH, .inr (sm _ _ hb4), fun H6 s6 => h H6 ((sm4'.trans sm).trans s6)⟩
end

abbrev s_law_tried : Stmt := topS 37
theorem sc_law_tried : FnScope ["numbers", "told", "number"] ["numbers"] (defScope s_law_tried) := ⟨rfl, rfl, rfl, by decide +kernel, rfl, by decide +kernel, by decide +kernel⟩
abbrev s_law_end : Stmt := topS 42
theorem sc_law_end : FnScope ["store", "pool", "kind"] ["store", "pool"] (defScope s_law_end) := ⟨rfl, rfl, rfl, by decide +kernel, rfl, by decide +kernel, by decide +kernel⟩
abbrev s_law_span_due : Stmt := topS 43
theorem sc_law_span_due : FnScope ["ends", "end"] ["ends"] (defScope s_law_span_due) := ⟨rfl, rfl, rfl, by decide +kernel, rfl, by decide +kernel, by decide +kernel⟩

section
variable {P : Program} {w : World} {K : PySem.W.Frag} {mg : Str → Option Value} {base : Heap} {C : Addr}
/-! ### _law_tried -/
def spTried : Sp := fun vs H Q _ => ∃ a, ∃ ns : List Int, vs = [.ref a] ∧ H a = some (.lst (ns.map V.int)) ∧ (∀ n ∈ ns, InR n) ∧ ns.length ≤ 1000 ∧ ∀ p, ∀ ms : List Int, ∀ H', (∀ m ∈ ms, InR m) → ms.length ≤ 9000 → Same H H' → H p = none → H' p = some (.lst (ms.map V.int)) → Q (.ref p) H'
theorem ok_tried {k : Nat} {f : Addr} {fd : FuncData} (F : Fun K "_law_tried" "_law_tried" s_law_tried f fd) (T : Blt mg) (H_law_clamped : Has P w K mg base "_law_clamped" k ["number"] spClamped) (H_law_unlike : Has P w K mg base "_law_unlike" k ["items"] spUnlike) : FnOk P w K mg base CX0 (k + 1) f fd ["numbers"] spTried := by
  refine F.ok sc_law_tried (fun vs H Q E h => ?_) (fun cdv A outer s H vs Q E hr h => ?_)
  · obtain ⟨a, ns, rfl, _⟩ := h; rfl
  · obtain ⟨a, ns, rfl, hA, hns, l1, h⟩ := h
    refine ⟨_, (pss_cons (ps_set (i := 1) sc_law_tried.nd rfl (.inl rfl) (pe_lst (pa_cons (pe_un un_neg (pe_op op_pow pe_int pe_int)) (pa_cons (pe_op op_pow pe_int pe_int) pa_nil))))
 (pss_cons (ps_for PassesOwn.never rfl (pi_list (pv 0)) (pg_name (i := 2) sc_law_tried.nd rfl (.inl rfl)) (pss_one (ps_set (i := 1) sc_law_tried.nd rfl (.inl rfl) (pe_op op_cat (pv 1) (pe_lst (pa_cons (pe_callH H_law_clamped hr (by rfl) (pa_cons (pe_op op_sub (pv 2) pe_int) pa_nil)) (pa_cons (pv 2) (pa_cons (pe_callH H_law_clamped hr (by rfl) (pa_cons (pe_op op_add (pv 2) pe_int) pa_nil)) pa_nil))))))))
 (pss_one (ps_ret (pe_callB cr_sortedI (by rfl) T.sorted (by decide +kernel) (pa_cons (pe_callH H_law_unlike hr (by rfl) (pa_cons (pv 1) pa_nil)) pa_nil)))))), ?_⟩
    walk_at "rdA"
    refine ⟨sz (by simp), fun t nt => ?_⟩
    walk_at "rdA"
    refine ⟨a, rfl, ⟨_, sl_of (same_new nt _ _ hA)⟩, for_lst (xs := ns.map V.int) (fun i σ H' => ∃ t y, ∃ ts : List Int, σ = [some (.ref a), some (.ref t), y] ∧ H' t = some (.lst (ts.map V.int)) ∧ (∀ n ∈ ts, InR n) ∧ ts.length ≤ 2 + 3 * i ∧ Same H H') ⟨t, none, [-1000000000000, 1000000000000], rfl, upd_same, by simp [InR], by simp, same_new nt⟩ ?_ ?_ ?_⟩
    · rintro i σ H' ⟨t, y, ts, rfl, _, _, _, sm⟩
      exact sm _ _ hA
    · rintro i x σ H' hi ⟨t, y, ts, rfl, ht, hts, hl, sm⟩
      obtain ⟨n, hn, rfl⟩ := get_map hi
      have hil : i < ns.length := (List.getElem?_eq_some_iff.mp hn).1
      have hnR := hns n (List.mem_of_getElem? hn)
      walk_at "rdA"
      refine ⟨_, rfl, fun m1 r1 _ => ?_⟩
      walk_at "rdA"
      refine ⟨_, rfl, fun m2 r2 _ => ?_⟩
      walk_at "rdA"
      refine ⟨sz (by simp), fun u nu => ?_⟩
      refine ⟨t, u, _, _, rfl, rfl, same_new nu _ _ ht, upd_same, sz (by simp; omega), fun p np => ?_⟩
      walk_at "rdA"
      refine ⟨p, _, ts ++ [m1, n, m2], rfl, ?_, ?_, ?_, (sm.trans (same_new nu)).trans (same_new np)⟩
      · rw [upd_same, List.map_append]; rfl
      · intro z hz
        rcases List.mem_append.mp hz with h1 | h1
        · exact hts z h1
        · simp at h1
          rcases h1 with rfl | rfl | rfl <;> assumption
      · rw [List.length_append]; simp; omega
    · rintro σ H' ⟨t, y, ts, rfl, ht, hts, hl, sm⟩
      have hl : ts.length ≤ 2 + 3 * ns.length := by simpa using hl
      walk_at "rdA"
      refine ⟨t, ts, rfl, ht, by omega, fun p ms H2 hm lm np hp s2 => ?_⟩
      walk_at "rdA"
      refine ⟨p, ms, rfl, sl_of hp, fun ms' p2 hperm _ np2 => ?_⟩
      have sm3 := (sm.trans s2).trans (same_new (o := .lst (ms'.map V.int)) np2)
      exact h p2 ms' _ (fun z hz => hts z (hm z (hperm.mem_iff.mp hz))) (by rw [hperm.length_eq]; omega) sm3 ((sm.trans s2).free np2) upd_same
/-! ### _law_end -/
def spEnd : Sp := fun vs H Q _ => ∃ S : Sto, ∃ p, ∃ ns : List Int, vs = [.ref S.1, .ref p] ∧ StoreOk S H ∧ At S H p (.lst (ns.map V.int)) ∧ 0 < ns.length ∧ ns.length < 1000 ∧ ∀ v H', Sc v → (isOpen v = false → Bad v) → StoreOk S H' → ExS S H H' → Q v H'
theorem ok_end {k : Nat} {f : Addr} {fd : FuncData} (F : Fun K "_law_end" "_law_end" s_law_end f fd) (T : Blt mg) (H_law_take : Has P w K mg base "_law_take" k ["store", "many"] spTake) (H_law_near : Has P w K mg base "_law_near" k ["store", "pool"] spNear) (H_law_bad_number : Has P w K mg base "_law_bad_number" k ["store", "keyed"] spBadNum) : FnOk P w K mg base CX0 (k + 1) f fd ["store", "pool"] spEnd := by
  refine F.ok sc_law_end (fun vs H Q E h => ?_) (fun cdv A outer s H vs Q E hr h => ?_)
  · obtain ⟨S, p, ns, rfl, _⟩ := h; rfl
  · obtain ⟨S, p, ns, rfl, hS, hA, l0, l1, h⟩ := h
    refine ⟨_, (pss_cons (ps_set (i := 2) sc_law_end.nd rfl (.inl rfl) (pe_callH H_law_take hr (by rfl) (pa_cons (pv 0) (pa_cons pe_int pa_nil))))
 (pss_cons (ps_if (pt_cmpR op_eq (pv 2) pe_int (nomark _)) (pss_one (ps_ret (pe_callH H_law_bad_number hr (by rfl) (pa_cons (pv 0) (pa_cons pe_bl pa_nil))))) pss_nil)
 (pss_cons (ps_if (pt_cmpR op_eq (pv 2) pe_int (nomark _)) (pss_one (ps_ret pe_non)) pss_nil)
 (pss_one (ps_ret (pe_callH H_law_near hr (by rfl) (pa_cons (pv 0) (pa_cons (pv 1) pa_nil)))))))), ?_⟩
    walk_at "rdA"
    refine ⟨S, 6, rfl, by omega, hS, fun r H1 r0 r1 hS1 e1 => ?_⟩
    walk_at "rdA"
    refine if_dec (fun hk => ?_) (fun hk => ?_)
    · walk_at "rdA"
      exact ⟨S, false, rfl, hS1, fun v H2 hv _ hS2 e2 => h v H2 (by rcases hv with ⟨b, rfl⟩ | ⟨n, rfl, _⟩ <;> trivial) (fun _ => hv) hS2 (e1.trans e2)⟩
    · walk_at "rdA"
      refine if_dec (fun hk4 => ?_) (fun hk4 => ?_)
      · walk_at "rdA"
        exact h _ _ trivial (fun o => by cases o) hS1 e1
      · walk_at "rdA"
        refine ⟨S, p, ns, rfl, hS1, hA.back e1, l0, l1, fun n H2 hn hS2 e2 => ?_⟩
        exact h _ _ trivial (fun o => by
          have : decide (InR n) = false := o
          rw [decide_eq_true hn] at this; cases this) hS2 (e1.trans e2)
/-! ### _law_span_due -/
def dueT (l h : V) : HO := if isOpen l = true then (if isOpen h = true then (if crossed l h = true then .tup [.str "BadSpan", l, h, .bl true, .bl false] else .tup [l, h]) else .tup [.str "BadNumber", h, .bl true, .bl false]) else .tup [.str "BadNumber", l, .bl true, .bl false]
def spSpanDue : Sp := fun vs H Q _ => ∃ (q : Addr) (l h : V), vs = [.ref q] ∧ H q = some (.tup [l, h]) ∧ Sc l ∧ Sc h ∧ ∀ p H', Same H H' → H' p = some (dueT l h) → Q (.ref p) H'
theorem rd_gn {i : Nat} {x : V} {σ : L2.St} {H : Hp} {R : L2.St → Hp → Prop} (h : R (σ.set i (some x)) H) : gName i x σ H R := h
theorem isNum_open {v : V} (h : isNum v = true) : isOpen v = true := by cases v <;> first | rfl | exact h
theorem ok_span_due {k : Nat} {f : Addr} {fd : FuncData} (F : Fun K "_law_span_due" "_law_span_due" s_law_span_due f fd) (T : Blt mg) (H_law_is_number : Has P w K mg base "_law_is_number" k ["value"] spIsNum) : FnOk P w K mg base CX0 (k + 1) f fd ["ends"] spSpanDue := by
  refine F.ok sc_law_span_due (fun vs H Q E h => ?_) (fun cdv A outer s H vs Q E hr h => ?_)
  · obtain ⟨q, l, h, rfl, _⟩ := h; rfl
  · obtain ⟨q, l, hh, rfl, hq, sl, sh, h⟩ := h
    refine ⟨_, (pss_cons (ps_for PassesOwn.never rfl (pi_tup (pv 0)) (pg_name (i := 1) sc_law_span_due.nd rfl (.inl rfl)) (pss_one (ps_if (PW.pt (pw_and (pt_cmpR op_notN (pv 1) pe_non (nomark _)) (pw_and1 (pt_not (pt_val (pe_callH H_law_is_number hr (by rfl) (pa_cons (pv 1) pa_nil))))))) (pss_one (ps_ret (pe_tup (pa_cons pe_str (pa_cons (pv 1) (pa_cons pe_bl (pa_cons pe_bl pa_nil))))))) pss_nil)))
 (pss_cons (ps_if (PW.pt (pw_and (pt_cmpR op_notN (pe_ix ix_seq (pv 0) pe_int (fun _ _ => rfl)) pe_non (nomark _)) (pw_and (pt_cmpR op_notN (pe_ix ix_seq (pv 0) pe_int (fun _ _ => rfl)) pe_non (nomark _)) (pw_and1 (pt_cmpR op_gt (pe_ix ix_seq (pv 0) pe_int (fun _ _ => rfl)) (pe_ix ix_seq (pv 0) pe_int (fun _ _ => rfl)) (nomark _)))))) (pss_one (ps_ret (pe_tup (pa_cons pe_str (pa_cons (pe_ix ix_seq (pv 0) pe_int (fun _ _ => rfl)) (pa_cons (pe_ix ix_seq (pv 0) pe_int (fun _ _ => rfl)) (pa_cons pe_bl (pa_cons pe_bl pa_nil)))))))) pss_nil)
 (pss_one (ps_ret (pv 0))))), ?_⟩
    walk_at "rdA"
    have bad : ∀ {x : V} {H' : Hp}, H' = H → dueT l hh = .tup [.str "BadNumber", x, .bl true, .bl false] → [V.str "BadNumber", x, .bl true, .bl false].length ≤ sizeLine ∧ ∀ p, H' p = none → Q (.ref p) (upd H' p (.tup [.str "BadNumber", x, .bl true, .bl false])) := fun {x H'} e0 e => by
      subst e0
      exact ⟨sz (by simp), fun p np => h p _ (same_new np) (by rw [upd_same, e])⟩
    refine ⟨q, rfl, ⟨_, st_of hq⟩, for_tup (xs := [l, hh]) (fun i σ H' => ∃ y, σ = [some (.ref q), y] ∧ H' = H ∧ ∀ v ∈ [l, hh].take i, isOpen v = true) ⟨_, rfl, rfl, by simp⟩ (fun i σ H' _ hp => by obtain ⟨y, rfl, rfl, _⟩ := hp; exact st_of hq) ?_ ?_⟩
    · rintro i x σ H' hx ⟨y, rfl, rfl, hall⟩
      have sx : Sc x := by
        have := List.mem_of_getElem? hx
        simp at this
        rcases this with rfl | rfl <;> assumption
      have nxt : isOpen x = true → ∀ v ∈ [l, hh].take (i + 1), isOpen v = true := fun o v hv => by
        rw [List.take_add_one, hx] at hv
        rcases List.mem_append.mp hv with q1 | q1
        · exact hall v q1
        · have : v = x := by simpa using q1
          rw [this]; exact o
      have due : isOpen x = false → dueT l hh = .tup [.str "BadNumber", x, .bl true, .bl false] := fun o => by
        match i, hx, hall with
        | 0, hx, _ =>
          have : l = x := Option.some.inj hx
          subst this
          simp [dueT, o]
        | 1, hx, hall =>
          have : hh = x := Option.some.inj hx
          subst this
          have hl := hall l (by simp)
          simp [dueT, o, hl]
        | n + 2, hx, _ => simp at hx
      refine rd_gn ?_
      walk_at "rdA"
      cases x with
      | non =>
        walk_at "rdA"
        exact ⟨_, rfl, rfl, nxt rfl⟩
      | bl b =>
        walk_at "rdA"
        refine ⟨_, rfl, trivial, ?_⟩
        walk_at "rdA"
        refine if_nbool (fun hn => ?_) (fun hn => by cases hn)
        walk_at "rdA"
        exact bad rfl (due rfl)
      | int n =>
        walk_at "rdA"
        refine ⟨_, rfl, trivial, ?_⟩
        walk_at "rdA"
        refine if_nbool (fun hn => ?_) (fun hn => ?_)
        · walk_at "rdA"
          exact bad rfl (due hn)
        · walk_at "rdA"
          exact ⟨_, rfl, rfl, nxt hn⟩
      | str z =>
        walk_at "rdA"
        refine ⟨_, rfl, trivial, ?_⟩
        walk_at "rdA"
        refine if_nbool (fun hn => ?_) (fun hn => by cases hn)
        walk_at "rdA"
        exact bad rfl (due rfl)
      | _ => exact sx.elim
    · rintro σ H' ⟨y, rfl, rfl, hall⟩
      have ol := hall l (by simp)
      have oh := hall hh (by simp)
      have nl : NI l := by cases l <;> first | exact .inl rfl | exact .inr ⟨_, rfl⟩ | cases ol
      have nh : NI hh := by cases hh <;> first | exact .inl rfl | exact .inr ⟨_, rfl⟩ | cases oh
      have fine : crossed l hh = false → [l, hh].length ≤ sizeLine ∧ True := fun _ => ⟨sz (by simp), trivial⟩
      have back : crossed l hh = false → Q (.ref q) H' := fun c => h q H' (Same.refl _) (by rw [hq]; simp [dueT, ol, oh, c])
      walk_at "rdA"
      refine rd_ixQT hq rfl ?_
      rcases nl with rfl | ⟨i, rfl⟩
      · walk_at "rdA"
        exact back rfl
      · walk_at "rdA"
        refine rd_ixQT hq rfl ?_
        rcases nh with rfl | ⟨j, rfl⟩
        · walk_at "rdA"
          exact back rfl
        · walk_at "rdA"
          refine rd_ixQT hq rfl ?_
          walk_at "rdA"
          refine rd_ixQT hq rfl ?_
          walk_at "rdA"
          refine if_dec (fun hj => ?_) (fun hj => ?_)
          · walk_at "rdA"
            refine rd_ixQT hq rfl ?_
            walk_at "rdA"
            refine rd_ixQT hq rfl ?_
            walk_at "rdA"
            refine ⟨sz (by simp), fun p np => h p _ (same_new np) ?_⟩
            have c : crossed (.int i) (.int j) = true := decide_eq_true hj
            rw [upd_same]; simp [dueT, ol, oh, c]
          · walk_at "rdA"
            exact back (decide_eq_false hj)
end

abbrev s_law_span_asked : Stmt := topS 44
theorem sc_law_span_asked : FnScope ["ends", "span", "e", "more"] ["ends"] (defScope s_law_span_asked) := ⟨rfl, rfl, rfl, by decide +kernel, rfl, by decide +kernel, by decide +kernel⟩
local macro_rules | `(tactic| walk_at "sideC") => `(tactic| first | assumption | exact Z.sl_of (by assumption) | exact upd_same | (show (0 : Int) < _; omega) | exact Or.inl ⟨by omega, by omega⟩ | exact Or.inr ⟨by omega, by omega⟩)
local macro_rules | `(tactic| walk_at "tyofC") => `(tactic| first | exact TyOf.int _ | exact TyOf.bl _ | exact TyOf.non | exact TyOf.str _ | (apply TyOf.lst; assumption) | (apply TyOf.tup; assumption))
local macro_rules | `(tactic| walk_at "rd1C") => `(tactic| first
  | with_reducible first
    | refine rd_seq ?_ | refine rd_asg ?_ | refine rd_c ?_ | refine rd_op ?_ | refine rd_cons ?_ | refine rd_nil ?_ | refine rd_cb ?_ | refine rd_call ?_ | refine rd_I0 ?_ | refine rd_eqI ?_ | refine rd_bx ?_ | refine rd_nn ?_ | refine rd_int1 ?_ | refine rd_max2 ?_ | refine rd_min2 ?_
    | refine rd_ret ?_ | refine rd_ifS ?_ | refine rd_test ?_ | refine rd_tB ?_ | refine rd_not ?_ | refine rd_and ?_ | refine rd_or ?_ | refine rd_un ?_ | refine rd_U ?_ | refine rd_next ?_ | refine rd_drop ?_ | refine rd_andV ?_ | refine rd_orV ?_ | refine rd_notV ?_ | refine rd_if ?_ | refine rd_neI ?_
    | refine rd_lst ?_ | refine rd_tup ?_ | refine rd_sl ?_ | refine rd_bm ?_ | refine rd_chain ?_ | refine rd_asgS ?_ | refine iteT ?_ | refine iteF ?_ | refine if_nn ?_ | refine if_nf ?_ | refine if_nt ?_ | refine if_nnN ?_ | refine if_n_int ?_ | refine if_n_bl ?_ | refine if_n_str ?_ | refine if_n_ref ?_ | refine if_nN_int ?_ | refine if_nN_bl ?_ | refine if_nN_str ?_ | refine if_nN_ref ?_ | refine rd_eqB ?_ | refine rd_eqS ?_ | refine rd_neB ?_ | refine rd_part ?_ | refine rd_nopart ?_ | refine rd_for ?_ | refine rd_iRng1 ?_ | refine rd_iList ?_ | refine rd_iTup ?_ | refine rd_lc ?_ | refine rd_callS ?_ | refine rd_callKS ?_ | refine rd_mkO ?_ | refine rd_ckw ?_ | refine rd_xf ?_
    | refine rd_p9 ?_ | refine rd_p11 ?_ | refine rd_p12 ?_ | refine rd_p13 ?_ | refine rd_p18 ?_ | refine rd_p30 ?_ | refine rd_p40 ?_ | refine rd_ss ?_ | refine rd_s1 ?_ | refine rd_i1 ?_ | refine rd_fld ?_ | refine rd_sfld ?_ | refine rd_make ?_ | refine rd_makeS ?_ | refine rd_lrv ?_ | refine rd_dnewK ?_ | refine rd_dput ?_ | refine rd_dnotin ?_ | refine rd_yes ?_ | refine rd_callNS ?_ | refine rd_callSD ?_ | refine rd_ii ?_ | refine rd_si ?_ | refine rd_iStr ?_
  | ((with_reducible refine rd_var (v := ?v) ?hv ?_); (case hv => exact rfl))
  | ((with_reducible refine rd_setS (j := ?j) ?he ?_); (case he => exact rfl))
  | ((with_reducible refine rd_isi (a := ?a) (b := ?b) ?ty ?k ?_); (case ty => first | exact TyOf.int _ | exact TyOf.bl _ | exact TyOf.non | exact TyOf.str _); (case k => with_reducible first | exact kb_int_int | exact kb_int_bool | exact kb_int_str | exact kb_int_dict | exact kb_int_list | exact kb_int_tuple | exact kb_bool_int | exact kb_bool_bool | exact kb_bool_str | exact kb_bool_dict | exact kb_bool_list | exact kb_bool_tuple | exact kb_NoneType_int | exact kb_NoneType_bool | exact kb_NoneType_str | exact kb_NoneType_dict | exact kb_NoneType_list | exact kb_NoneType_tuple | exact kb_str_int | exact kb_str_bool | exact kb_str_str | exact kb_str_dict | exact kb_str_list | exact kb_str_tuple))
  | ((with_reducible refine rd_isiL (b := ?b) (by assumption) ?k ?_); (case k => with_reducible first | exact kb_list_int | exact kb_list_bool | exact kb_list_str | exact kb_list_dict | exact kb_list_list | exact kb_list_tuple))
  | ((with_reducible refine rd_isiT (b := ?b) (by assumption) ?k ?_); (case k => with_reducible first | exact kb_tuple_int | exact kb_tuple_bool | exact kb_tuple_str | exact kb_tuple_dict | exact kb_tuple_list | exact kb_tuple_tuple))
  | ((with_reducible refine rd_I ?hc ?_); (case hc => walk_at "sideC"))
  | ((with_reducible refine rd_ixL (xs := ?xs) (v := ?v) ?hh ?he ?_); (case hh => first | exact upd_same | assumption); (case he => exact rfl)))
local macro_rules | `(tactic| walk_at "rdC") => `(tactic| repeat walk_at "rd1C")

theorem pe_makeHS {X : Cx} {CX : CXT} {C : Addr} {x : Str} {k : Nat} {ps : List Str} {dvs : List V} {sp : Sp} {E : L2.St → XK} {p pos : Pos} {e : Expr} {es : List Expr} {t : TA} (h : HasMk X.prog X.w X.K X.mg X.base CX C x k ps dvs sp) (hr : Room (k + 1) X.A) (hg : Gl X x) (hx : ∀ σ, PassesAt CX X σ (E σ)) (ha : PA X (e :: es) t)
    (hdb : (x == ("__debug__" : Str)) = false := by decide) (he : starEach (e :: es) X.env = (false, eval e X.env) :: starEach es X.env := by rfl) (hpl : (backTo pos (starEach es X.env)).any (·.1) = false := by rfl) :
    PE X (.Call (.Name x p) (e :: es) [] pos) (tMakeS C sp dvs E t) := by
  obtain ⟨f, fd, ds, F, M, hm, hd, hb⟩ := h.ex
  exact pe_makeS M F hr hg hm hb hd hx ha hdb he hpl
theorem spx_low {l h : V} : ([("high", h), ("low", l)] : List (Str × V)).lookup ("low" : Str) = some l := by
  have e : (("low" : Str) == ("high" : Str)) = false := by decide
  simp [List.lookup, e]
theorem spx_high {l h : V} : ([("high", h), ("low", l)] : List (Str × V)).lookup ("high" : Str) = some h := by simp [List.lookup]
/-- the classes of errors, side by side -/
structure Errs (K : PySem.W.Frag) (mg : Str → Option Value) (CE CB cO cT cR : Addr) : Prop where
  g_OutshinerError : mg "OutshinerError" = some (.ref cO)
  g_BadNumber : mg "BadNumber" = some (.ref CE)
  g_BadSpan : mg "BadSpan" = some (.ref CB)
  g_BadText : mg "BadText" = some (.ref cT)
  g_OutOfRange : mg "OutOfRange" = some (.ref cR)
  eO : PySem.W.kitOne K (.ref CE) (.ref cO) = some true
  eB : PySem.W.kitOne K (.ref CE) (.ref CB) = some false
  eT : PySem.W.kitOne K (.ref CE) (.ref cT) = some false
  eR : PySem.W.kitOne K (.ref CE) (.ref cR) = some false
  bO : PySem.W.kitOne K (.ref CB) (.ref cO) = some true
  bE : PySem.W.kitOne K (.ref CB) (.ref CE) = some false
  bT : PySem.W.kitOne K (.ref CB) (.ref cT) = some false
  bR : PySem.W.kitOne K (.ref CB) (.ref cR) = some false
  ne : PySem.W.exmOne K (.ref CB) (.ref CE) = some false
section
variable {P : Program} {w : World} {K : PySem.W.Frag} {mg : Str → Option Value} {base : Heap} {C CE CB cO cT cR : Addr}
theorem ok_span_asked {k j : Nat} {f : Addr} {fd : FuncData} (F : Fun K "_law_span_asked" "_law_span_asked" s_law_span_asked f fd) (T : Blt mg) (S : SpC K C) (TE : Errs K mg CE CB cO cT cR) (E_BadNumber : ErrC K mg "BadNumber" CE) (E_BadSpan : ErrC K mg "BadSpan" CB) (N_BadNumber_number : PySem.W.findIn K (.ref CE) "number" = some none) (N_BadSpan_low : PySem.W.findIn K (.ref CB) "low" = some none) (N_BadSpan_high : PySem.W.findIn K (.ref CB) "high" = some none)
    (HM_Span : HasMk P w K mg base (L2.CX P w) C "Span" j ["self", "low", "high"] [] (spSpanI C CE CB)) (hk : j + 1 ≤ k) : FnOk P w K mg base CX0 (k + 1) f fd ["ends"] spSpanDue := by
  refine F.ok sc_law_span_asked (fun vs H Q E h => ?_) (fun cdv A outer s H vs Q E hr h => ?_)
  · obtain ⟨q, l, h, rfl, _⟩ := h; rfl
  · obtain ⟨q, l, hh, rfl, hq, sl, sh, h⟩ := h
    refine ⟨_, (pss_cons (ps_try_asM (Wout := fun _ _ _ _ => False) rfl rfl sc_law_span_asked.nd takes0 (fun W pn xe tk _ => (pss_one (ps_set (i := 1) sc_law_span_asked.nd rfl (.inl rfl) (pe_makeHS HM_Span (hr.mono hk) (by rfl) (fun σ => passAt tk σ) (pa_cons (pe_ix (ix_seqK (K := K) rfl) (pv 0) pe_int (fun _ _ => rfl)) (pa_cons (pe_ix (ix_seqK (K := K) rfl) (pv 0) pe_int (fun _ _ => rfl)) pa_nil)))))) (.cons (i := 2) rfl rfl ⟨rfl, by decide, Or.inl E_BadNumber.gC⟩ (fun a oe cls d pn hz hf => (pss_one (ps_ret (pe_tup (pa_cons pe_str (pa_cons (pe_xf E_BadNumber.xf N_BadNumber_number hz hf (pv 2)) (pa_cons (pe_callB (call_isX (K := K) rfl hz hf) (by rfl) T.isinstance (by decide +kernel) (pa_cons (pv 2) (pa_cons (pe_globC rfl TE.g_OutshinerError) pa_nil))) (pa_cons (pe_callB (call_isXT (K := K) rfl hz hf) (by rfl) T.isinstance (by decide +kernel) (pa_cons (pv 2) (pa_cons (pe_tup (pa_cons (pe_globC rfl TE.g_BadSpan) (pa_cons (pe_globC rfl TE.g_BadText) (pa_cons (pe_globC rfl TE.g_OutOfRange) pa_nil)))) pa_nil))) pa_nil)))))))) (.cons (i := 2) rfl rfl ⟨rfl, by decide, Or.inl E_BadSpan.gC⟩ (fun a oe cls d pn hz hf => (pss_cons (ps_set (i := 3) sc_law_span_asked.nd rfl (.inl rfl) (pe_callB (call_isXT (K := K) rfl hz hf) (by rfl) T.isinstance (by decide +kernel) (pa_cons (pv 2) (pa_cons (pe_tup (pa_cons (pe_globC rfl TE.g_BadNumber) (pa_cons (pe_globC rfl TE.g_BadText) (pa_cons (pe_globC rfl TE.g_OutOfRange) pa_nil)))) pa_nil))))
 (pss_one (ps_ret (pe_tup (pa_cons pe_str (pa_cons (pe_xf E_BadSpan.xf N_BadSpan_low hz hf (pv 2)) (pa_cons (pe_xf E_BadSpan.xf N_BadSpan_high hz hf (pv 2)) (pa_cons (pe_callB (call_isX (K := K) rfl hz hf) (by rfl) T.isinstance (by decide +kernel) (pa_cons (pv 2) (pa_cons (pe_globC rfl TE.g_OutshinerError) pa_nil))) (pa_cons (pv 3) pa_nil)))))))))) .nil)))
 (pss_one (ps_ret (pe_tup (pa_cons (pe_fld (pv 1) rfl) (pa_cons (pe_fld (pv 1) rfl) pa_nil)))))), ?_⟩
    walk_at "rdC"
    have kE : PySem.W.kitAny K (.ref CE) [.ref CB, .ref cT, .ref cR] = some false := kitAny_cons TE.eB (fun _ => kitAny_cons TE.eT (fun _ => kitAny_cons TE.eR (fun _ => rfl) (fun h => by cases h)) (fun h => by cases h)) (fun h => by cases h)
    have kB : PySem.W.kitAny K (.ref CB) [.ref CE, .ref cT, .ref cR] = some false := kitAny_cons TE.bE (fun _ => kitAny_cons TE.bT (fun _ => kitAny_cons TE.bR (fun _ => rfl) (fun h => by cases h)) (fun h => by cases h)) (fun h => by cases h)
    refine rd_ixQT hq rfl ?_
    walk_at "rdC"
    refine rd_ixQT hq rfl ?_
    walk_at "rdC"
    intro p dp np ndp ne
    have s0 : Same H (upd (upd H dp (.own p)) p (.ins C dp [])) := (same_new ndp).trans (same_new (by rw [upd_ne ne.symm]; exact np))
    refine ⟨p, dp, l, hh, rfl, upd_same, sl, sh, fun ol oh nc => ⟨rfl, ?_⟩, fun ol => ?_, fun ol oh => ?_, fun ol oh c => ?_⟩
    · have s1 := same_mut (o := .ins C dp (spn l hh)) s0 np
      walk_at "rdC"
      refine ⟨p, C, dp, _, l, rfl, upd_same, S.cl, S.nl, spn_low, ?_⟩
      walk_at "rdC"
      refine ⟨p, C, dp, _, hh, rfl, upd_same, S.cl, S.nh, spn_high, ?_⟩
      walk_at "rdC"
      exact ⟨sz (by simp), fun tp ntp => h tp _ (s1.trans (same_new ntp)) (by rw [upd_same]; simp [dueT, ol, oh, nc])⟩
    · refine fun d H' sm e => ?_
      refine ⟨true, E_BadNumber.self, fun _ a na => ?_, fun q => Bool.noConfusion q⟩
      walk_at "rdC"
      refine ⟨rfl, rfl, d, _, l, rfl, e, (by simp [List.lookup]), ?_⟩
      walk_at "rdC"
      refine ⟨CE, d, _, .ref cO, .ref cO, true, rfl, rfl, e, E_BadNumber.ec, rfl, fun _ r => r, TE.eO, ?_⟩
      walk_at "rdC"
      refine ⟨sz (by simp), fun tp ntp => ?_⟩
      walk_at "rdC"
      refine ⟨CE, d, _, tp, _, _, false, rfl, rfl, same_new ntp _ _ e, E_BadNumber.ec, rfl, upd_same, .cons (.own _) (.cons (.own _) (.cons (.own _) .nil)), kE, ?_⟩
      walk_at "rdC"
      exact ⟨sz (by simp), fun p2 np2 => h p2 _ ((s0.trans sm).trans ((same_new ntp).trans (same_new np2))) (by rw [upd_same]; simp [dueT, ol])⟩
    · refine fun d H' sm e => ?_
      refine ⟨true, E_BadNumber.self, fun _ a na => ?_, fun q => Bool.noConfusion q⟩
      walk_at "rdC"
      refine ⟨rfl, rfl, d, _, hh, rfl, e, (by simp [List.lookup]), ?_⟩
      walk_at "rdC"
      refine ⟨CE, d, _, .ref cO, .ref cO, true, rfl, rfl, e, E_BadNumber.ec, rfl, fun _ r => r, TE.eO, ?_⟩
      walk_at "rdC"
      refine ⟨sz (by simp), fun tp ntp => ?_⟩
      walk_at "rdC"
      refine ⟨CE, d, _, tp, _, _, false, rfl, rfl, same_new ntp _ _ e, E_BadNumber.ec, rfl, upd_same, .cons (.own _) (.cons (.own _) (.cons (.own _) .nil)), kE, ?_⟩
      walk_at "rdC"
      exact ⟨sz (by simp), fun p2 np2 => h p2 _ ((s0.trans sm).trans ((same_new ntp).trans (same_new np2))) (by rw [upd_same]; simp [dueT, ol, oh])⟩
    · refine fun d H' sm e => ?_
      refine ⟨false, TE.ne, fun q => Bool.noConfusion q, fun _ => ⟨true, E_BadSpan.self, fun _ a na => ?_, fun q => Bool.noConfusion q⟩⟩
      walk_at "rdC"
      refine ⟨sz (by simp), fun tp ntp => ?_⟩
      walk_at "rdC"
      have e2 := same_new (o := .tup [.ref CE, .ref cT, .ref cR]) ntp _ _ e
      refine ⟨CB, d, _, tp, _, _, false, rfl, rfl, e2, E_BadSpan.ec, rfl, upd_same, .cons (.own _) (.cons (.own _) (.cons (.own _) .nil)), kB, ?_⟩
      walk_at "rdC"
      refine ⟨rfl, rfl, d, _, l, rfl, e2, spx_low, ?_⟩
      walk_at "rdC"
      refine ⟨rfl, rfl, d, _, hh, rfl, e2, spx_high, ?_⟩
      walk_at "rdC"
      refine ⟨CB, d, _, .ref cO, .ref cO, true, rfl, rfl, e2, E_BadSpan.ec, rfl, fun _ r => r, TE.bO, ?_⟩
      walk_at "rdC"
      exact ⟨sz (by simp), fun p2 np2 => h p2 _ ((s0.trans sm).trans ((same_new ntp).trans (same_new np2))) (by rw [upd_same]; simp [dueT, ol, oh, c])⟩
end

abbrev s_law_made : Stmt := topS 38
theorem sc_law_made : FnScope ["store", "ends", "kind"] ["store", "ends"] (defScope s_law_made) := ⟨rfl, rfl, rfl, by decide +kernel, rfl, by decide +kernel, by decide +kernel⟩

structure HasMkN (P : Program) (w : World) (K : PySem.W.Frag) (mg : Str → Option Value) (base : Heap) (CX : CXT) (C : Addr) (x : Str) (k n : Nat) (ps ks : List Str) (gV : List V → List V → List V) (sp : Sp) : Prop where
  ex : ∃ f fd, FnOk P w K mg base CX k f fd ps sp ∧ Mk K C f ∧ mg x = some (.ref C) ∧ ∃ g, KBn K fd ps (n + 1) ks g gV
section
variable {X : Cx} {CX : CXT} {C : Addr} {x : Str} {k n : Nat} {ps ks : List Str} {dvs : List V} {gV : List V → List V → List V} {sp : Sp} {E : XK} {p pos : Pos} {e : Expr} {es : List Expr} {kws : List Keyword} {t tk : TA}
theorem pe_make0H (h : HasMk X.prog X.w X.K X.mg X.base CX C x k ps dvs sp) (hr : Room (k + 1) X.A) (hg : Gl X x) (hx : Passes CX X E) (hdb : (x == ("__debug__" : Str)) = false := by decide) : PE X (.Call (.Name x p) [] [] pos) (tMake C sp dvs E tNil) := by
  obtain ⟨f, fd, ds, F, M, hm, hd, hb⟩ := h.ex
  exact pe_make0 M F hr hg hm hb hd hx hdb
theorem pe_makeK0H (h : HasMkN X.prog X.w X.K X.mg X.base CX C x k 0 ps ks gV sp) (hr : Room (k + 1) X.A) (hg : Gl X x) (hx : Passes CX X E) (hkw : PK X kws tk)
    (hall : (backToKw pos (keywordEach kws X.env)).all (·.1.isSome) = true := by rfl) (hks : (backToKw pos (keywordEach kws X.env)).filterMap (·.1) = ks := by rfl) (hdb : (x == ("__debug__" : Str)) = false := by decide)
    (hpl : ((backTo pos (starEach [] X.env)).any (·.1) || (backToKw pos (keywordEach kws X.env)).any (·.1.isNone)) = false := by rfl) :
    PE X (.Call (.Name x p) [] kws pos) (tMakeK C 0 ks.length sp gV E tNil tk) := by
  obtain ⟨f, fd, F, M, hm, g, hb⟩ := h.ex
  exact pe_makeK0 M F hr hg hm hb hx hkw hall hks hdb hpl
theorem pe_makeNH (h : HasMkN X.prog X.w X.K X.mg X.base CX C x k n ps ks gV sp) (hr : Room (k + 1) X.A) (hg : Gl X x) (hx : Passes CX X E) (ha : PA X (e :: es) t) (hkw : PK X kws tk)
    (hall : (backToKw pos (keywordEach kws X.env)).all (·.1.isSome) = true := by rfl) (hks : (backToKw pos (keywordEach kws X.env)).filterMap (·.1) = ks := by rfl)
    (hdb : (x == ("__debug__" : Str)) = false := by decide) (he : starEach (e :: es) X.env = (false, eval e X.env) :: starEach es X.env := by rfl)
    (hpl : ((backTo pos (starEach (e :: es) X.env)).any (·.1) || (backToKw pos (keywordEach kws X.env)).any (·.1.isNone)) = false := by rfl) :
    PE X (.Call (.Name x p) (e :: es) kws pos) (tMakeN C n ks.length sp gV E t tk) := by
  obtain ⟨f, fd, F, M, hm, g, hb⟩ := h.ex
  exact pe_makeN M F hr hg hm hb hx ha hkw hall hks hdb he hpl
theorem rd_makeK {m : Nat} {σ : L2.St} {H : Hp} {Q : VK} (h : t σ H fun vs H1 => tk σ H1 fun zs H2 => vs.length = n ∧ zs.length = m ∧ ∀ x dx, H2 x = none → H2 dx = none → dx ≠ x → sp (gV (.ref x :: vs) zs) (upd (upd H2 dx (.own x)) x (.ins C dx [])) (fun v H3 => v = .non ∧ Q (.ref x) H3) E) : tMakeK C n m sp gV E t tk σ H Q := h
theorem rd_makeN {m : Nat} {σ : L2.St} {H : Hp} {Q : VK} (h : t σ H fun vs H1 => tk σ H1 fun zs H2 => vs.length = n ∧ zs.length = m ∧ ∀ x dx, H2 x = none → H2 dx = none → dx ≠ x → sp (gV (.ref x :: vs) zs) (upd (upd H2 dx (.own x)) x (.ins C dx [])) (fun v H3 => v = .non ∧ Q (.ref x) H3) E) : tMakeN C n m sp gV E t tk σ H Q := h
end
section
variable {P : Program} {w : World} {K : PySem.W.Frag} {mg : Str → Option Value} {base : Heap} {C CE CB : Addr}
def spMade (C : Addr) : Sp := fun vs H Q _ => ∃ S : Sto, ∃ (q : Addr) (l h : V), vs = [.ref S.1, .ref q] ∧ StoreOk S H ∧ At S H q (.tup [l, h]) ∧ OpE l ∧ OpE h ∧ crossed l h = false ∧
  ∀ p dp H', H p = none → At S H' p (.ins C dp (spn l h)) → StoreOk S H' → ExS S H H' → Q (.ref p) H'
def gAp : List V → List V → List V := fun vs zs => vs ++ zs
def gRv : List V → List V → List V := fun vs zs => vs ++ zs.reverse
theorem ok_made {k j : Nat} {f : Addr} {fd : FuncData} (F : Fun K "_law_made" "_law_made" s_law_made f fd) (T : Blt mg) (H_law_take : Has P w K mg base "_law_take" k ["store", "many"] spTake) (hk : j + 1 ≤ k)
    (HM2 : HasMk P w K mg base (L2.CX P w) C "Span" j ["self", "low", "high"] [] (spSpanI C CE CB)) (HM1 : HasMk P w K mg base (L2.CX P w) C "Span" j ["self", "low", "high"] [.non] (spSpanI C CE CB)) (HM0 : HasMk P w K mg base (L2.CX P w) C "Span" j ["self", "low", "high"] [.non, .non] (spSpanI C CE CB))
    (HMN : HasMkN P w K mg base (L2.CX P w) C "Span" j 1 ["self", "low", "high"] ["high"] gAp (spSpanI C CE CB)) (HMK : HasMkN P w K mg base (L2.CX P w) C "Span" j 0 ["self", "low", "high"] ["high", "low"] gRv (spSpanI C CE CB)) : FnOk P w K mg base CX0 (k + 1) f fd ["store", "ends"] (spMade C) := by
  refine F.ok sc_law_made (fun vs H Q E h => ?_) (fun cdv A outer s H vs Q E hr h => ?_)
  · obtain ⟨S, q, l, h, rfl, _⟩ := h; rfl
  · obtain ⟨S, q, l, hh, rfl, hS, hq, ol, oh, nc, h⟩ := h
    refine ⟨_, (pss_cons (ps_set (i := 2) sc_law_made.nd rfl (.inl rfl) (pe_callH H_law_take hr (by rfl) (pa_cons (pv 0) (pa_cons pe_int pa_nil))))
 (pss_cons (ps_if (pt_cmpR op_eq (pv 2) pe_int (nomark _)) (pss_one (ps_ret (pe_makeH HM2 (hr.mono hk) (by rfl) (passF takes0) (pa_cons (pe_ix ix_seq (pv 1) pe_int (fun _ _ => rfl)) (pa_cons (pe_ix ix_seq (pv 1) pe_int (fun _ _ => rfl)) pa_nil))))) pss_nil)
 (pss_cons (ps_if (pt_cmpR op_eq (pv 2) pe_int (nomark _)) (pss_one (ps_ret (pe_makeK0H HMK (hr.mono hk) (by rfl) (passF takes0) (pk_cons (pe_ix ix_seq (pv 1) pe_int (fun _ _ => rfl)) (pk_cons (pe_ix ix_seq (pv 1) pe_int (fun _ _ => rfl)) pk_nil))))) pss_nil)
 (pss_cons (ps_if (pt_cmpR op_notN (pe_ix ix_seq (pv 1) pe_int (fun _ _ => rfl)) pe_non (nomark _)) (pss_one (ps_ret (pe_makeNH HMN (hr.mono hk) (by rfl) (passF takes0) (pa_cons (pe_ix ix_seq (pv 1) pe_int (fun _ _ => rfl)) pa_nil) (pk_cons (pe_ix ix_seq (pv 1) pe_int (fun _ _ => rfl)) pk_nil)))) pss_nil)
 (pss_cons (ps_if (pt_cmpR op_notN (pe_ix ix_seq (pv 1) pe_int (fun _ _ => rfl)) pe_non (nomark _)) (pss_one (ps_ret (pe_makeH HM1 (hr.mono hk) (by rfl) (passF takes0) (pa_cons (pe_ix ix_seq (pv 1) pe_int (fun _ _ => rfl)) pa_nil)))) pss_nil)
 (pss_one (ps_ret (pe_make0H HM0 (hr.mono hk) (by rfl) (passF takes0))))))))), ?_⟩
    walk_at "rdC"
    refine ⟨S, 3, rfl, by omega, hS, fun r H1 r0 r1 hS1 e1 => ?_⟩
    have hq1 := (hq.back e1).2
    have mk : ∀ p dp, H1 p = none → H1 dp = none → dp ≠ p → spSpanI C CE CB [.ref p, l, hh] (upd (upd H1 dp (.own p)) p (.ins C dp [])) (fun v H2 => v = .non ∧ Q (.ref p) H2) (fun _ _ _ => False) := fun p dp np ndp ne => by
      have np2 : upd H1 dp (.own p) p = none := by rw [upd_ne ne.symm]; exact np
      have e2 := (ExS.new (S := S) (o := .own p) ndp)
      have hS2 := hS1.new (o := .own p) ndp
      refine ⟨p, dp, l, hh, rfl, upd_same, ol.sc, oh.sc, fun _ _ _ => ⟨rfl, ?_⟩, fun o => ?_, fun _ o => ?_, fun _ _ c => ?_⟩
      · rw [upd_upd]
        exact h p dp _ (exs_free e1 hS1 np) (.new hS2 np2) (hS2.new np2) (e1.trans (e2.trans (ExS.new np2)))
      · rw [ol.2] at o; cases o
      · rw [oh.2] at o; cases o
      · rw [nc] at c; cases c
    walk_at "rdC"
    refine if_dec (fun hk0 => ?_) (fun hk0 => ?_)
    · walk_at "rdC"
      refine rd_ixQT hq1 rfl ?_
      walk_at "rdC"
      refine rd_ixQT hq1 rfl ?_
      walk_at "rdC"
      exact mk
    · walk_at "rdC"
      refine if_dec (fun hk1 => ?_) (fun hk1 => ?_)
      · walk_at "rdC"
        refine rd_makeK ?_
        walk_at "rdC"
        refine rd_ixQT hq1 rfl ?_
        walk_at "rdC"
        refine rd_ixQT hq1 rfl ?_
        walk_at "rdC"
        exact ⟨rfl, rfl, mk⟩
      · walk_at "rdC"
        refine rd_ixQT hq1 rfl ?_
        rcases oh.1 with rfl | ⟨j2, rfl⟩
        · walk_at "rdC"
          refine rd_ixQT hq1 rfl ?_
          rcases ol.1 with rfl | ⟨i2, rfl⟩
          · walk_at "rdC"
            exact mk
          · walk_at "rdC"
            refine rd_ixQT hq1 rfl ?_
            walk_at "rdC"
            exact mk
        · walk_at "rdC"
          refine rd_makeN ?_
          walk_at "rdC"
          refine rd_ixQT hq1 rfl ?_
          walk_at "rdC"
          refine rd_ixQT hq1 rfl ?_
          walk_at "rdC"
          exact ⟨rfl, rfl, mk⟩
end

abbrev sSpan_point : Stmt := inClass (topS 19) 5
theorem scSpan_point : FnScope ["cls", "number"] ["cls", "number"] (defScope sSpan_point) := ⟨rfl, rfl, rfl, by decide +kernel, rfl, by decide +kernel, by decide +kernel⟩
abbrev s_law_point_asked : Stmt := topS 45
theorem sc_law_point_asked : FnScope ["number", "named", "span", "e"] ["number", "named"] (defScope s_law_point_asked) := ⟨rfl, rfl, rfl, by decide +kernel, rfl, by decide +kernel, by decide +kernel⟩

theorem pe_makeLH {X : Cx} {CX : CXT} {C : Addr} {x y : Str} {i k : Nat} {ps : List Str} {dvs : List V} {sp : Sp} {E : XK} {p pos : Pos} {e : Expr} {es : List Expr} {t : TA} (h : HasMk X.prog X.w X.K X.mg X.base CX C y k ps dvs sp) (hr : Room (k + 1) X.A) (hN : X.N[i]? = some x) (hv : Vis X.env.scope x) (hx : Passes CX X E) (ha : PA X (e :: es) t)
    (hdb : (x == ("__debug__" : Str)) = false := by decide) (hcd : (x == ("__classdict__" : Str)) = false := by decide) (he : starEach (e :: es) X.env = (false, eval e X.env) :: starEach es X.env := by rfl) (hpl : (backTo pos (starEach es X.env)).any (·.1) = false := by rfl) :
    PE X (.Call (.Name x p) (e :: es) [] pos) (tMakeL i C sp dvs E t) := by
  obtain ⟨f, fd, ds, F, M, hm, hd, hb⟩ := h.ex
  exact pe_makeL M F hr hN hv hb hd hx ha hdb hcd he hpl
/-- a classmethod that may be called, also by keywords -/
structure HasCM (P : Program) (w : World) (K : PySem.W.Frag) (mg : Str → Option Value) (base : Heap) (CX : CXT) (C : Addr) (m : Str) (k : Nat) (ps ks : List Str) (sp : Sp) : Prop where
  ex : ∃ g fd q mc, FnOk P w K mg base CX k g fd ps sp ∧ ClX.CRead K C mc ∧ ClX.CMet K C mc m q g ∧ Binds K fd ps [] ∧ ∀ (s : Shared) (u : Value) (ws : List Value), ws.length = ks.length → BindsTo s fd ⟨[u], ks.zip ws⟩ (ps.zip (u :: ws))
theorem HasCM.mono {P : Program} {w : World} {K : PySem.W.Frag} {mg : Str → Option Value} {base : Heap} {CX : CXT} {C : Addr} {m : Str} {j k : Nat} {ps ks : List Str} {sp : Sp} (h : HasCM P w K mg base CX C m j ps ks sp) (l : j ≤ k) : HasCM P w K mg base CX C m k ps ks sp := by
  obtain ⟨g, fd, q, mc, F, r⟩ := h.ex
  exact ⟨g, fd, q, mc, F.mono l, r⟩
section
variable {X : Cx} {CX : CXT} {C : Addr} {m : Str} {k : Nat} {ps ks : List Str} {sp : Sp} {E : L2.St → XK} {o e : Expr} {es : List Expr} {kws : List Keyword} {ta : TE} {t tk : TA} {pos apos : Pos} {pl : Sem Bool}
theorem pe_cmSH (h : HasCM X.prog X.w X.K X.mg X.base CX C m k ps ks sp) (he : PE X o ta) (hr : Room k X.A) (hx : ∀ σ, PassesAt CX X σ (E σ)) (ha : PA X (e :: es) t)
    (hst : starEach (e :: es) X.env = (false, eval e X.env) :: starEach es X.env := by rfl) (hpl : (backTo pos (starEach es X.env)).any (·.1) = false := by rfl)
    (ht : eval (.Call (.Attribute o m apos) (e :: es) [] pos) X.env = (do
      let ov ← eval o X.env
      standAt apos.atName
      let (f, first) ← holding [ov] (getMethod ov m pl)
      callWith pos f first (backTo pos (starEach (e :: es) X.env)) (backToKw pos (keywordEach [] X.env))) := by rfl) :
    PE X (.Call (.Attribute o m apos) (e :: es) [] pos) (tCMethS C sp E ta t) := by
  obtain ⟨g, fd, q, mc, F, r, c, hb, _⟩ := h.ex
  exact pe_cmethS he r c F hb hr hx ha hst hpl ht
theorem pe_cmKSH (h : HasCM X.prog X.w X.K X.mg X.base CX C m k ps ks sp) (he : PE X o ta) (hr : Room k X.A) (hx : ∀ σ, PassesAt CX X σ (E σ)) (hkw : PK X kws tk)
    (hall : (backToKw pos (keywordEach kws X.env)).all (·.1.isSome) = true := by rfl) (hks : (backToKw pos (keywordEach kws X.env)).filterMap (·.1) = ks := by rfl)
    (hpl : ((backTo pos (starEach [] X.env)).any (·.1) || (backToKw pos (keywordEach kws X.env)).any (·.1.isNone)) = false := by rfl)
    (ht : eval (.Call (.Attribute o m apos) [] kws pos) X.env = (do
      let ov ← eval o X.env
      standAt apos.atName
      let (f, first) ← holding [ov] (getMethod ov m pl)
      callWith pos f first (backTo pos (starEach [] X.env)) (backToKw pos (keywordEach kws X.env))) := by rfl) :
    PE X (.Call (.Attribute o m apos) [] kws pos) (tCMethKS C ks.length sp E ta tk) := by
  obtain ⟨g, fd, q, mc, F, r, c, _, hb⟩ := h.ex
  exact pe_cmethKS he r c F hb hr hx hkw hall hks hpl ht
end
section
variable {P : Program} {w : World} {K : PySem.W.Frag} {mg : Str → Option Value} {base : Heap} {C CE CB : Addr}
/-! ### Span.point -/
def spPoint (C CE : Addr) : Sp := fun vs H Q E => ∃ v, vs = [.ref C, v] ∧ Sc v ∧ (isNum v = true → ∀ p dp H', Same H H' → H' p = some (.ins C dp (spn v v)) → Q (.ref p) H') ∧ (isNum v = false → Err E CE H v)
theorem crossed_self {v : V} : crossed v v = false := by
  cases v <;> first | rfl | exact decide_eq_false (by omega)
theorem ok_point {k j : Nat} {f : Addr} {fd : FuncData} (F : Fun K "point" "Span.point" sSpan_point f fd) (T : Blt mg) (Hcheck_number : HasX P w K mg base "check_number" k ["value"] (spCheck CE)) (HM_Span : HasMk P w K mg base (L2.CX P w) C "Span" j ["self", "low", "high"] [] (spSpanI C CE CB)) (hk : j + 1 ≤ k) : FnOk P w K mg base (L2.CX P w) (k + 1) f fd ["cls", "number"] (spPoint C CE) := by
  refine F.okX scSpan_point (fun vs H Q E h => ?_) (fun cdv A outer s H vs Q E hr h => ?_)
  · obtain ⟨v, rfl, _⟩ := h; rfl
  · obtain ⟨v, rfl, sv, h1, h2⟩ := h
    refine ⟨_, (pss_cons (ps_expr (pe_callX Hcheck_number hr (by rfl) (takes_of rfl rfl rfl rfl) (pa_cons (pv 1) pa_nil)))
 (pss_one (ps_ret (pe_makeLH (i := 0) HM_Span (hr.mono hk) rfl (Or.inl rfl) (passF takes0) (pa_cons (pv 1) (pa_cons (pv 1) pa_nil)))))), ?_⟩
    walk_at "rdC"
    refine ⟨v, rfl, sv, fun nv => ?_, h2⟩
    have o : isOpen v = true := isNum_open nv
    walk_at "rdC"
    refine rd_makeL rfl ?_
    walk_at "rdC"
    intro p dp np ndp ne
    refine ⟨p, dp, v, v, rfl, upd_same, sv, sv, fun _ _ _ => ⟨rfl, ?_⟩, fun o' => ?_, fun _ o' => ?_, fun _ _ c => ?_⟩
    · exact h1 nv p dp _ (same_mut ((same_new ndp).trans (same_new (by rw [upd_ne ne.symm]; exact np))) np) upd_same
    · rw [o] at o'; cases o'
    · rw [o] at o'; cases o'
    · rw [crossed_self] at c; cases c
/-! ### _law_point_asked -/
def ptT (v : V) : HO := if isNum v = true then .tup [v, v] else .tup [.str "BadNumber", v]
def spPointAsked : Sp := fun vs H Q _ => ∃ (v : V) (b : Bool), vs = [v, .bl b] ∧ Sc v ∧ ∀ p H', Same H H' → H' p = some (ptT v) → Q (.ref p) H'
theorem ok_point_asked {k : Nat} {f : Addr} {fd : FuncData} (F : Fun K "_law_point_asked" "_law_point_asked" s_law_point_asked f fd) (T : Blt mg) (S : SpC K C) (gS : mg "Span" = some (.ref C)) (E_BadNumber : ErrC K mg "BadNumber" CE) (N_BadNumber_number : PySem.W.findIn K (.ref CE) "number" = some none)
    (HCM_point : HasCM P w K mg base (L2.CX P w) C "point" k ["cls", "number"] ["number"] (spPoint C CE)) : FnOk P w K mg base CX0 (k + 1) f fd ["number", "named"] spPointAsked := by
  refine F.ok sc_law_point_asked (fun vs H Q E h => ?_) (fun cdv A outer s H vs Q E hr h => ?_)
  · obtain ⟨v, b, rfl, _⟩ := h; rfl
  · obtain ⟨v, b, rfl, sv, h⟩ := h
    refine ⟨_, (pss_cons (ps_try_as (i := 3) (Wout := fun _ _ _ _ => False) rfl rfl sc_law_point_asked.nd rfl rfl ⟨rfl, by decide, Or.inl E_BadNumber.gC⟩ takes0 (fun W pn xe tk _ => (pss_one (ps_if (pt_val (pv 1)) (pss_one (ps_set (i := 2) sc_law_point_asked.nd rfl (.inl rfl) (pe_cmKSH HCM_point (pe_globC rfl gS) hr (fun σ => passAt tk σ) (pk_cons (pv 0) pk_nil)))) (pss_one (ps_set (i := 2) sc_law_point_asked.nd rfl (.inl rfl) (pe_cmSH HCM_point (pe_globC rfl gS) hr (fun σ => passAt tk σ) (pa_cons (pv 0) pa_nil))))))) (fun a oe cls d pn hz hf => (pss_one (ps_ret (pe_tup (pa_cons pe_str (pa_cons (pe_xf E_BadNumber.xf N_BadNumber_number hz hf (pv 3)) pa_nil)))))))
 (pss_one (ps_ret (pe_tup (pa_cons (pe_fld (pv 2) rfl) (pa_cons (pe_fld (pv 2) rfl) pa_nil)))))), ?_⟩
    walk_at "rdC"
    refine if_bool (fun hb => ?_) (fun hb => ?_)
    · walk_at "rdC"
      refine rd_cmKS ?_
      walk_at "rdC"
      refine ⟨rfl, ?_⟩
      walk_at "rdC"
      refine ⟨rfl, v, rfl, sv, fun nv p dp H1 s1 hp => ?_, fun nv d H' sm e => ?_⟩
      · walk_at "rdC"
        refine ⟨p, C, dp, _, v, rfl, hp, S.cl, S.nl, spn_low, ?_⟩
        walk_at "rdC"
        refine ⟨p, C, dp, _, v, rfl, hp, S.cl, S.nh, spn_high, ?_⟩
        walk_at "rdC"
        exact ⟨sz (by simp), fun tp ntp => h tp _ (s1.trans (same_new ntp)) (by rw [upd_same]; simp [ptT, nv])⟩
      · refine ⟨true, E_BadNumber.self, fun _ a na => ?_, fun q => Bool.noConfusion q⟩
        walk_at "rdC"
        refine ⟨rfl, rfl, d, _, v, rfl, e, (by simp [List.lookup]), ?_⟩
        walk_at "rdC"
        exact ⟨sz (by simp), fun tp ntp => h tp _ (sm.trans (same_new ntp)) (by rw [upd_same]; simp [ptT, nv])⟩
    · walk_at "rdC"
      refine rd_cmS ?_
      walk_at "rdC"
      refine ⟨rfl, ?_⟩
      walk_at "rdC"
      refine ⟨v, rfl, sv, fun nv p dp H1 s1 hp => ?_, fun nv d H' sm e => ?_⟩
      · walk_at "rdC"
        refine ⟨p, C, dp, _, v, rfl, hp, S.cl, S.nl, spn_low, ?_⟩
        walk_at "rdC"
        refine ⟨p, C, dp, _, v, rfl, hp, S.cl, S.nh, spn_high, ?_⟩
        walk_at "rdC"
        exact ⟨sz (by simp), fun tp ntp => h tp _ (s1.trans (same_new ntp)) (by rw [upd_same]; simp [ptT, nv])⟩
      · refine ⟨true, E_BadNumber.self, fun _ a na => ?_, fun q => Bool.noConfusion q⟩
        walk_at "rdC"
        refine ⟨rfl, rfl, d, _, v, rfl, e, (by simp [List.lookup]), ?_⟩
        walk_at "rdC"
        exact ⟨sz (by simp), fun tp ntp => h tp _ (sm.trans (same_new ntp)) (by rw [upd_same]; simp [ptT, nv])⟩
end

abbrev slaw : Stmt := topS 46
theorem sclaw : FnScope ["script", "store", "pool", "pairs", "spans", "told", "ends", "lights", "j", "k", "met", "number", "due", "end"] ["script"] (defScope slaw) := ⟨rfl, rfl, rfl, by decide +kernel, rfl, by decide +kernel, by decide +kernel⟩

structure Z5 where
  (q s d : Addr)
  (l h : V)
def Z5.pr (z : Z5) : Addr × V × V := (z.q, z.l, z.h)
def Z5.lh (z : Z5) : V × V := (z.l, z.h)
structure ZOk (C : Addr) (H : Hp) (z : Z5) : Prop where
  hq : H z.q = some (.tup [z.l, z.h])
  hs : H z.s = some (.ins C z.d (spn z.l z.h))
  bl : Bar z.l
  bh : Bar z.h
  nc : crossed z.l z.h = false
theorem ZOk.same {C : Addr} {H H' : Hp} {z : Z5} (h : ZOk C H z) (s : Same H H') : ZOk C H' z := ⟨s _ _ h.hq, s _ _ h.hs, h.bl, h.bh, h.nc⟩
theorem grC_non {x : V} : grC x .non = x := by cases x <;> rfl
theorem lowC_non {x : V} : lowC x .non = x := by cases x <;> rfl
theorem OpE.ni {v : V} (h : OpE v) : NI v := h.1
theorem grC_comm {x y : V} (hx : NI x) (hy : NI y) : grC x y = grC y x := by
  rcases hx with rfl | ⟨i, rfl⟩ <;> rcases hy with rfl | ⟨j, rfl⟩ <;> try rfl
  show V.int (if i < j then j else i) = V.int (if j < i then i else j)
  congr 1
  split <;> split <;> omega
theorem lowC_comm {x y : V} (hx : NI x) (hy : NI y) : lowC x y = lowC y x := by
  rcases hx with rfl | ⟨i, rfl⟩ <;> rcases hy with rfl | ⟨j, rfl⟩ <;> try rfl
  show V.int (if j < i then j else i) = V.int (if i < j then i else j)
  congr 1
  split <;> split <;> omega
theorem grC_assoc {x y z : V} (hx : NI x) (hy : NI y) (hz : NI z) : grC (grC x y) z = grC x (grC y z) := by
  rcases hx with rfl | ⟨i, rfl⟩ <;> rcases hy with rfl | ⟨j, rfl⟩ <;> rcases hz with rfl | ⟨k, rfl⟩ <;> try rfl
  show V.int (if (if i < j then j else i) < k then k else (if i < j then j else i)) = V.int (if i < (if j < k then k else j) then (if j < k then k else j) else i)
  congr 1
  repeat' split
  all_goals omega
theorem lowC_assoc {x y z : V} (hx : NI x) (hy : NI y) (hz : NI z) : lowC (lowC x y) z = lowC x (lowC y z) := by
  rcases hx with rfl | ⟨i, rfl⟩ <;> rcases hy with rfl | ⟨j, rfl⟩ <;> rcases hz with rfl | ⟨k, rfl⟩ <;> try rfl
  show V.int (if k < (if j < i then j else i) then k else (if j < i then j else i)) = V.int (if (if k < j then k else j) < i then (if k < j then k else j) else i)
  congr 1
  repeat' split
  all_goals omega
/-! a pair of ends as data -/
def dOf : V → PyData
  | .int i => .int i
  | _ => .none
theorem dp_end {K : PySem.W.Frag} {H : Hp} {v : V} (n : NI v) : Dp K H v (dOf v) := by
  rcases n with rfl | ⟨i, rfl⟩
  · exact .non
  · exact .int i
theorem eqv_end {x y : V} (hx : NI x) (hy : NI y) : PyData.eqv (dOf x) (dOf y) = decide (x = y) := by
  rcases hx with rfl | ⟨i, rfl⟩ <;> rcases hy with rfl | ⟨j, rfl⟩
  · rfl
  · rfl
  · rfl
  · show (i == j) = decide (V.int i = V.int j)
    rw [Bool.eq_iff_iff]; simp
theorem eqv_ends {l h l2 h2 : V} (a : NI l) (b : NI h) (c : NI l2) (d : NI h2) : PyData.eqv (.tuple [dOf l, dOf h]) (.tuple [dOf l2, dOf h2]) = (decide (l = l2) && decide (h = h2)) := by
  show PyData.eqvAll _ _ = _
  simp only [PyData.eqvAll, eqv_end a c, eqv_end b d, Bool.and_true]
theorem shaped_ends {l h : V} (a : NI l) (b : NI h) : SeqAt.shaped (.tuple [dOf l, dOf h]) = true := by
  rcases a with rfl | ⟨i, rfl⟩ <;> rcases b with rfl | ⟨j, rfl⟩ <;> rfl
theorem keep_step {xs : List V} {j : Nat} {z : V} (hz : xs[j]? = some z) : (xs.take (j + 1)).filterMap keepN = (xs.take j).filterMap keepN ++ (match keepN z with | none => [] | some v => [v]) := by
  rw [List.take_add_one, hz, List.filterMap_append]
  cases e : keepN z <;> simp [e]
theorem keep_len {xs : List V} {j : Nat} (hl : xs.length < 100000) : ((xs.take j).filterMap keepN).length < sizeLine := by
  have := List.length_filterMap_le keepN (xs.take j)
  have h2 : (xs.take j).length ≤ xs.length := by rw [List.length_take]; omega
  exact Nat.lt_of_lt_of_le (by omega : _ < 100000) (by decide)
theorem keep_bars {x y : V} (hx : Bar x) (hy : Bar y) : ∃ ns : List Int, [x, y].filterMap keepN = ns.map V.int ∧ (∀ n ∈ ns, InR n) ∧ ns.length ≤ 2 := by
  rcases hx with rfl | ⟨i, rfl, hi⟩ <;> rcases hy with rfl | ⟨j, rfl, hj⟩
  · exact ⟨[], rfl, by simp, by simp⟩
  · exact ⟨[j], rfl, by simpa using hj, by simp⟩
  · exact ⟨[i], rfl, by simpa using hi, by simp⟩
  · exact ⟨[i, j], rfl, by simp; exact ⟨hi, hj⟩, by simp⟩
theorem alike_tup1 {H : Hp} {p q : Addr} {xs : List V} {n : Nat} (hp : H p = some (.tup xs)) (hq : H q = some (.tup xs)) (hl : xs.length ≤ 100000) (sc : ∀ x ∈ xs, Sc x) : Alike H (n + 1) (.ref p) (.ref q) :=
  .inr ⟨p, q, xs, xs, rfl, rfl, .inr ⟨hp, hq⟩, rfl, hl, fun i u v h1 h2 => by
    have e : u = v := Option.some.inj (h1.symm.trans h2)
    subst e
    cases n with
    | zero => exact ⟨sc u (List.mem_of_getElem? h1), rfl⟩
    | succ n => exact .inl ⟨sc u (List.mem_of_getElem? h1), rfl⟩⟩
theorem due_tup {l h : V} (a : Sc l) (b : Sc h) : ∃ xs, dueT l h = .tup xs ∧ xs.length ≤ 10 ∧ ∀ x ∈ xs, Sc x := by
  unfold dueT
  repeat' split
  all_goals refine ⟨_, rfl, by simp, ?_⟩
  all_goals simp only [List.mem_cons, forall_eq_or_imp, List.not_mem_nil, false_implies, implies_true, and_true]
  all_goals first | exact ⟨trivial, a, b, trivial, trivial⟩ | exact ⟨a, b⟩ | exact ⟨trivial, b, trivial, trivial⟩ | exact ⟨trivial, a, trivial, trivial⟩
theorem pt_tup {v : V} (a : Sc v) : ∃ xs, ptT v = .tup xs ∧ xs.length ≤ 10 ∧ ∀ x ∈ xs, Sc x := by
  unfold ptT
  split
  all_goals refine ⟨_, rfl, by simp, ?_⟩
  all_goals simp only [List.mem_cons, forall_eq_or_imp, List.not_mem_nil, false_implies, implies_true, and_true]
  all_goals first | exact ⟨a, a⟩ | exact ⟨trivial, a⟩
section
variable {P : Program} {w : World} {K : PySem.W.Frag} {mg : Str → Option Value} {base : Heap} {C CE CB : Addr}
theorem ZOk.op {H : Hp} {z : Z5} (h : ZOk C H z) : OpE z.l ∧ OpE z.h := ⟨h.bl.op, h.bh.op⟩
theorem prs_of {H : Hp} {a : Addr} {T : List Z5} (ha : H a = some (.lst (T.map fun z => V.ref z.q))) (hz : ∀ z ∈ T, ZOk C H z) : PrsAt H a (T.map Z5.lh) ∧ AllNI (T.map Z5.lh) := by
  refine ⟨⟨T.map fun z => z.q, by rw [ha, List.map_map]; rfl, by simp, fun i q p h1 h2 => ?_⟩, fun p hp => ?_⟩
  · rw [List.getElem?_map] at h1 h2
    cases e : T[i]? with
    | none => rw [e] at h1; cases h1
    | some z =>
      rw [e] at h1 h2
      have h1 : z.q = q := Option.some.inj h1
      have h2 : z.lh = p := Option.some.inj h2
      subst h1 h2
      have o := hz z (List.mem_of_getElem? e)
      exact ⟨o.hq, o.bl.op.1, o.bh.op.1⟩
  · obtain ⟨z, m, rfl⟩ := List.mem_map.mp hp
    exact ⟨(hz z m).bl.op.1, (hz z m).bh.op.1⟩
theorem get_z {T : List Z5} (f : Z5 → V) {j : Nat} (hj : j < T.length) : ∃ z, z ∈ T ∧ T[j]? = some z ∧ atI (T.map f) (j : Int) = some (f z) := by
  refine ⟨T[j], List.getElem_mem hj, by simp [hj], ?_⟩
  unfold atI ixN
  rw [if_pos (by omega), if_pos (by simpa using hj)]
  simp [hj]
def MeetRes (C : Addr) (H : Hp) (L M v : V) : Prop := (v = .non ∧ crossed L M = true) ∨ ∃ p dp, v = .ref p ∧ H p = some (.ins C dp (spn L M)) ∧ crossed L M = false
theorem MeetRes.same {H H' : Hp} {L M v : V} (h : MeetRes C H L M v) (s : Same H H') : MeetRes C H' L M v := by
  rcases h with h | ⟨p, dp, e, hp, c⟩
  · exact .inl h
  · exact .inr ⟨p, dp, e, s _ _ hp, c⟩
theorem and_of {H : Hp} {Q : VK} {E : XK} {a b dx dy : Addr} {l1 h1 l2 h2 : V} (ha : H a = some (.ins C dx (spn l1 h1))) (hb : H b = some (.ins C dy (spn l2 h2))) (o1 : OpE l1) (o2 : OpE h1) (o3 : OpE l2) (o4 : OpE h2)
    (q : ∀ v H', Same H H' → MeetRes C H' (grC l1 l2) (lowC h1 h2) v → Q v H') : rBinM C (spAnd C) E (.ref a) (.ref b) H Q :=
  ⟨a, b, dx, dy, _, _, rfl, rfl, ha, hb, a, b, dx, dy, l1, h1, l2, h2, rfl, ha, hb, o1, o2, o3, o4, fun c H' s => ⟨.inl rfl, q _ H' s (.inl ⟨rfl, c⟩)⟩, fun c p dp H' s np hp => ⟨.inr ⟨p, rfl⟩, q _ H' s (.inr ⟨p, dp, rfl, hp, c⟩)⟩⟩
theorem eq_of {H : Hp} {Q : VK} {E : XK} {K : PySem.W.Frag} {z z' : Z5} (o : ZOk C H z) (o' : ZOk C H z') (q : Q (.bl (decide (z.l = z'.l) && decide (z.h = z'.h))) H) : rEqM K C (spEqS K C) E (.ref z.s) (.ref z'.s) H Q :=
  ⟨z.s, z.d, _, rfl, o.hs, .ins o'.hs, z.s, z.d, z.l, z.h, .ref z'.s, rfl, o.hs, o.bl.op.1, o.bh.op.1, .inl ⟨z'.s, z'.d, z'.l, z'.h, rfl, o'.hs, o'.bl.op.1, o'.bh.op.1, _, rfl, q⟩⟩
theorem eqd_of {H : Hp} {Q : VK} {K : PySem.W.Frag} {z z' : Z5} (o : ZOk C H z) (o' : ZOk C H z') (q : Q (.bl (decide (z.l = z'.l) && decide (z.h = z'.h))) H) : rEqD K (.ref z.q) (.ref z'.q) H Q := by
  refine ⟨_, _, .tup (st_of o.hq) (.cons (dp_end o.bl.op.1) (.cons (dp_end o.bh.op.1) .nil)), .tup (st_of o'.hq) (.cons (dp_end o'.bl.op.1) (.cons (dp_end o'.bh.op.1) .nil)), shaped_ends o.bl.op.1 o.bh.op.1, shaped_ends o'.bl.op.1 o'.bh.op.1, ?_⟩
  rw [eqv_ends o.bl.op.1 o.bh.op.1 o'.bl.op.1 o'.bh.op.1]
  exact q
theorem eqf_of {H : Hp} {Q : VK} {E : XK} {K : PySem.W.Frag} {z : Z5} {y : V} (o : ZOk C H z) (ek : EqK K C H y) (hy : (∃ i, y = .int i) ∨ (∃ z, y = .str z) ∨ ∃ b xs, y = .ref b ∧ H b = some (.tup xs)) (q : Q (.bl false) H) : rEqM K C (spEqS K C) E (.ref z.s) y H Q :=
  ⟨z.s, z.d, _, rfl, o.hs, ek, z.s, z.d, z.l, z.h, y, rfl, o.hs, o.bl.op.1, o.bh.op.1, .inr ⟨hy, _, rfl, q⟩⟩
theorem meet_of {H : Hp} {Q : VK} {E : XK} {v : V} {a b : Addr} {T : List Z5} {ls : List Int} {L M : V} (ha : H a = some (.lst (T.map fun z => V.ref z.q))) (hz : ∀ z ∈ T, ZOk C H z) (hT : T.length ≤ 3) (hb : H b = some (.lst (ls.map V.int))) (hl : ls.length ≤ 10000)
    (eL : maxL (T.map Z5.lh) = L) (eM : minH (T.map Z5.lh) = M) (r : MeetRes C H L M v) (q : ∀ H', Same H H' → Q (.bl true) H') : spIsMeet C [v, .ref a, .ref b] H Q E := by
  subst eL eM
  obtain ⟨p1, p2⟩ := prs_of ha hz
  refine ⟨v, a, b, _, ls, rfl, p1, p2, by rw [List.length_map]; omega, hb, by omega, ?_, q⟩
  rcases r with r | ⟨p, dp, e, hp, c⟩
  · exact .inl r
  · exact .inr ⟨p, dp, e, hp, c⟩
theorem same_bl {H : Hp} {Q : VK} {E : XK} {b : Bool} (q : ∀ H', Same H H' → Q (.bl true) H') : spSame 2 [.bl b, .bl b] H Q E := ⟨_, _, rfl, .inl ⟨trivial, trivial, fun H' s => by rw [decide_eq_true rfl]; exact q H' s⟩⟩
/-! ### law -/
def spLaw (K : PySem.W.Frag) : Sp := fun vs H Q _ => ∃ (a : Addr) (ns : List Int), vs = [.ref a] ∧ SqL K H a (ns.map V.int) ∧ ns.length ≤ 63 ∧ ∀ H', Q (.bl true) H'
theorem ok_law {k : Nat} {f : Addr} {fd : FuncData} (F : Fun K "law" "law" slaw f fd) (T : Blt mg) (S5 : SpC K C) (sfC : PySem.W.selfFirst K C = true) (H_law_store : Has P w K mg base "_law_store" k ["script"] (spStore K)) (H_law_pool : Has P w K mg base "_law_pool" k ["store"] spPool) (H_law_take : Has P w K mg base "_law_take" k ["store", "many"] spTake)
    (H_law_number : Has P w K mg base "_law_number" k ["store"] spNumber) (H_law_ends : Has P w K mg base "_law_ends" k ["store", "pool"] spEnds) (H_law_made : Has P w K mg base "_law_made" k ["store", "ends"] (spMade C)) (H_law_tried : Has P w K mg base "_law_tried" k ["numbers"] spTried)
    (H_law_is_span : Has P w K mg base "_law_is_span" k ["span", "ends"] (spIsSpan C)) (H_law_is_meet : Has P w K mg base "_law_is_meet" k ["met", "pairs", "lights"] (spIsMeet C)) (H_law_same : Has P w K mg base "_law_same" k ["actual", "expected"] (spSame 2)) (H_law_pick : Has P w K mg base "_law_pick" k ["store", "items"] spPick)
    (H_law_near : Has P w K mg base "_law_near" k ["store", "pool"] spNear) (H_law_bad_number : Has P w K mg base "_law_bad_number" k ["store", "keyed"] spBadNum) (H_law_is_number : Has P w K mg base "_law_is_number" k ["value"] spIsNum) (H_law_point_asked : Has P w K mg base "_law_point_asked" k ["number", "named"] spPointAsked)
    (H_law_end : Has P w K mg base "_law_end" k ["store", "pool"] spEnd) (H_law_span_asked : Has P w K mg base "_law_span_asked" k ["ends"] spSpanDue) (H_law_span_due : Has P w K mg base "_law_span_due" k ["ends"] spSpanDue)
    (HM_and : HasM P w K mg base CX0 C (PySem.dunder (Operator.info .BitAnd).2) k ["self", "other"] (spAnd C)) (HM_eq : HasM P w K mg base CX0 C "__eq__" k ["self", "other"] (spEqS K C)) : FnOk P w K mg base CX0 (k + 1) f fd ["script"] (spLaw K) := by
  refine F.ok sclaw (fun vs H Q E h => ?_) (fun cdv A outer s H vs Q E hr h => ?_)
  · obtain ⟨a, ns, rfl, _⟩ := h; rfl
  · obtain ⟨a, ns, rfl, hL, _, h⟩ := h
    refine ⟨_, (pss_cons (ps_set (i := 1) sclaw.nd rfl (.inr rfl) (pe_callH H_law_store hr (by rfl) (pa_cons (pv 0) pa_nil)))
 (pss_cons (ps_set (i := 2) sclaw.nd rfl (.inr rfl) (pe_callH H_law_pool hr (by rfl) (pa_cons (pv 1) pa_nil)))
 (C8.pss_cut (ps_if (pt_cmpR op_eq (pe_callH H_law_take hr (by rfl) (pa_cons (pv 1) (pa_cons pe_int pa_nil))) pe_int (nomark _)) (pss_one (ps_set (i := 2) sclaw.nd rfl (.inr rfl) (pe_callB cr_sortedI (by rfl) T.sorted (by decide +kernel) (pa_cons (pe_lc (own := [("k", 9)]) (g := gName 9) (by rfl) sclaw.nd (pi_range1 rfl T.range (pa_cons pe_int pa_nil)) (blkOk_by (own := [("k", 9)]) (N := ["script", "store", "pool", "pairs", "spans", "told", "ends", "lights", "j", "k", "met", "number", "due", "end"]) (sc := defScope slaw) (by decide +kernel)) (fun _ _ _ _ _ => pg_name (i := 9) sclaw.nd rfl (Or.inl rfl)) (fun _ _ _ _ _ => pts_nil) (fun _ _ _ _ _ => (pe_callH H_law_number hr (by rfl) (pa_cons (pv 1) pa_nil)))) pa_nil)))) pss_nil)
 (pss_cons (ps_setLc (i := 3) (own := [("k", 9)]) (g := gName 9) (by rfl) sclaw.nd rfl rfl (sw_true rfl rfl rfl (by decide +kernel)) (pi_range1 rfl T.range (pa_cons pe_int pa_nil)) (blkOk_by (own := [("k", 9)]) (N := ["script", "store", "pool", "pairs", "spans", "told", "ends", "lights", "j", "k", "met", "number", "due", "end"]) (sc := defScope slaw) (by decide +kernel)) (fun _ _ _ _ _ => pg_name (i := 9) sclaw.nd rfl (Or.inl rfl)) (fun _ _ _ _ _ => pts_nil) (fun _ _ _ _ _ => (pe_callH H_law_ends hr (by rfl) (pa_cons (pv 1) (pa_cons (pv 2) pa_nil)))))
 (pss_cons (ps_setLc (i := 4) (own := [("ends", 6)]) (g := gName 6) (by rfl) sclaw.nd rfl rfl (sw_true rfl rfl rfl (by decide +kernel)) (pi_list (pv 3)) (blkOk_by (own := [("ends", 6)]) (N := ["script", "store", "pool", "pairs", "spans", "told", "ends", "lights", "j", "k", "met", "number", "due", "end"]) (sc := defScope slaw) (by decide +kernel)) (fun _ _ _ _ _ => pg_name (i := 6) sclaw.nd rfl (Or.inl rfl)) (fun _ _ _ _ _ => pts_nil) (fun _ _ _ _ _ => (pe_callH H_law_made hr (by rfl) (pa_cons (pv 1) (pa_cons (pv 6) pa_nil)))))
 (pss_cons (ps_set (i := 5) sclaw.nd rfl (.inl rfl) (pe_callTy call_list_of (by rfl) T.list' (by decide +kernel) (pa_cons (pv 2) pa_nil)))
 (C8.pss_cut (ps_for PassesOwn.never rfl (pi_list (pv 3)) (pg_name (i := 6) sclaw.nd rfl (.inl rfl)) (pss_one (ps_set (i := 5) sclaw.nd rfl (.inl rfl) (pe_op op_cat (pv 5) (pe_lc (own := [("end", 13)]) (g := gName 13) (by rfl) sclaw.nd (pi_tup (pv 6)) (blkOk_by (own := [("end", 13)]) (N := ["script", "store", "pool", "pairs", "spans", "told", "ends", "lights", "j", "k", "met", "number", "due", "end"]) (sc := defScope slaw) (by decide +kernel)) (fun _ _ _ _ _ => pg_name (i := 13) sclaw.nd rfl (Or.inl rfl)) (fun _ _ _ _ _ => (pts_one (pt_cmpR op_notN (pv 13) pe_non (nomark _)))) (fun _ _ _ _ _ => (pv 13)))))))
 (pss_cons (ps_set (i := 7) sclaw.nd rfl (.inl rfl) (pe_op op_cat (pe_callH H_law_tried hr (by rfl) (pa_cons (pv 5) pa_nil)) (pe_lst (pa_cons (pe_op op_add (pe_op op_pow pe_int pe_int) pe_int) (pa_cons (pe_op op_sub (pe_un un_neg (pe_op op_pow pe_int pe_int)) pe_int) (pa_cons (pe_op op_pow pe_int pe_int) (pa_cons (pe_un un_neg (pe_op op_pow pe_int pe_int)) pa_nil)))))))
 (C8.pss_cut (ps_for PassesOwn.never rfl (pi_range1 rfl T.range (pa_cons pe_int pa_nil)) (pg_name (i := 8) sclaw.nd rfl (.inl rfl)) (pss_cons (ps_if (PW.pt (pw_or (pt_not (pt_val (pe_callH H_law_is_span hr (by rfl) (pa_cons (pe_ix ix_list (pv 4) (pv 8) (fun _ _ => rfl)) (pa_cons (pe_ix ix_list (pv 3) (pv 8) (fun _ _ => rfl)) pa_nil))))) (pw_or1 (pt_not (pt_val (pe_callH H_law_is_meet hr (by rfl) (pa_cons (pe_ix ix_list (pv 4) (pv 8) (fun _ _ => rfl)) (pa_cons (pe_lst (pa_cons (pe_ix ix_list (pv 3) (pv 8) (fun _ _ => rfl)) pa_nil)) (pa_cons (pv 7) pa_nil))))))))) (pss_one (ps_ret pe_bl)) pss_nil)
 (pss_one (ps_for PassesOwn.never rfl (pi_range1 rfl T.range (pa_cons pe_int pa_nil)) (pg_name (i := 9) sclaw.nd rfl (.inl rfl)) (pss_cons (ps_if (pt_not (pt_val (pe_callH H_law_is_meet hr (by rfl) (pa_cons (pe_op (op_binM HM_and sfC hr pass0) (pe_ix ix_list (pv 4) (pv 8) (fun _ _ => rfl)) (pe_ix ix_list (pv 4) (pv 9) (fun _ _ => rfl))) (pa_cons (pe_lst (pa_cons (pe_ix ix_list (pv 3) (pv 8) (fun _ _ => rfl)) (pa_cons (pe_ix ix_list (pv 3) (pv 9) (fun _ _ => rfl)) pa_nil))) (pa_cons (pv 7) pa_nil)))))) (pss_one (ps_ret pe_bl)) pss_nil)
 (pss_one (ps_if (pt_not (pt_val (pe_callH H_law_same hr (by rfl) (pa_cons (pe_cmpR (op_eqM HM_eq hr pass0) (pe_ix ix_list (pv 4) (pv 8) (fun _ _ => rfl)) (pe_ix ix_list (pv 4) (pv 9) (fun _ _ => rfl)) (nomark _)) (pa_cons (pe_cmpR (op_eqD hr.units) (pe_ix ix_list (pv 3) (pv 8) (fun _ _ => rfl)) (pe_ix ix_list (pv 3) (pv 9) (fun _ _ => rfl)) (nomark _)) pa_nil))))) (pss_one (ps_ret pe_bl)) pss_nil)))))))
 (pss_cons (ps_set (i := 10) sclaw.nd rfl (.inl rfl) (pe_op (op_binM HM_and sfC hr pass0) (pe_ix ix_list (pv 4) pe_int (fun _ _ => rfl)) (pe_ix ix_list (pv 4) pe_int (fun _ _ => rfl))))
 (C8.pss_cut (ps_if (pt_cmpR op_notN (pv 10) pe_non (nomark _)) (pss_one (ps_if (PW.pt (pw_or (pt_not (pt_val (pe_callH H_law_is_meet hr (by rfl) (pa_cons (pe_op (op_binM HM_and sfC hr pass0) (pv 10) (pe_ix ix_list (pv 4) pe_int (fun _ _ => rfl))) (pa_cons (pv 3) (pa_cons (pv 7) pa_nil)))))) (pw_or1 (pt_not (pt_val (pe_callH H_law_is_meet hr (by rfl) (pa_cons (pe_op (op_binM HM_and sfC hr pass0) (pe_ix ix_list (pv 4) pe_int (fun _ _ => rfl)) (pv 10)) (pa_cons (pv 3) (pa_cons (pv 7) pa_nil))))))))) (pss_one (ps_ret pe_bl)) pss_nil)) pss_nil)
 (pss_cons (ps_set (i := 11) sclaw.nd rfl (.inl rfl) (pe_callH H_law_pick hr (by rfl) (pa_cons (pv 1) (pa_cons (pe_lst (pa_cons (pe_callH H_law_number hr (by rfl) (pa_cons (pv 1) pa_nil)) (pa_cons (pe_callH H_law_near hr (by rfl) (pa_cons (pv 1) (pa_cons (pv 2) pa_nil))) (pa_cons (pe_callH H_law_bad_number hr (by rfl) (pa_cons (pv 1) (pa_cons pe_bl pa_nil))) pa_nil)))) pa_nil))))
 (pss_cons (ps_set (i := 12) sclaw.nd rfl (.inl rfl) (pe_tup (pa_cons (pv 11) (pa_cons (pv 11) pa_nil))))
 (C8.pss_cut (ps_if (pt_not (pt_val (pe_callH H_law_is_number hr (by rfl) (pa_cons (pv 11) pa_nil)))) (pss_one (ps_set (i := 12) sclaw.nd rfl (.inl rfl) (pe_tup (pa_cons pe_str (pa_cons (pv 11) pa_nil))))) pss_nil)
 (pss_cons (ps_if (pt_not (pt_val (pe_callH H_law_same hr (by rfl) (pa_cons (pe_lst (pa_cons (pe_callH H_law_point_asked hr (by rfl) (pa_cons (pv 11) (pa_cons pe_bl pa_nil))) (pa_cons (pe_callH H_law_point_asked hr (by rfl) (pa_cons (pv 11) (pa_cons pe_bl pa_nil))) pa_nil))) (pa_cons (pe_lst (pa_cons (pv 12) (pa_cons (pv 12) pa_nil))) pa_nil))))) (pss_one (ps_ret pe_bl)) pss_nil)
 (pss_cons (ps_set (i := 6) sclaw.nd rfl (.inl rfl) (pe_tup (pa_cons (pe_callH H_law_end hr (by rfl) (pa_cons (pv 1) (pa_cons (pv 2) pa_nil))) (pa_cons (pe_callH H_law_end hr (by rfl) (pa_cons (pv 1) (pa_cons (pv 2) pa_nil))) pa_nil))))
 (pss_cons (ps_if (pt_not (pt_val (pe_callH H_law_same hr (by rfl) (pa_cons (pe_callH H_law_span_asked hr (by rfl) (pa_cons (pv 6) pa_nil)) (pa_cons (pe_callH H_law_span_due hr (by rfl) (pa_cons (pv 6) pa_nil)) pa_nil))))) (pss_one (ps_ret pe_bl)) pss_nil)
 (C8.pss_cut (ps_for PassesOwn.never rfl (pi_range1 rfl T.range (pa_cons pe_int pa_nil)) (pg_name (i := 8) sclaw.nd rfl (.inl rfl)) (pss_one (ps_if (PW.pt (pw_or (pt_not (pt_val (pe_callH H_law_is_span hr (by rfl) (pa_cons (pe_ix ix_list (pv 4) (pv 8) (fun _ _ => rfl)) (pa_cons (pe_ix ix_list (pv 3) (pv 8) (fun _ _ => rfl)) pa_nil))))) (pw_or1 (pt_not (pt_val (pe_callH H_law_same hr (by rfl) (pa_cons (pe_cmpR (op_eqM HM_eq hr pass0) (pe_ix ix_list (pv 4) (pv 8) (fun _ _ => rfl)) (pe_ix ix_list (pv 3) (pv 8) (fun _ _ => rfl)) (nomark _)) (pa_cons pe_bl pa_nil)))))))) (pss_one (ps_ret pe_bl)) pss_nil)))
 (pss_one (ps_ret (pe_and (pe_callH H_law_same hr (by rfl) (pa_cons (pe_cmpR (op_eqM HM_eq hr pass0) (pe_ix ix_list (pv 4) pe_int (fun _ _ => rfl)) pe_str (nomark _)) (pa_cons pe_bl pa_nil))) (pe_one (pe_callH H_law_same hr (by rfl) (pa_cons (pe_cmpR (op_eqM HM_eq hr pass0) (pe_ix ix_list (pv 4) pe_int (fun _ _ => rfl)) pe_int (nomark _)) (pa_cons pe_bl pa_nil))))))))))))))))))))))))), ?_⟩
    walk_at "rdC"
    refine ⟨a, ns, rfl, hL, fun S H1 hS1 s1 => ?_⟩
    walk_at "rdC"
    refine ⟨S, rfl, hS1, fun p ps H2 hps l2 l6 hA2 hS2 e2 => ?_⟩
    walk_at "rdC"
    refine rd_cut (fun σ' H' => ∃ p, ∃ ps : List Int, σ' = [some (.ref a), some (.ref S.1), some (.ref p), none, none, none, none, none, none, none, none, none, none, none] ∧ (∀ n ∈ ps, InR n) ∧ 2 ≤ ps.length ∧ ps.length ≤ 6 ∧ At S H' p (.lst (ps.map V.int)) ∧ StoreOk S H') ?_ ?_
    · walk_at "rdC"
      refine ⟨S, 4, rfl, by omega, hS2, fun r H3 r0 r1 hS3 e3 => ?_⟩
      walk_at "rdC"
      refine if_dec (fun hr3 => ?_) (fun hr3 => ?_)
      · walk_at "rdC"
        refine ⟨by omega, by omega, ?_⟩
        refine fun D nD => lc_rng (fun i H' => ∃ ms : List Int, ms.length = i ∧ (∀ n ∈ ms, InR n) ∧ H' D = some (.lst (ms.map V.int)) ∧ StoreOk S H' ∧ D ≠ S.1 ∧ D ≠ S.2) ⟨[], rfl, by simp, upd_same, hS3.new nD, hS3.ne1 nD, hS3.ne2 nD⟩ ?_ ?_
        · rintro i H4 hi ⟨ms, hm, hmr, hD, hS4, n1, n2⟩
          refine ⟨rfl, ?_⟩
          walk_at "rdC"
          refine ⟨S, rfl, hS4, fun n H5 hn hS5 e5 => ?_⟩
          refine ⟨_, e5 _ _ n1 hD, ?_, ms ++ [n], by simp [hm], ?_, ?_, store_upd hS5 n1 n2, n1, n2⟩
          · rw [List.length_map]; exact Nat.lt_of_le_of_lt (by omega : _ ≤ 6) (by decide)
          · intro x hx
            rcases List.mem_append.mp hx with h1 | h1
            · exact hmr x h1
            · rw [List.mem_singleton.mp h1]; exact hn
          · rw [upd_same, List.map_append]; rfl
        · rintro H4 ⟨ms, hm, hmr, hD, hS4, n1, n2⟩
          walk_at "rdC"
          refine ⟨D, ms, rfl, sl_of hD, fun ms' q hperm _ nq => ?_⟩
          walk_at "rdC"
          have hm : ms.length = 6 := hm
          exact ⟨q, ms', rfl, fun n hn => hmr n (hperm.mem_iff.mp hn), by rw [hperm.length_eq]; omega, by rw [hperm.length_eq]; omega, .new hS4 nq, hS4.new nq⟩
      · walk_at "rdC"
        exact ⟨p, ps, rfl, hps, l2, l6, hA2.back e3, hS3⟩
    · rintro σ' H4 ⟨p, ps, rfl, hps, l2, l6, hA4, hS4⟩
      walk_at "rdC"
      refine ⟨by omega, by omega, ?_⟩
      refine fun D nD => lc_rng (fun i H' => ∃ zs : List (Addr × V × V), zs.length = i ∧ H' D = some (.lst (zs.map fun z => V.ref z.1)) ∧ (∀ z ∈ zs, At S H' z.1 (.tup [z.2.1, z.2.2]) ∧ Bar z.2.1 ∧ Bar z.2.2 ∧ crossed z.2.1 z.2.2 = false) ∧ StoreOk S H' ∧ ExS S H4 H' ∧ D ≠ S.1 ∧ D ≠ S.2) ⟨[], rfl, upd_same, by simp, hS4.new nD, ExS.new nD, hS4.ne1 nD, hS4.ne2 nD⟩ ?_ ?_
      · rintro i H5 hi ⟨zs, hz, hD, hzz, hS5, e5, n1, n2⟩
        refine ⟨rfl, ?_⟩
        walk_at "rdC"
        refine ⟨S, p, ps, rfl, hS5, hA4.back e5, by omega, by omega, fun q l hh H6 bl bh nc nq hq hS6 e6 => ?_⟩
        have hD6 := e6 _ _ n1 hD
        refine ⟨_, hD6, ?_, zs ++ [(q, l, hh)], by simp [hz], ?_, ?_, store_upd hS6 n1 n2, ExS.mut (e5.trans e6) nD, n1, n2⟩
        · rw [List.length_map]; exact Nat.lt_of_le_of_lt (by omega : _ ≤ 3) (by decide)
        · rw [upd_same, List.map_append]; rfl
        · have far : ∀ {x : Addr} {u v : V}, At S H6 x (.tup [u, v]) → At S (upd H6 D (.lst (List.map (fun z => V.ref z.1) zs ++ [V.ref q]))) x (.tup [u, v]) := fun {x u v} hx => by
            have ne : x ≠ D := fun e => (by have := hx.2; rw [e, hD6] at this; cases this)
            exact ⟨hx.1, by rw [upd_ne ne]; exact hx.2⟩
          intro z hm
          rcases List.mem_append.mp hm with h1 | h1
          · obtain ⟨o1, o2⟩ := hzz z h1
            exact ⟨far (o1.back e6), o2⟩
          · rw [List.mem_singleton.mp h1]
            exact ⟨far hq, bl, bh, nc⟩
      · rintro H5 ⟨zs, hz, hD, hzz, hS5, e5, n1, n2⟩
        have hz : zs.length = 3 := hz
        have hA5 := hA4.back e5
        walk_at "rdC"
        refine ⟨D, rfl, ⟨_, sl_of hD⟩, ?_⟩
        refine fun G nG => lc_list (xs := zs.map fun z => V.ref z.1) (fun i H' => ∃ T : List Z5, T.map Z5.pr = zs.take i ∧ H' G = some (.lst (T.map fun z => V.ref z.s)) ∧ (∀ z ∈ T, At S H' z.s (.ins C z.d (spn z.l z.h))) ∧ StoreOk S H' ∧ ExS S H5 H' ∧ G ≠ S.1 ∧ G ≠ S.2) ⟨[], rfl, upd_same, by simp, hS5.new nG, ExS.new nG, hS5.ne1 nG, hS5.ne2 nG⟩ (fun i H' _ hp => ?_) ?_ ?_
        · obtain ⟨T, _, _, _, _, e6, _⟩ := hp
          exact sl_of (e6 _ _ n1 hD)
        · rintro i x H6 hx ⟨T, hT, hG, hTT, hS6, e6, m1, m2⟩
          obtain ⟨z, hzi, rfl⟩ := get_map hx
          refine ⟨rfl, ?_⟩
          walk_at "rdC"
          obtain ⟨o1, o2, o3, o4⟩ := hzz z (List.mem_of_getElem? hzi)
          refine ⟨S, z.1, z.2.1, z.2.2, rfl, hS6, o1.back e6, o2.op, o3.op, o4, fun q dq H7 nq hq hS7 e7 => ?_⟩
          have hG7 := e7 _ _ m1 hG
          have lT : T.length ≤ 3 := by
            have := congrArg List.length hT
            rw [List.length_map, List.length_take] at this
            omega
          refine ⟨_, hG7, ?_, T ++ [⟨z.1, q, dq, z.2.1, z.2.2⟩], ?_, ?_, ?_, store_upd hS7 m1 m2, ExS.mut (e6.trans e7) nG, m1, m2⟩
          · rw [List.length_map]; exact Nat.lt_of_le_of_lt (by omega : _ ≤ 3) (by decide)
          · rw [List.map_append, hT, List.take_add_one, hzi]; rfl
          · rw [upd_same, List.map_append]; rfl
          · have far : ∀ {x d : Addr} {u v : V}, At S H7 x (.ins C d (spn u v)) → At S (upd H7 G (.lst (List.map (fun z => V.ref z.s) T ++ [V.ref q]))) x (.ins C d (spn u v)) := fun {x d u v} hx => by
              have ne : x ≠ G := fun e => (by have := hx.2; rw [e, hG7] at this; cases this)
              exact ⟨hx.1, by rw [upd_ne ne]; exact hx.2⟩
            intro y hm
            rcases List.mem_append.mp hm with h1 | h1
            · exact far ((hTT y h1).back e7)
            · rw [List.mem_singleton.mp h1]
              exact far hq
        · rintro H6 ⟨T, hT, hG, hTT, hS6, e6, m1, m2⟩
          have hT : T.map Z5.pr = zs := by rw [hT, List.length_map, List.take_length]
          have lT : T.length = 3 := by rw [← hz, ← hT, List.length_map]
          have hD6 : H6 D = some (.lst (T.map fun z => V.ref z.q)) := by
            rw [e6 _ _ n1 hD, ← hT, List.map_map]; rfl
          have hZ6 : ∀ z ∈ T, ZOk C H6 z := fun z hm => by
            obtain ⟨o1, o2, o3, o4⟩ := hzz z.pr (by rw [← hT]; exact List.mem_map_of_mem hm)
            exact ⟨(o1.back e6).2, (hTT z hm).2, o2, o3, o4⟩
          have hN : ∀ z ∈ T, z.q ≠ S.1 ∧ z.s ≠ S.1 := fun z hm => by
            obtain ⟨o1, _⟩ := hzz z.pr (by rw [← hT]; exact List.mem_map_of_mem hm)
            exact ⟨o1.1, (hTT z hm).1⟩
          have hA6 := hA5.back e6
          clear hD hzz hS5 e5 hTT e6 hA5 hA4 hS4 hT nD nG hz
          walk_at "rdC"
          refine ⟨p, _, rfl, .inl (sl_of hA6.2), fun t nt => ?_⟩
          have hA7 := hA6.back (ExS.new (o := .lst (ps.map V.int)) nt)
          have hS7 := hS6.new (o := .lst (ps.map V.int)) nt
          have sm7 := same_new (o := .lst (ps.map V.int)) nt
          have hD7 := sm7 _ _ hD6
          have hG7 := sm7 _ _ hG
          have hZ7 : ∀ z ∈ T, ZOk C (upd H6 t (.lst (ps.map V.int))) z := fun z hm => (hZ6 z hm).same sm7
          have ht7 : upd H6 t (.lst (ps.map V.int)) t = some (.lst (ps.map V.int)) := upd_same
          obtain ⟨H7, eH7⟩ : ∃ HB, HB = upd H6 t (.lst (ps.map V.int)) := ⟨_, rfl⟩
          rw [← eH7] at hA7 hS7 hD7 hG7 hZ7 ht7 ⊢
          clear eH7 sm7 hD6 hG hZ6 hS6 hA6
          refine rd_cut (fun σ' H' => ∃ t y, ∃ ts : List Int, σ' = [some (.ref a), some (.ref S.1), some (.ref p), some (.ref D), some (.ref G), some (.ref t), y, none, none, none, none, none, none, none] ∧ H' t = some (.lst (ts.map V.int)) ∧ (∀ n ∈ ts, InR n) ∧ ts.length ≤ 20 ∧ Same H7 H') ?_ ?_
          · walk_at "rdC"
            refine ⟨D, rfl, ⟨_, sl_of hD7⟩, for_lst (xs := T.map fun z => V.ref z.q) (fun i σ H' => ∃ t y, ∃ ts : List Int, σ = [some (.ref a), some (.ref S.1), some (.ref p), some (.ref D), some (.ref G), some (.ref t), y, none, none, none, none, none, none, none] ∧ H' t = some (.lst (ts.map V.int)) ∧ (∀ n ∈ ts, InR n) ∧ ts.length ≤ 6 + 2 * i ∧ Same H7 H') ⟨t, _, ps, rfl, ht7, hps, by omega, Same.refl _⟩ ?_ ?_ ?_⟩
            · rintro i σ H' ⟨t, y, ts, rfl, _, _, _, sm⟩
              exact sm _ _ hD7
            · rintro i x σ H8 hi ⟨t, y, ts, rfl, ht, hts, lts, sm⟩
              obtain ⟨z, hzi, rfl⟩ := get_map hi
              have oz := (hZ7 z (List.mem_of_getElem? hzi)).same sm
              have li : i < 3 := by rw [← lT]; exact (List.getElem?_eq_some_iff.mp hzi).1
              obtain ⟨ks, ek, hks, lks⟩ := keep_bars oz.bl oz.bh
              walk_at "rdC"
              refine ⟨z.q, rfl, ⟨_, st_of oz.hq⟩, fun B nB => lc_tup (xs := [z.l, z.h]) (fun j H' => Same H8 H' ∧ H' B = some (.lst (([z.l, z.h].take j).filterMap keepN))) ⟨same_new nB, upd_same⟩ (fun j H' _ hp => st_of (hp.1 _ _ oz.hq)) (fun j v H' hv hp => ?_) (fun H9 hp => ?_)⟩
              · obtain ⟨t1, t3⟩ := hp
                have hvn : NI v := by
                  have := List.mem_of_getElem? hv
                  simp at this
                  rcases this with rfl | rfl
                  · exact oz.bl.op.1
                  · exact oz.bh.op.1
                refine ⟨rfl, ?_⟩
                rcases hvn with rfl | ⟨n, rfl⟩
                · walk_at "rdC"
                  exact ⟨t1, by rw [keep_step hv, t3]; simp [keepN]⟩
                · walk_at "rdC"
                  exact ⟨_, t3, keep_len (by show 2 < 100000; decide), same_mut t1 nB, by rw [upd_same, keep_step hv]; rfl⟩
              · obtain ⟨s9, hB⟩ := hp
                have hB : H9 B = some (.lst ([z.l, z.h].filterMap keepN)) := hB
                rw [ek] at hB
                refine ⟨t, B, _, _, rfl, rfl, s9 _ _ ht, hB, sz (by simp; omega), fun u nu => ?_⟩
                walk_at "rdC"
                refine ⟨u, _, ts ++ ks, rfl, by rw [upd_same, List.map_append], fun n hn => ?_, by rw [List.length_append]; omega, (sm.trans s9).trans (same_new nu)⟩
                rcases List.mem_append.mp hn with h1 | h1
                · exact hts n h1
                · exact hks n h1
            · rintro σ H8 ⟨t, y, ts, rfl, ht, hts, lts, sm⟩
              have lts : ts.length ≤ 6 + 2 * T.length := by simpa using lts
              exact ⟨t, y, ts, rfl, ht, hts, by omega, sm⟩
          · rintro σ' H8 ⟨t, y, ts, rfl, ht, hts, lts, sm⟩
            walk_at "rdC"
            refine ⟨t, ts, rfl, ht, hts, by omega, fun la ls H9 hls lls s9 nla hla => ?_⟩
            walk_at "rdC"
            refine ⟨sz (by simp), fun u nu => ?_⟩
            walk_at "rdC"
            refine ⟨la, u, _, _, rfl, rfl, same_new nu _ _ hla, upd_same, sz (by simp; omega), fun lb nlb => ?_⟩
            have sm10 : Same H7 (upd (upd H9 u (.lst [V.int (1000000000000 + 1), V.int (-1000000000000 - 1), V.int 10000000000000000000000000000000000000000, V.int (-10000000000000000000000000000000000000000)])) lb (.lst (ls.map V.int ++ [V.int (1000000000000 + 1), V.int (-1000000000000 - 1), V.int 10000000000000000000000000000000000000000, V.int (-10000000000000000000000000000000000000000)]))) := (sm.trans s9).trans ((same_new nu).trans (same_new nlb))
            obtain ⟨ms, ems⟩ : ∃ ms, ms = ls ++ [1000000000000 + 1, -1000000000000 - 1, 10000000000000000000000000000000000000000, -10000000000000000000000000000000000000000] := ⟨_, rfl⟩
            have lms : ms.length ≤ 10000 := by rw [ems, List.length_append]; simp; omega
            have hlb : upd (upd H9 u (.lst [V.int (1000000000000 + 1), V.int (-1000000000000 - 1), V.int 10000000000000000000000000000000000000000, V.int (-10000000000000000000000000000000000000000)])) lb (.lst (ls.map V.int ++ [V.int (1000000000000 + 1), V.int (-1000000000000 - 1), V.int 10000000000000000000000000000000000000000, V.int (-10000000000000000000000000000000000000000)])) lb = some (.lst (ms.map V.int)) := by rw [upd_same, ems, List.map_append]; rfl
            obtain ⟨HA, eHA⟩ : ∃ HB, HB = upd (upd H9 u (.lst [V.int (1000000000000 + 1), V.int (-1000000000000 - 1), V.int 10000000000000000000000000000000000000000, V.int (-10000000000000000000000000000000000000000)])) lb (.lst (ls.map V.int ++ [V.int (1000000000000 + 1), V.int (-1000000000000 - 1), V.int 10000000000000000000000000000000000000000, V.int (-10000000000000000000000000000000000000000)])) := ⟨_, rfl⟩
            rw [← eHA] at sm10 hlb ⊢
            clear eHA ems hla s9 nla nlb nu
            have hDA := sm10 _ _ hD7
            have hGA := sm10 _ _ hG7
            have hZA : ∀ z ∈ T, ZOk C HA z := fun z hm => (hZ7 z hm).same sm10
            have hSA := hS7.same sm10
            have hpA := sm10 _ _ hA7.2
            clear hD7 hG7 hZ7 hS7 sm10 sm ht hts lts
            refine rd_cut (fun σ' H' => ∃ y j k, σ' = [some (.ref a), some (.ref S.1), some (.ref p), some (.ref D), some (.ref G), some (.ref t), y, some (.ref lb), j, k, none, none, none, none] ∧ Same HA H') ?_ ?_
            · walk_at "rdC"
              refine ⟨by omega, by omega, for_rng (fun i σ H' => ∃ y j k, σ = [some (.ref a), some (.ref S.1), some (.ref p), some (.ref D), some (.ref G), some (.ref t), y, some (.ref lb), j, k, none, none, none, none] ∧ Same HA H') ⟨_, _, _, rfl, Same.refl _⟩ ?_ ?_⟩
              · rintro i σ HB hi ⟨y, j, k, rfl, smB⟩
                have hi : i < 3 := hi
                obtain ⟨z, hzT, _, _⟩ := get_z (T := T) (fun z => V.ref z.q) (j := i) (by omega)
                have oz := (hZA z hzT).same smB
                obtain ⟨z', hz', ei, eq⟩ := get_z (T := T) (fun z => V.ref z.q) (j := i) (by omega)
                obtain ⟨z'', hz'', ei', es⟩ := get_z (T := T) (fun z => V.ref z.s) (j := i) (by omega)
                obtain rfl : z' = z'' := Option.some.inj (ei.symm.trans ei')
                clear oz hzT
                have oz := (hZA z' hz').same smB
                walk_at "rdC"
                refine rd_ixL (smB _ _ hGA) es ?_
                walk_at "rdC"
                refine rd_ixL (smB _ _ hDA) eq ?_
                walk_at "rdC"
                refine ⟨z'.s, z'.d, z'.q, z'.l, z'.h, rfl, oz.hs, oz.bl.op.1, oz.bh.op.1, .inl oz.hq, fun HC sC => ?_⟩
                have smC := smB.trans sC
                walk_at "rdC"
                refine rd_ixL (smC _ _ hGA) es ?_
                walk_at "rdC"
                refine rd_ixL (smC _ _ hDA) eq ?_
                walk_at "rdC"
                refine ⟨sz (by simp), fun l nl => ?_⟩
                have smD := smC.trans (same_new (o := .lst [.ref z'.q]) nl)
                walk_at "rdC"
                refine meet_of (T := [z']) upd_same (fun z hm => by rw [List.mem_singleton.mp hm]; exact (hZA z' hz').same smD) (by simp) (smD _ _ hlb) lms grC_non lowC_non (.inr ⟨z'.s, z'.d, rfl, ((hZA z' hz').same smD).hs, oz.nc⟩) fun HE sE => ?_
                have smE := smD.trans sE
                walk_at "rdC"
                refine ⟨by omega, by omega, for_rng (fun j σ H' => ∃ y k, σ = [some (.ref a), some (.ref S.1), some (.ref p), some (.ref D), some (.ref G), some (.ref t), y, some (.ref lb), some (.int i), k, none, none, none, none] ∧ Same HA H') ⟨_, _, rfl, smE⟩ ?_ ?_⟩
                · rintro j σ HB hj ⟨y, k, rfl, smB⟩
                  have hj : j < 3 := hj
                  obtain ⟨x, hx, fi, fq⟩ := get_z (T := T) (fun z => V.ref z.q) (j := j) (by omega)
                  obtain ⟨x', hx', fi', fs⟩ := get_z (T := T) (fun z => V.ref z.s) (j := j) (by omega)
                  obtain rfl : x = x' := Option.some.inj (fi.symm.trans fi')
                  have oz := (hZA z' hz').same smB
                  have ox := (hZA x hx).same smB
                  walk_at "rdC"
                  refine rd_ixL (smB _ _ hGA) es ?_
                  walk_at "rdC"
                  refine rd_ixL (smB _ _ hGA) fs ?_
                  refine and_of oz.hs ox.hs oz.bl.op oz.bh.op ox.bl.op ox.bh.op fun v HC sC mr => ?_
                  have smC := smB.trans sC
                  walk_at "rdC"
                  refine rd_ixL (smC _ _ hDA) eq ?_
                  walk_at "rdC"
                  refine rd_ixL (smC _ _ hDA) fq ?_
                  walk_at "rdC"
                  refine ⟨sz (by simp), fun l nl => ?_⟩
                  have smD := smC.trans (same_new (o := .lst [.ref z'.q, .ref x.q]) nl)
                  walk_at "rdC"
                  refine meet_of (T := [z', x]) upd_same (fun z hm => ?_) (by simp) (smD _ _ hlb) lms (by show grC z'.l (grC x.l .non) = _; rw [grC_non]) (by show lowC z'.h (lowC x.h .non) = _; rw [lowC_non]) (mr.same (same_new nl)) fun HE sE => ?_
                  · simp only [List.mem_cons, List.not_mem_nil, or_false] at hm
                    rcases hm with rfl | rfl
                    · exact (hZA _ hz').same smD
                    · exact (hZA _ hx).same smD
                  have smE := smD.trans sE
                  have oz := (hZA z' hz').same smE
                  have ox := (hZA x hx).same smE
                  walk_at "rdC"
                  refine rd_ixL (smE _ _ hGA) es ?_
                  walk_at "rdC"
                  refine rd_ixL (smE _ _ hGA) fs ?_
                  refine eq_of oz ox ?_
                  walk_at "rdC"
                  refine rd_ixL (smE _ _ hDA) eq ?_
                  walk_at "rdC"
                  refine rd_ixL (smE _ _ hDA) fq ?_
                  refine eqd_of oz ox ?_
                  walk_at "rdC"
                  refine same_bl fun HF sF => ?_
                  walk_at "rdC"
                  exact ⟨_, _, rfl, smE.trans sF⟩
                · rintro σ HF ⟨y, k, rfl, smF⟩
                  exact ⟨_, _, _, rfl, smF⟩
              · rintro σ HF ⟨y, j, k, rfl, smF⟩
                exact ⟨_, _, _, rfl, smF⟩
            · rintro σ' HB ⟨y, j, k, rfl, smB⟩
              walk_at "rdC"
              obtain ⟨z0, z1, z2, rfl⟩ : ∃ z0 z1 z2, T = [z0, z1, z2] := by
                match T, lT with
                | [z0, z1, z2], _ => exact ⟨z0, z1, z2, rfl⟩
              have o0 := (hZA z0 (by simp)).same smB
              have o1 := (hZA z1 (by simp)).same smB
              refine rd_ixL (smB _ _ hGA) rfl ?_
              walk_at "rdC"
              refine rd_ixL (smB _ _ hGA) rfl ?_
              refine and_of o0.hs o1.hs o0.bl.op o0.bh.op o1.bl.op o1.bh.op fun v HC sC mr => ?_
              have smC := smB.trans sC
              walk_at "rdC"
              refine rd_cut (fun σ' H' => σ' = [some (.ref a), some (.ref S.1), some (.ref p), some (.ref D), some (.ref G), some (.ref t), y, some (.ref lb), j, k, some v, none, none, none] ∧ Same HA H') ?_ ?_
              · walk_at "rdC"
                rcases mr with ⟨rfl, c⟩ | ⟨m, dm, rfl, hm, c⟩
                · walk_at "rdC"
                  exact ⟨rfl, smC⟩
                · have g1 := open_grC o0.bl.op o1.bl.op
                  have g2 := open_lowC o0.bh.op o1.bh.op
                  have o2 := (hZA z2 (by simp)).same smC
                  walk_at "rdC"
                  refine rd_ixL (smC _ _ hGA) rfl ?_
                  refine and_of hm o2.hs g1 g2 o2.bl.op o2.bh.op fun v HD sD mr => ?_
                  have smD := smC.trans sD
                  walk_at "rdC"
                  refine meet_of (smD _ _ hDA) (fun z hz => (hZA z hz).same smD) (by simp) (smD _ _ hlb) lms ?_ ?_ mr fun HE sE => ?_
                  · show grC z0.l (grC z1.l (grC z2.l .non)) = _
                    rw [grC_non, grC_assoc o0.bl.op.1 o1.bl.op.1 o2.bl.op.1]
                  · show lowC z0.h (lowC z1.h (lowC z2.h .non)) = _
                    rw [lowC_non, lowC_assoc o0.bh.op.1 o1.bh.op.1 o2.bh.op.1]
                  have smE := smD.trans sE
                  have o2 := (hZA z2 (by simp)).same smE
                  walk_at "rdC"
                  refine rd_ixL (smE _ _ hGA) rfl ?_
                  walk_at "rdC"
                  refine and_of o2.hs ((sD.trans sE) _ _ hm) o2.bl.op o2.bh.op g1 g2 fun v HF sF mr => ?_
                  have smF := smE.trans sF
                  walk_at "rdC"
                  refine meet_of (smF _ _ hDA) (fun z hz => (hZA z hz).same smF) (by simp) (smF _ _ hlb) lms ?_ ?_ mr fun HG sG => ?_
                  · show grC z0.l (grC z1.l (grC z2.l .non)) = _
                    rw [grC_non, grC_comm o2.bl.op.1 g1.1, grC_assoc o0.bl.op.1 o1.bl.op.1 o2.bl.op.1]
                  · show lowC z0.h (lowC z1.h (lowC z2.h .non)) = _
                    rw [lowC_non, lowC_comm o2.bh.op.1 g2.1, lowC_assoc o0.bh.op.1 o1.bh.op.1 o2.bh.op.1]
                  walk_at "rdC"
                  exact ⟨rfl, smF.trans sG⟩
              · rintro σ' HD ⟨rfl, smD⟩
                have hSD := hSA.same smD
                have hpD : At S HD p (.lst (ps.map V.int)) := ⟨hA7.1, smD _ _ hpA⟩
                walk_at "rdC"
                refine ⟨S, rfl, hSD, fun n1' HE hn1 hSE eE => ?_⟩
                walk_at "rdC"
                refine ⟨S, p, ps, rfl, hSE, hpD.back eE, by omega, by omega, fun n2' HF hn2 hSF eF => ?_⟩
                walk_at "rdC"
                refine ⟨S, false, rfl, hSF, fun bv HG hbv _ hSG eG => ?_⟩
                walk_at "rdC"
                refine ⟨sz (by simp), fun l nl => ?_⟩
                have eG' := (eE.trans eF).trans eG
                have hSH := hSG.new (o := .lst [.int n1', .int n2', bv]) nl
                have eH' := eG'.trans (ExS.new (o := .lst [.int n1', .int n2', bv]) nl)
                walk_at "rdC"
                refine ⟨S, l, _, rfl, hSH, .new hSG nl, by simp, by simp, fun x HI hx hSI eI => ?_⟩
                have sx : Sc x := by
                  simp only [List.mem_cons, List.not_mem_nil, or_false] at hx
                  rcases hx with rfl | rfl | rfl
                  · trivial
                  · trivial
                  · rcases hbv with ⟨b, rfl⟩ | ⟨n, rfl, _⟩ <;> trivial
                have eI' := eH'.trans eI
                walk_at "rdC"
                refine ⟨sz (by simp), fun d nd => ?_⟩
                walk_at "rdC"
                have eJ' := eI'.trans (ExS.new (o := .tup [x, x]) nd)
                have hSJ := hSI.new (o := .tup [x, x]) nd
                refine rd_cut (fun σ' H' => ∃ d, σ' = [some (.ref a), some (.ref S.1), some (.ref p), some (.ref D), some (.ref G), some (.ref t), y, some (.ref lb), j, k, some v, some x, some (.ref d), none] ∧ H' d = some (ptT x) ∧ StoreOk S H' ∧ ExS S HD H') ?_ ?_
                · walk_at "rdC"
                  refine ⟨x, rfl, sx, ?_⟩
                  walk_at "rdC"
                  refine if_nbool (fun hn => ?_) (fun hn => ?_)
                  · walk_at "rdC"
                    refine ⟨sz (by simp), fun d2 nd2 => ?_⟩
                    walk_at "rdC"
                    exact ⟨d2, rfl, by rw [upd_same]; simp [ptT, hn], hSJ.new nd2, eJ'.trans (ExS.new nd2)⟩
                  · walk_at "rdC"
                    exact ⟨d, rfl, by rw [upd_same]; simp [ptT, hn], hSJ, eJ'⟩
                · rintro σ' HK ⟨d, rfl, hd, hSK, eK⟩
                  walk_at "rdC"
                  refine ⟨x, false, rfl, sx, fun q1 HL sL hq1 => ?_⟩
                  walk_at "rdC"
                  refine ⟨x, true, rfl, sx, fun q2 HM sM hq2 => ?_⟩
                  walk_at "rdC"
                  refine ⟨sz (by simp), fun l1 nl1 => ?_⟩
                  walk_at "rdC"
                  refine ⟨sz (by simp), fun l2' nl2 => ?_⟩
                  obtain ⟨xs, exs, lxs, sxs⟩ := pt_tup sx
                  have s1' := same_new (o := .lst [.ref q1, .ref q2]) nl1
                  have s2' := same_new (o := .lst [.ref d, .ref d]) nl2
                  rw [exs] at hq1 hq2 hd
                  have hd' := (s1'.trans s2') _ _ ((sL.trans sM) _ _ hd)
                  have hq1' := (s1'.trans s2') _ _ (sM _ _ hq1)
                  have hq2' := (s1'.trans s2') _ _ hq2
                  walk_at "rdC"
                  refine ⟨_, _, rfl, .inr ⟨.inr ⟨l1, l2', [.ref q1, .ref q2], [.ref d, .ref d], rfl, rfl, .inl ⟨s2' _ _ upd_same, upd_same⟩, rfl, by simp, fun i u w h1 h2 => ?_⟩, fun HN sN => ?_⟩⟩
                  · match i, h1, h2 with
                    | 0, h1, h2 =>
                      obtain rfl := Option.some.inj h1
                      obtain rfl := Option.some.inj h2
                      exact alike_tup1 hq1' hd' (by omega) sxs
                    | 1, h1, h2 =>
                      obtain rfl := Option.some.inj h1
                      obtain rfl := Option.some.inj h2
                      exact alike_tup1 hq2' hd' (by omega) sxs
                    | n + 2, h1, _ => simp at h1
                  · have sKN := ((sL.trans sM).trans (s1'.trans s2')).trans sN
                    have hSN := hSK.same sKN
                    have eN := eK.trans (same_ex sKN)
                    have hpN := hpD.back eN
                    walk_at "rdC"
                    refine ⟨S, p, ps, rfl, hSN, hpN, by omega, by omega, fun u HO su bu hSO eO => ?_⟩
                    walk_at "rdC"
                    refine ⟨S, p, ps, rfl, hSO, hpN.back eO, by omega, by omega, fun u2 HP su2 bu2 hSP eP => ?_⟩
                    walk_at "rdC"
                    refine ⟨sz (by simp), fun en nen => ?_⟩
                    have sP := same_new (o := .tup [u, u2]) nen
                    have eP' := (eN.trans (eO.trans eP)).trans (same_ex sP)
                    have hEn : upd HP en (.tup [u, u2]) en = some (.tup [u, u2]) := upd_same
                    obtain ⟨HQ, eHQ⟩ : ∃ HB, HB = upd HP en (.tup [u, u2]) := ⟨_, rfl⟩
                    rw [← eHQ] at eP' hEn ⊢
                    have hGQ := eP' _ _ m1 (smD _ _ hGA)
                    have hDQ := eP' _ _ n1 (smD _ _ hDA)
                    have hZQ : ∀ z ∈ [z0, z1, z2], ZOk C HQ z := fun z hz => by
                      obtain ⟨b1, b2, b3, b4, b5⟩ := (hZA z hz).same smD
                      exact ⟨eP' _ _ (hN z hz).1 b1, eP' _ _ (hN z hz).2 b2, b3, b4, b5⟩
                    walk_at "rdC"
                    refine ⟨en, u, u2, rfl, hEn, su, su2, fun r1 HR sR hr1 => ?_⟩
                    walk_at "rdC"
                    refine ⟨en, u, u2, rfl, sR _ _ hEn, su, su2, fun r2 HT sT hr2 => ?_⟩
                    obtain ⟨ys, eys, lys, sys⟩ := due_tup su su2
                    rw [eys] at hr1 hr2
                    walk_at "rdC"
                    refine ⟨_, _, rfl, .inr ⟨alike_tup1 (n := 1) (sT _ _ hr1) hr2 (by omega) sys, fun HU sU => ?_⟩⟩
                    have smU := (sR.trans sT).trans sU
                    walk_at "rdC"
                    refine rd_cut (fun σ' H' => ∃ j, σ' = [some (.ref a), some (.ref S.1), some (.ref p), some (.ref D), some (.ref G), some (.ref t), some (.ref en), some (.ref lb), j, k, some v, some x, some (.ref d), none] ∧ Same HQ H') ?_ ?_
                    · walk_at "rdC"
                      refine ⟨by omega, by omega, for_rng (fun i σ H' => ∃ j, σ = [some (.ref a), some (.ref S.1), some (.ref p), some (.ref D), some (.ref G), some (.ref t), some (.ref en), some (.ref lb), j, k, some v, some x, some (.ref d), none] ∧ Same HQ H') ⟨_, rfl, smU⟩ ?_ ?_⟩
                      · rintro i σ HB hi ⟨j, rfl, smB⟩
                        have hi : i < 3 := hi
                        obtain ⟨z', hz', ei, eq⟩ := get_z (T := [z0, z1, z2]) (fun z => V.ref z.q) (j := i) hi
                        obtain ⟨z'', hz'', ei', es⟩ := get_z (T := [z0, z1, z2]) (fun z => V.ref z.s) (j := i) hi
                        obtain rfl : z' = z'' := Option.some.inj (ei.symm.trans ei')
                        have oz := (hZQ z' hz').same smB
                        walk_at "rdC"
                        refine rd_ixL (smB _ _ hGQ) es ?_
                        walk_at "rdC"
                        refine rd_ixL (smB _ _ hDQ) eq ?_
                        walk_at "rdC"
                        refine ⟨z'.s, z'.d, z'.q, z'.l, z'.h, rfl, oz.hs, oz.bl.op.1, oz.bh.op.1, .inl oz.hq, fun HC sC => ?_⟩
                        have smC := smB.trans sC
                        have oz := (hZQ z' hz').same smC
                        walk_at "rdC"
                        refine rd_ixL (smC _ _ hGQ) es ?_
                        walk_at "rdC"
                        refine rd_ixL (smC _ _ hDQ) eq ?_
                        refine eqf_of oz (.tup oz.hq) (.inr (.inr ⟨_, _, rfl, oz.hq⟩)) ?_
                        walk_at "rdC"
                        refine same_bl fun HF sF => ?_
                        walk_at "rdC"
                        exact ⟨_, rfl, smC.trans sF⟩
                      · rintro σ HF ⟨j, rfl, smF⟩
                        exact ⟨_, rfl, smF⟩
                    · rintro σ' HV ⟨j, rfl, smV⟩
                      have q0 := (hZQ z0 (by simp)).same smV
                      walk_at "rdC"
                      refine rd_ixL (smV _ _ hGQ) rfl ?_
                      walk_at "rdC"
                      refine eqf_of q0 (.str _) (.inr (.inl ⟨_, rfl⟩)) ?_
                      walk_at "rdC"
                      refine same_bl fun HW sW => ?_
                      have smW := smV.trans sW
                      have q1 := (hZQ z1 (by simp)).same smW
                      walk_at "rdC"
                      refine rd_ixL (smW _ _ hGQ) rfl ?_
                      walk_at "rdC"
                      refine eqf_of q1 (.int _) (.inl ⟨_, rfl⟩) ?_
                      walk_at "rdC"
                      refine same_bl fun HX sX => ?_
                      exact h HX
end

theorem kb_of {K : PySem.W.Frag} {x qual : Str} {st : Stmt} {f : Addr} {fd : FuncData} {ps ks : List Str} {g : List Value → List Value} (F : Fun K x qual st f fd)
    (h : ∀ (kV doc pm : Value) (an : Option Addr) (cdv ct : Value) (ws : List Value), ws.length = ks.length → bindArgs (PySem.W.fnOf x qual (defArgs st) (defBody st) (defScope st) .none kV doc pm an cdv ct) ⟨[], ks.zip ws⟩ = pure (ps.zip (g ws))) : ∀ (s : Shared) (ws : List Value), ws.length = ks.length → BindsTo s fd ⟨[], ks.zip ws⟩ (ps.zip (g ws)) := by
  obtain ⟨oc, od, kV, doc, pm, an, cdv, ct, osl, rfl, lk, hcd⟩ := F.ex
  exact fun s ws hl => .of_eq (h kV doc pm an cdv ct ws hl)
theorem vals_id {vs : List V} {ws : List Value} (r : Vals vs ws) : Vals (id vs) (id ws) := r
theorem vals_rev2 : ∀ (vs : List V) (ws : List Value), vs.length = 2 → Vals vs ws → Vals vs.reverse ws.reverse
  | [_, _], _, _, .cons a (.cons b .nil) => .cons b (.cons a .nil)
theorem vals_rev : ∀ {vs : List V} {ws : List Value}, Vals vs ws → Vals vs.reverse ws.reverse
  | _, _, .nil => .nil
  | _, _, .cons a r => by
    rw [List.reverse_cons, List.reverse_cons]
    exact (vals_rev r).append (.cons a .nil)
theorem kb_cm {K : PySem.W.Frag} {x qual : Str} {st : Stmt} {f : Addr} {fd : FuncData} {ps ks : List Str} (F : Fun K x qual st f fd)
    (h : ∀ (kV doc pm : Value) (an : Option Addr) (cdv ct : Value) (u : Value) (ws : List Value), ws.length = ks.length → bindArgs (PySem.W.fnOf x qual (defArgs st) (defBody st) (defScope st) .none kV doc pm an cdv ct) ⟨[u], ks.zip ws⟩ = pure (ps.zip (u :: ws))) : ∀ (s : Shared) (u : Value) (ws : List Value), ws.length = ks.length → BindsTo s fd ⟨[u], ks.zip ws⟩ (ps.zip (u :: ws)) := by
  obtain ⟨oc, od, kV, doc, pm, an, cdv, ct, osl, rfl, lk, hcd⟩ := F.ex
  exact fun s u ws hl => .of_eq (h kV doc pm an cdv ct u ws hl)
theorem fund_mk {K : PySem.W.Frag} {x qual : Str} {st : Stmt} {f T : Addr} {dvs : List V} {its : List Value} {oc oT kV doc pm cdv ct : Value} {od an oD : Option Addr} {osl tsl : Array (Option Value)} {n : Nat} (hne : dvs ≠ []) (l : K.lookup f = some ⟨oc, od, .func (PySem.W.fnOf x qual (defArgs st) (defBody st) (defScope st) (.ref T) kV doc pm an cdv ct), osl⟩)
    (c : PySem.W.codeIn K cdv qual = true) (kp : PySem.W.keepIn K (.ref f) = true) (t : K.lookup T = some ⟨oT, oD, .seq its.toArray n, tsl⟩) (r : Vals dvs its) : FunD K x qual (defArgs st) (defBody st) (defScope st) dvs [] f (PySem.W.fnOf x qual (defArgs st) (defBody st) (defScope st) (.ref T) kV doc pm an cdv ct) :=
  ⟨⟨oc, od, .ref T, kV, doc, pm, an, cdv, ct, osl, rfl, l, c, .inr ⟨hne, T, _, its, n, rfl, t, rfl, r⟩, .inl rfl⟩, kp⟩

set_option maxHeartbeats 0 in
theorem all_mk {l : PySem.W.OpenLaw} {w : World} {K : PySem.W.Frag} {h : Heap} {mg : Str → Option Value} {fa : Addr} {CE fCE : Addr} {nmCE qCE : Str} {NCE : Addr} {bsCE bmCE : List Value} {snCE : List Str} {subCE : List Value} {abCE : Bool} {colCE : Option Bool} {ddCE : Option Addr} {m0CE m1CE m2CE m3CE m5CE : Option Value} {odCE anCE : Option Addr} {slCE : Array (Option Value)} {ocCE kVCE dcCE pmCE cdCE ctCE : Value} {CB fCB : Addr} {nmCB qCB : Str} {NCB : Addr} {bsCB bmCB : List Value} {snCB : List Str} {subCB : List Value} {abCB : Bool} {colCB : Option Bool} {ddCB : Option Addr} {m0CB m1CB m2CB m3CB m5CB : Option Value} {odCB anCB : Option Addr} {slCB : Array (Option Value)} {ocCB kVCB dcCB pmCB cdCB ctCB : Value} {cO : Addr} {cT : Addr} {cR : Addr} {C : Addr} {f0 : Addr} {od0 an0 : Option Addr} {sl0 : Array (Option Value)} {oc0 kV0 dc0 pm0 cd0 ct0 : Value} {T0 : Addr} {oT0 : Value} {oD0 : Option Addr} {nT0 : Nat} {tS0 : Array (Option Value)} {f1 : Addr} {od1 an1 : Option Addr} {sl1 : Array (Option Value)} {oc1 kV1 dc1 pm1 cd1 ct1 : Value} {f2 : Addr} {od2 an2 : Option Addr} {sl2 : Array (Option Value)} {oc2 kV2 dc2 pm2 cd2 ct2 : Value} {f3 : Addr} {od3 an3 : Option Addr} {sl3 : Array (Option Value)} {oc3 kV3 dc3 pm3 cd3 ct3 : Value} {f4 : Addr} {od4 an4 : Option Addr} {sl4 : Array (Option Value)} {oc4 kV4 dc4 pm4 cd4 ct4 : Value} {qp : Addr} {rst : List Value} {f5 : Addr} {od5 an5 : Option Addr} {sl5 : Array (Option Value)} {oc5 kV5 dc5 pm5 cd5 ct5 : Value} {f6 : Addr} {od6 an6 : Option Addr} {sl6 : Array (Option Value)} {oc6 kV6 dc6 pm6 cd6 ct6 : Value} {f7 : Addr} {od7 an7 : Option Addr} {sl7 : Array (Option Value)} {oc7 kV7 dc7 pm7 cd7 ct7 : Value} {f8 : Addr} {od8 an8 : Option Addr} {sl8 : Array (Option Value)} {oc8 kV8 dc8 pm8 cd8 ct8 : Value} {f9 : Addr} {od9 an9 : Option Addr} {sl9 : Array (Option Value)} {oc9 kV9 dc9 pm9 cd9 ct9 : Value} {f10 : Addr} {od10 an10 : Option Addr} {sl10 : Array (Option Value)} {oc10 kV10 dc10 pm10 cd10 ct10 : Value} {f11 : Addr} {od11 an11 : Option Addr} {sl11 : Array (Option Value)} {oc11 kV11 dc11 pm11 cd11 ct11 : Value} {f12 : Addr} {od12 an12 : Option Addr} {sl12 : Array (Option Value)} {oc12 kV12 dc12 pm12 cd12 ct12 : Value} {f13 : Addr} {od13 an13 : Option Addr} {sl13 : Array (Option Value)} {oc13 kV13 dc13 pm13 cd13 ct13 : Value} {f14 : Addr} {od14 an14 : Option Addr} {sl14 : Array (Option Value)} {oc14 kV14 dc14 pm14 cd14 ct14 : Value} {f15 : Addr} {od15 an15 : Option Addr} {sl15 : Array (Option Value)} {oc15 kV15 dc15 pm15 cd15 ct15 : Value} {f16 : Addr} {od16 an16 : Option Addr} {sl16 : Array (Option Value)} {oc16 kV16 dc16 pm16 cd16 ct16 : Value} {f17 : Addr} {od17 an17 : Option Addr} {sl17 : Array (Option Value)} {oc17 kV17 dc17 pm17 cd17 ct17 : Value} {f18 : Addr} {od18 an18 : Option Addr} {sl18 : Array (Option Value)} {oc18 kV18 dc18 pm18 cd18 ct18 : Value} {f19 : Addr} {od19 an19 : Option Addr} {sl19 : Array (Option Value)} {oc19 kV19 dc19 pm19 cd19 ct19 : Value} {f20 : Addr} {od20 an20 : Option Addr} {sl20 : Array (Option Value)} {oc20 kV20 dc20 pm20 cd20 ct20 : Value} {f21 : Addr} {od21 an21 : Option Addr} {sl21 : Array (Option Value)} {oc21 kV21 dc21 pm21 cd21 ct21 : Value} {f22 : Addr} {od22 an22 : Option Addr} {sl22 : Array (Option Value)} {oc22 kV22 dc22 pm22 cd22 ct22 : Value} {f23 : Addr} {od23 an23 : Option Addr} {sl23 : Array (Option Value)} {oc23 kV23 dc23 pm23 cd23 ct23 : Value} {f24 : Addr} {od24 an24 : Option Addr} {sl24 : Array (Option Value)} {oc24 kV24 dc24 pm24 cd24 ct24 : Value} {f25 : Addr} {od25 an25 : Option Addr} {sl25 : Array (Option Value)} {oc25 kV25 dc25 pm25 cd25 ct25 : Value} {f26 : Addr} {od26 an26 : Option Addr} {sl26 : Array (Option Value)} {oc26 kV26 dc26 pm26 cd26 ct26 : Value} {f27 : Addr} {od27 an27 : Option Addr} {sl27 : Array (Option Value)} {oc27 kV27 dc27 pm27 cd27 ct27 : Value} {f28 : Addr} {od28 an28 : Option Addr} {sl28 : Array (Option Value)} {oc28 kV28 dc28 pm28 cd28 ct28 : Value} {f29 : Addr} {od29 an29 : Option Addr} {sl29 : Array (Option Value)} {oc29 kV29 dc29 pm29 cd29 ct29 : Value} {f30 : Addr} {od30 an30 : Option Addr} {sl30 : Array (Option Value)} {oc30 kV30 dc30 pm30 cd30 ct30 : Value} {f31 : Addr} {od31 an31 : Option Addr} {sl31 : Array (Option Value)} {oc31 kV31 dc31 pm31 cd31 ct31 : Value} {f32 : Addr} {od32 an32 : Option Addr} {sl32 : Array (Option Value)} {oc32 kV32 dc32 pm32 cd32 ct32 : Value} {f33 : Addr} {od33 an33 : Option Addr} {sl33 : Array (Option Value)} {oc33 kV33 dc33 pm33 cd33 ct33 : Value} {f34 : Addr} {od34 an34 : Option Addr} {sl34 : Array (Option Value)} {oc34 kV34 dc34 pm34 cd34 ct34 : Value} {f35 : Addr} {od35 an35 : Option Addr} {sl35 : Array (Option Value)} {oc35 kV35 dc35 pm35 cd35 ct35 : Value} {f36 : Addr} {od36 an36 : Option Addr} {sl36 : Array (Option Value)} {oc36 kV36 dc36 pm36 cd36 ct36 : Value} {f37 : Addr} {od37 an37 : Option Addr} {sl37 : Array (Option Value)} {oc37 kV37 dc37 pm37 cd37 ct37 : Value}
    (X : K.In h) (G : h.Ns mainGlobals mg) (hfa : mg "law" = some (.ref fa))
    (gCE : PySem.W.nsIn K mainGlobals "BadNumber" = some (some (.ref CE)))
    (xCE : K.lookup CE = some (excClassObj nmCE qCE CE NCE bsCE bmCE true snCE subCE abCE colCE ddCE m0CE m1CE m2CE m3CE m5CE "ValueError.__new__"))
    (rCE : PySem.HandSPX.refsVE bmCE = true)
    (saCE : PySem.W.findIn K (.ref CE) "__setattr__" = some (some (.builtin "object.__setattr__")))
    (gaCE : PySem.W.findIn K (.ref CE) "__getattribute__" = some (some (.builtin "BaseException.__getattribute__")))
    (ggCE : PySem.W.findIn K (.ref CE) "__getattr__" = some none)
    (nfCEnumber : PySem.W.findIn K (.ref CE) "number" = some none)
    (kpCE : PySem.W.keepIn K (.ref CE) = true)
    (exCE : PySem.W.subIn K (.ref CE) (.type "BaseException") = some true)
    (tyCE : PySem.W.typeIn K (.ref CE) = some (.type "type"))
    (hdCE : PySem.W.hasDictIn K CE = true)
    (haCE : PySem.W.findIn K (.ref CE) "__class__" = some (some (.builtin "object.__class__")))
    (hnCE : PySem.W.specialIn K (.builtin "object.__class__") "__get__" = some (some (.builtin "getset_descriptor.__get__")))
    (htCE : PySem.W.takesIn K (.builtin "object.__class__") = some true)
    (hmCE : PySem.W.mroIn K CE (.type "object") = some true)
    (suCE : PySem.W.subIn K (.ref CE) (.ref CE) = some true)
    (iCE : PySem.W.findIn K (.ref CE) "__init__" = some (some (.ref fCE)))
    (tiCE : PySem.W.typeIn K (.ref fCE) = some (.type "function"))
    (lCE : K.lookup fCE = some ⟨ocCE, odCE, .func (PySem.W.fnOf "__init__" "BadNumber.__init__" (defArgs sBadNumber___init__) (defBody sBadNumber___init__) (defScope sBadNumber___init__) .none kVCE dcCE pmCE anCE cdCE ctCE), slCE⟩)
    (cCE : PySem.W.codeIn K cdCE "BadNumber.__init__" = true)
    (kCE : PySem.W.keepIn K (.ref fCE) = true)
    (gCB : PySem.W.nsIn K mainGlobals "BadSpan" = some (some (.ref CB)))
    (xCB : K.lookup CB = some (excClassObj nmCB qCB CB NCB bsCB bmCB true snCB subCB abCB colCB ddCB m0CB m1CB m2CB m3CB m5CB "ValueError.__new__"))
    (rCB : PySem.HandSPX.refsVE bmCB = true)
    (saCB : PySem.W.findIn K (.ref CB) "__setattr__" = some (some (.builtin "object.__setattr__")))
    (gaCB : PySem.W.findIn K (.ref CB) "__getattribute__" = some (some (.builtin "BaseException.__getattribute__")))
    (ggCB : PySem.W.findIn K (.ref CB) "__getattr__" = some none)
    (nfCBlow : PySem.W.findIn K (.ref CB) "low" = some none)
    (nfCBhigh : PySem.W.findIn K (.ref CB) "high" = some none)
    (kpCB : PySem.W.keepIn K (.ref CB) = true)
    (exCB : PySem.W.subIn K (.ref CB) (.type "BaseException") = some true)
    (tyCB : PySem.W.typeIn K (.ref CB) = some (.type "type"))
    (hdCB : PySem.W.hasDictIn K CB = true)
    (haCB : PySem.W.findIn K (.ref CB) "__class__" = some (some (.builtin "object.__class__")))
    (hnCB : PySem.W.specialIn K (.builtin "object.__class__") "__get__" = some (some (.builtin "getset_descriptor.__get__")))
    (htCB : PySem.W.takesIn K (.builtin "object.__class__") = some true)
    (hmCB : PySem.W.mroIn K CB (.type "object") = some true)
    (suCB : PySem.W.subIn K (.ref CB) (.ref CB) = some true)
    (iCB : PySem.W.findIn K (.ref CB) "__init__" = some (some (.ref fCB)))
    (tiCB : PySem.W.typeIn K (.ref fCB) = some (.type "function"))
    (lCB : K.lookup fCB = some ⟨ocCB, odCB, .func (PySem.W.fnOf "__init__" "BadSpan.__init__" (defArgs sBadSpan___init__) (defBody sBadSpan___init__) (defScope sBadSpan___init__) .none kVCB dcCB pmCB anCB cdCB ctCB), slCB⟩)
    (cCB : PySem.W.codeIn K cdCB "BadSpan.__init__" = true)
    (kCB : PySem.W.keepIn K (.ref fCB) = true)
    (gcO : PySem.W.nsIn K mainGlobals "OutshinerError" = some (some (.ref cO)))
    (gcT : PySem.W.nsIn K mainGlobals "BadText" = some (some (.ref cT)))
    (gcR : PySem.W.nsIn K mainGlobals "OutOfRange" = some (some (.ref cR)))
    (gC : PySem.W.nsIn K mainGlobals "Span" = some (some (.ref C)))
    (eO : PySem.W.kitOne K (.ref CE) (.ref cO) = some true)
    (eB : PySem.W.kitOne K (.ref CE) (.ref CB) = some false)
    (eT : PySem.W.kitOne K (.ref CE) (.ref cT) = some false)
    (eR : PySem.W.kitOne K (.ref CE) (.ref cR) = some false)
    (bO : PySem.W.kitOne K (.ref CB) (.ref cO) = some true)
    (bE : PySem.W.kitOne K (.ref CB) (.ref CE) = some false)
    (bT : PySem.W.kitOne K (.ref CB) (.ref cT) = some false)
    (bR : PySem.W.kitOne K (.ref CB) (.ref cR) = some false)
    (ne : PySem.W.subIn K (.ref CB) (.ref CE) = some false)
    (pgC : PySem.W.plainGet K C Str.empty = true)
    (hdC : PySem.W.hasDictIn K C = true)
    (poC : PySem.W.plainOver K C = true)
    (saC : PySem.W.findIn K (.ref C) "__setattr__" = some (some (.builtin "object.__setattr__")))
    (nlC : PySem.W.findIn K (.ref C) "low" = some none)
    (nhC : PySem.W.findIn K (.ref C) "high" = some none)
    (haC : PySem.W.findIn K (.ref C) "__class__" = some (some (.builtin "object.__class__")))
    (hmC : PySem.W.mroIn K C (.type "object") = some true)
    (kC : PySem.W.kitOne K (.ref C) (.ref C) = some true)
    (kint : PySem.W.kitOne K (.type "int") (.ref C) = some false)
    (kstr : PySem.W.kitOne K (.type "str") (.ref C) = some false)
    (ktuple : PySem.W.kitOne K (.type "tuple") (.ref C) = some false)
    (kNoneType : PySem.W.kitOne K (.type "NoneType") (.ref C) = some false)
    (sfC : PySem.W.selfFirst K C = true)
    (mkC : PySem.W.makesIn K C = true)
    (kpC : PySem.W.keepIn K (.ref C) = true)
    (iC : PySem.W.findIn K (.ref C) "__init__" = some (some (.ref f0)))
    (l0 : K.lookup f0 = some ⟨oc0, od0, .func (PySem.W.fnOf "__init__" "Span.__init__" (defArgs sSpan___init__) (defBody sSpan___init__) (defScope sSpan___init__) (.ref T0) kV0 dc0 pm0 an0 cd0 ct0), sl0⟩)
    (c0 : PySem.W.codeIn K cd0 "Span.__init__" = true)
    (k0 : PySem.W.keepIn K (.ref f0) = true)
    (t0 : K.lookup T0 = some ⟨oT0, oD0, .seq ([.none, .none] : List Value).toArray nT0, tS0⟩)
    (fnI : PySem.W.isFn K (.ref f0) = true)
    (m_contains : PySem.W.findIn K (.ref C) "__contains__" = some (some (.ref f1)))
    (l1 : K.lookup f1 = some ⟨oc1, od1, .func (PySem.W.fnOf "__contains__" "Span.__contains__" (defArgs sSpan___contains__) (defBody sSpan___contains__) (defScope sSpan___contains__) .none kV1 dc1 pm1 an1 cd1 ct1), sl1⟩)
    (c1 : PySem.W.codeIn K cd1 "Span.__contains__" = true)
    (k1 : PySem.W.keepIn K (.ref f1) = true)
    (fn_contains : PySem.W.isFn K (.ref f1) = true)
    (m_and : PySem.W.findIn K (.ref C) "__and__" = some (some (.ref f2)))
    (l2 : K.lookup f2 = some ⟨oc2, od2, .func (PySem.W.fnOf "__and__" "Span.__and__" (defArgs sSpan___and__) (defBody sSpan___and__) (defScope sSpan___and__) .none kV2 dc2 pm2 an2 cd2 ct2), sl2⟩)
    (c2 : PySem.W.codeIn K cd2 "Span.__and__" = true)
    (k2 : PySem.W.keepIn K (.ref f2) = true)
    (fn_and : PySem.W.isFn K (.ref f2) = true)
    (m_eq : PySem.W.findIn K (.ref C) "__eq__" = some (some (.ref f3)))
    (l3 : K.lookup f3 = some ⟨oc3, od3, .func (PySem.W.fnOf "__eq__" "Span.__eq__" (defArgs sSpan___eq__) (defBody sSpan___eq__) (defScope sSpan___eq__) .none kV3 dc3 pm3 an3 cd3 ct3), sl3⟩)
    (c3 : PySem.W.codeIn K cd3 "Span.__eq__" = true)
    (k3 : PySem.W.keepIn K (.ref f3) = true)
    (fn_eq : PySem.W.isFn K (.ref f3) = true)
    (p_find : PySem.W.findCls K (.ref C) (.type "type") "point" = some (.get (.builtin "classmethod.__get__") (.ref qp) .none (.ref C)))
    (p_rec : PySem.W.recIn K qp "classmethod" = some (.ref f4 :: rst))
    (l4 : K.lookup f4 = some ⟨oc4, od4, .func (PySem.W.fnOf "point" "Span.point" (defArgs sSpan_point) (defBody sSpan_point) (defScope sSpan_point) .none kV4 dc4 pm4 an4 cd4 ct4), sl4⟩)
    (c4 : PySem.W.codeIn K cd4 "Span.point" = true)
    (k4 : PySem.W.keepIn K (.ref f4) = true)
    (p_fn : PySem.W.fnIn K f4 = true)
    (p_rd : PySem.W.readsIn K C (.type "type") = true)
    (p_ga : PySem.W.specialIn K (.ref C) "__getattribute__" = some (some (.builtin "type.__getattribute__")))
    (a5 : PySem.W.nsIn K mainGlobals "is_number" = some (some (.ref f5)))
    (l5 : K.lookup f5 = some ⟨oc5, od5, .func (PySem.W.fnOf "is_number" "is_number" (defArgs sis_number) (defBody sis_number) (defScope sis_number) .none kV5 dc5 pm5 an5 cd5 ct5), sl5⟩)
    (c5 : PySem.W.codeIn K cd5 "is_number" = true)
    (k5 : PySem.W.keepIn K (.ref f5) = true)
    (a6 : PySem.W.nsIn K mainGlobals "check_number" = some (some (.ref f6)))
    (l6 : K.lookup f6 = some ⟨oc6, od6, .func (PySem.W.fnOf "check_number" "check_number" (defArgs scheck_number) (defBody scheck_number) (defScope scheck_number) .none kV6 dc6 pm6 an6 cd6 ct6), sl6⟩)
    (c6 : PySem.W.codeIn K cd6 "check_number" = true)
    (k6 : PySem.W.keepIn K (.ref f6) = true)
    (a7 : PySem.W.nsIn K mainGlobals "check_open_number" = some (some (.ref f7)))
    (l7 : K.lookup f7 = some ⟨oc7, od7, .func (PySem.W.fnOf "check_open_number" "check_open_number" (defArgs scheck_open_number) (defBody scheck_open_number) (defScope scheck_open_number) .none kV7 dc7 pm7 an7 cd7 ct7), sl7⟩)
    (c7 : PySem.W.codeIn K cd7 "check_open_number" = true)
    (k7 : PySem.W.keepIn K (.ref f7) = true)
    (a8 : PySem.W.nsIn K mainGlobals "are_crossed" = some (some (.ref f8)))
    (l8 : K.lookup f8 = some ⟨oc8, od8, .func (PySem.W.fnOf "are_crossed" "are_crossed" (defArgs sare_crossed) (defBody sare_crossed) (defScope sare_crossed) .none kV8 dc8 pm8 an8 cd8 ct8), sl8⟩)
    (c8 : PySem.W.codeIn K cd8 "are_crossed" = true)
    (k8 : PySem.W.keepIn K (.ref f8) = true)
    (a9 : PySem.W.nsIn K mainGlobals "check_low_high" = some (some (.ref f9)))
    (l9 : K.lookup f9 = some ⟨oc9, od9, .func (PySem.W.fnOf "check_low_high" "check_low_high" (defArgs scheck_low_high) (defBody scheck_low_high) (defScope scheck_low_high) .none kV9 dc9 pm9 an9 cd9 ct9), sl9⟩)
    (c9 : PySem.W.codeIn K cd9 "check_low_high" = true)
    (k9 : PySem.W.keepIn K (.ref f9) = true)
    (a10 : PySem.W.nsIn K mainGlobals "told_ends" = some (some (.ref f10)))
    (l10 : K.lookup f10 = some ⟨oc10, od10, .func (PySem.W.fnOf "told_ends" "told_ends" (defArgs stold_ends) (defBody stold_ends) (defScope stold_ends) .none kV10 dc10 pm10 an10 cd10 ct10), sl10⟩)
    (c10 : PySem.W.codeIn K cd10 "told_ends" = true)
    (k10 : PySem.W.keepIn K (.ref f10) = true)
    (a11 : PySem.W.nsIn K mainGlobals "lesser_end" = some (some (.ref f11)))
    (l11 : K.lookup f11 = some ⟨oc11, od11, .func (PySem.W.fnOf "lesser_end" "lesser_end" (defArgs slesser_end) (defBody slesser_end) (defScope slesser_end) .none kV11 dc11 pm11 an11 cd11 ct11), sl11⟩)
    (c11 : PySem.W.codeIn K cd11 "lesser_end" = true)
    (k11 : PySem.W.keepIn K (.ref f11) = true)
    (a12 : PySem.W.nsIn K mainGlobals "greater_end" = some (some (.ref f12)))
    (l12 : K.lookup f12 = some ⟨oc12, od12, .func (PySem.W.fnOf "greater_end" "greater_end" (defArgs sgreater_end) (defBody sgreater_end) (defScope sgreater_end) .none kV12 dc12 pm12 an12 cd12 ct12), sl12⟩)
    (c12 : PySem.W.codeIn K cd12 "greater_end" = true)
    (k12 : PySem.W.keepIn K (.ref f12) = true)
    (a13 : PySem.W.nsIn K mainGlobals "_law_store" = some (some (.ref f13)))
    (l13 : K.lookup f13 = some ⟨oc13, od13, .func (PySem.W.fnOf "_law_store" "_law_store" (defArgs s_law_store) (defBody s_law_store) (defScope s_law_store) .none kV13 dc13 pm13 an13 cd13 ct13), sl13⟩)
    (c13 : PySem.W.codeIn K cd13 "_law_store" = true)
    (k13 : PySem.W.keepIn K (.ref f13) = true)
    (a14 : PySem.W.nsIn K mainGlobals "_law_stir" = some (some (.ref f14)))
    (l14 : K.lookup f14 = some ⟨oc14, od14, .func (PySem.W.fnOf "_law_stir" "_law_stir" (defArgs s_law_stir) (defBody s_law_stir) (defScope s_law_stir) .none kV14 dc14 pm14 an14 cd14 ct14), sl14⟩)
    (c14 : PySem.W.codeIn K cd14 "_law_stir" = true)
    (k14 : PySem.W.keepIn K (.ref f14) = true)
    (a15 : PySem.W.nsIn K mainGlobals "_law_take" = some (some (.ref f15)))
    (l15 : K.lookup f15 = some ⟨oc15, od15, .func (PySem.W.fnOf "_law_take" "_law_take" (defArgs s_law_take) (defBody s_law_take) (defScope s_law_take) .none kV15 dc15 pm15 an15 cd15 ct15), sl15⟩)
    (c15 : PySem.W.codeIn K cd15 "_law_take" = true)
    (k15 : PySem.W.keepIn K (.ref f15) = true)
    (a16 : PySem.W.nsIn K mainGlobals "_law_pick" = some (some (.ref f16)))
    (l16 : K.lookup f16 = some ⟨oc16, od16, .func (PySem.W.fnOf "_law_pick" "_law_pick" (defArgs s_law_pick) (defBody s_law_pick) (defScope s_law_pick) .none kV16 dc16 pm16 an16 cd16 ct16), sl16⟩)
    (c16 : PySem.W.codeIn K cd16 "_law_pick" = true)
    (k16 : PySem.W.keepIn K (.ref f16) = true)
    (a17 : PySem.W.nsIn K mainGlobals "_law_shuffled" = some (some (.ref f17)))
    (l17 : K.lookup f17 = some ⟨oc17, od17, .func (PySem.W.fnOf "_law_shuffled" "_law_shuffled" (defArgs s_law_shuffled) (defBody s_law_shuffled) (defScope s_law_shuffled) .none kV17 dc17 pm17 an17 cd17 ct17), sl17⟩)
    (c17 : PySem.W.codeIn K cd17 "_law_shuffled" = true)
    (k17 : PySem.W.keepIn K (.ref f17) = true)
    (a18 : PySem.W.nsIn K mainGlobals "_law_unlike" = some (some (.ref f18)))
    (l18 : K.lookup f18 = some ⟨oc18, od18, .func (PySem.W.fnOf "_law_unlike" "_law_unlike" (defArgs s_law_unlike) (defBody s_law_unlike) (defScope s_law_unlike) .none kV18 dc18 pm18 an18 cd18 ct18), sl18⟩)
    (c18 : PySem.W.codeIn K cd18 "_law_unlike" = true)
    (k18 : PySem.W.keepIn K (.ref f18) = true)
    (a19 : PySem.W.nsIn K mainGlobals "_law_number" = some (some (.ref f19)))
    (l19 : K.lookup f19 = some ⟨oc19, od19, .func (PySem.W.fnOf "_law_number" "_law_number" (defArgs s_law_number) (defBody s_law_number) (defScope s_law_number) .none kV19 dc19 pm19 an19 cd19 ct19), sl19⟩)
    (c19 : PySem.W.codeIn K cd19 "_law_number" = true)
    (k19 : PySem.W.keepIn K (.ref f19) = true)
    (a20 : PySem.W.nsIn K mainGlobals "_law_clamped" = some (some (.ref f20)))
    (l20 : K.lookup f20 = some ⟨oc20, od20, .func (PySem.W.fnOf "_law_clamped" "_law_clamped" (defArgs s_law_clamped) (defBody s_law_clamped) (defScope s_law_clamped) .none kV20 dc20 pm20 an20 cd20 ct20), sl20⟩)
    (c20 : PySem.W.codeIn K cd20 "_law_clamped" = true)
    (k20 : PySem.W.keepIn K (.ref f20) = true)
    (a21 : PySem.W.nsIn K mainGlobals "_law_pool" = some (some (.ref f21)))
    (l21 : K.lookup f21 = some ⟨oc21, od21, .func (PySem.W.fnOf "_law_pool" "_law_pool" (defArgs s_law_pool) (defBody s_law_pool) (defScope s_law_pool) .none kV21 dc21 pm21 an21 cd21 ct21), sl21⟩)
    (c21 : PySem.W.codeIn K cd21 "_law_pool" = true)
    (k21 : PySem.W.keepIn K (.ref f21) = true)
    (a22 : PySem.W.nsIn K mainGlobals "_law_near" = some (some (.ref f22)))
    (l22 : K.lookup f22 = some ⟨oc22, od22, .func (PySem.W.fnOf "_law_near" "_law_near" (defArgs s_law_near) (defBody s_law_near) (defScope s_law_near) .none kV22 dc22 pm22 an22 cd22 ct22), sl22⟩)
    (c22 : PySem.W.codeIn K cd22 "_law_near" = true)
    (k22 : PySem.W.keepIn K (.ref f22) = true)
    (a23 : PySem.W.nsIn K mainGlobals "_law_bad_number" = some (some (.ref f23)))
    (l23 : K.lookup f23 = some ⟨oc23, od23, .func (PySem.W.fnOf "_law_bad_number" "_law_bad_number" (defArgs s_law_bad_number) (defBody s_law_bad_number) (defScope s_law_bad_number) .none kV23 dc23 pm23 an23 cd23 ct23), sl23⟩)
    (c23 : PySem.W.codeIn K cd23 "_law_bad_number" = true)
    (k23 : PySem.W.keepIn K (.ref f23) = true)
    (a24 : PySem.W.nsIn K mainGlobals "_law_ends" = some (some (.ref f24)))
    (l24 : K.lookup f24 = some ⟨oc24, od24, .func (PySem.W.fnOf "_law_ends" "_law_ends" (defArgs s_law_ends) (defBody s_law_ends) (defScope s_law_ends) .none kV24 dc24 pm24 an24 cd24 ct24), sl24⟩)
    (c24 : PySem.W.codeIn K cd24 "_law_ends" = true)
    (k24 : PySem.W.keepIn K (.ref f24) = true)
    (a25 : PySem.W.nsIn K mainGlobals "_law_is_number" = some (some (.ref f25)))
    (l25 : K.lookup f25 = some ⟨oc25, od25, .func (PySem.W.fnOf "_law_is_number" "_law_is_number" (defArgs s_law_is_number) (defBody s_law_is_number) (defScope s_law_is_number) .none kV25 dc25 pm25 an25 cd25 ct25), sl25⟩)
    (c25 : PySem.W.codeIn K cd25 "_law_is_number" = true)
    (k25 : PySem.W.keepIn K (.ref f25) = true)
    (a26 : PySem.W.nsIn K mainGlobals "_law_match" = some (some (.ref f26)))
    (l26 : K.lookup f26 = some ⟨oc26, od26, .func (PySem.W.fnOf "_law_match" "_law_match" (defArgs s_law_match) (defBody s_law_match) (defScope s_law_match) .none kV26 dc26 pm26 an26 cd26 ct26), sl26⟩)
    (c26 : PySem.W.codeIn K cd26 "_law_match" = true)
    (k26 : PySem.W.keepIn K (.ref f26) = true)
    (a27 : PySem.W.nsIn K mainGlobals "_law_same" = some (some (.ref f27)))
    (l27 : K.lookup f27 = some ⟨oc27, od27, .func (PySem.W.fnOf "_law_same" "_law_same" (defArgs s_law_same) (defBody s_law_same) (defScope s_law_same) .none kV27 dc27 pm27 an27 cd27 ct27), sl27⟩)
    (c27 : PySem.W.codeIn K cd27 "_law_same" = true)
    (k27 : PySem.W.keepIn K (.ref f27) = true)
    (a28 : PySem.W.nsIn K mainGlobals "_law_tried" = some (some (.ref f28)))
    (l28 : K.lookup f28 = some ⟨oc28, od28, .func (PySem.W.fnOf "_law_tried" "_law_tried" (defArgs s_law_tried) (defBody s_law_tried) (defScope s_law_tried) .none kV28 dc28 pm28 an28 cd28 ct28), sl28⟩)
    (c28 : PySem.W.codeIn K cd28 "_law_tried" = true)
    (k28 : PySem.W.keepIn K (.ref f28) = true)
    (a29 : PySem.W.nsIn K mainGlobals "_law_made" = some (some (.ref f29)))
    (l29 : K.lookup f29 = some ⟨oc29, od29, .func (PySem.W.fnOf "_law_made" "_law_made" (defArgs s_law_made) (defBody s_law_made) (defScope s_law_made) .none kV29 dc29 pm29 an29 cd29 ct29), sl29⟩)
    (c29 : PySem.W.codeIn K cd29 "_law_made" = true)
    (k29 : PySem.W.keepIn K (.ref f29) = true)
    (a30 : PySem.W.nsIn K mainGlobals "_law_is_span" = some (some (.ref f30)))
    (l30 : K.lookup f30 = some ⟨oc30, od30, .func (PySem.W.fnOf "_law_is_span" "_law_is_span" (defArgs s_law_is_span) (defBody s_law_is_span) (defScope s_law_is_span) .none kV30 dc30 pm30 an30 cd30 ct30), sl30⟩)
    (c30 : PySem.W.codeIn K cd30 "_law_is_span" = true)
    (k30 : PySem.W.keepIn K (.ref f30) = true)
    (a31 : PySem.W.nsIn K mainGlobals "_law_held" = some (some (.ref f31)))
    (l31 : K.lookup f31 = some ⟨oc31, od31, .func (PySem.W.fnOf "_law_held" "_law_held" (defArgs s_law_held) (defBody s_law_held) (defScope s_law_held) .none kV31 dc31 pm31 an31 cd31 ct31), sl31⟩)
    (c31 : PySem.W.codeIn K cd31 "_law_held" = true)
    (k31 : PySem.W.keepIn K (.ref f31) = true)
    (a32 : PySem.W.nsIn K mainGlobals "_law_is_meet" = some (some (.ref f32)))
    (l32 : K.lookup f32 = some ⟨oc32, od32, .func (PySem.W.fnOf "_law_is_meet" "_law_is_meet" (defArgs s_law_is_meet) (defBody s_law_is_meet) (defScope s_law_is_meet) .none kV32 dc32 pm32 an32 cd32 ct32), sl32⟩)
    (c32 : PySem.W.codeIn K cd32 "_law_is_meet" = true)
    (k32 : PySem.W.keepIn K (.ref f32) = true)
    (a33 : PySem.W.nsIn K mainGlobals "_law_end" = some (some (.ref f33)))
    (l33 : K.lookup f33 = some ⟨oc33, od33, .func (PySem.W.fnOf "_law_end" "_law_end" (defArgs s_law_end) (defBody s_law_end) (defScope s_law_end) .none kV33 dc33 pm33 an33 cd33 ct33), sl33⟩)
    (c33 : PySem.W.codeIn K cd33 "_law_end" = true)
    (k33 : PySem.W.keepIn K (.ref f33) = true)
    (a34 : PySem.W.nsIn K mainGlobals "_law_span_due" = some (some (.ref f34)))
    (l34 : K.lookup f34 = some ⟨oc34, od34, .func (PySem.W.fnOf "_law_span_due" "_law_span_due" (defArgs s_law_span_due) (defBody s_law_span_due) (defScope s_law_span_due) .none kV34 dc34 pm34 an34 cd34 ct34), sl34⟩)
    (c34 : PySem.W.codeIn K cd34 "_law_span_due" = true)
    (k34 : PySem.W.keepIn K (.ref f34) = true)
    (a35 : PySem.W.nsIn K mainGlobals "_law_span_asked" = some (some (.ref f35)))
    (l35 : K.lookup f35 = some ⟨oc35, od35, .func (PySem.W.fnOf "_law_span_asked" "_law_span_asked" (defArgs s_law_span_asked) (defBody s_law_span_asked) (defScope s_law_span_asked) .none kV35 dc35 pm35 an35 cd35 ct35), sl35⟩)
    (c35 : PySem.W.codeIn K cd35 "_law_span_asked" = true)
    (k35 : PySem.W.keepIn K (.ref f35) = true)
    (a36 : PySem.W.nsIn K mainGlobals "_law_point_asked" = some (some (.ref f36)))
    (l36 : K.lookup f36 = some ⟨oc36, od36, .func (PySem.W.fnOf "_law_point_asked" "_law_point_asked" (defArgs s_law_point_asked) (defBody s_law_point_asked) (defScope s_law_point_asked) .none kV36 dc36 pm36 an36 cd36 ct36), sl36⟩)
    (c36 : PySem.W.codeIn K cd36 "_law_point_asked" = true)
    (k36 : PySem.W.keepIn K (.ref f36) = true)
    (a37 : PySem.W.nsIn K mainGlobals "law" = some (some (.ref f37)))
    (l37 : K.lookup f37 = some ⟨oc37, od37, .func (PySem.W.fnOf "law" "law" (defArgs slaw) (defBody slaw) (defScope slaw) .none kV37 dc37 pm37 an37 cd37 ct37), sl37⟩)
    (c37 : PySem.W.codeIn K cd37 "law" = true)
    (k37 : PySem.W.keepIn K (.ref f37) = true)
    (z_len : PySem.W.nsIn K mainGlobals "len" = some none)
    (z_int : PySem.W.nsIn K mainGlobals "int" = some none)
    (z_max : PySem.W.nsIn K mainGlobals "max" = some none)
    (z_min : PySem.W.nsIn K mainGlobals "min" = some none)
    (z_range : PySem.W.nsIn K mainGlobals "range" = some none)
    (z_list : PySem.W.nsIn K mainGlobals "list" = some none)
    (z_tuple : PySem.W.nsIn K mainGlobals "tuple" = some none)
    (z_bool : PySem.W.nsIn K mainGlobals "bool" = some none)
    (z_sorted : PySem.W.nsIn K mainGlobals "sorted" = some none)
    (z_isinstance : PySem.W.nsIn K mainGlobals "isinstance" = some none)
    (z_str : PySem.W.nsIn K mainGlobals "str" = some none)
    (z_dict : PySem.W.nsIn K mainGlobals "dict" = some none)
    (z_ValueError : PySem.W.nsIn K mainGlobals "ValueError" = some none)
    (zc_LIMIT : ∃ t, PySem.W.nsIn K mainGlobals "LIMIT" = some (some (.int 1000000000000 t)))
    : ∃ fd : FuncData, (∀ (s : Shared) (v : Value), BindsTo s fd ⟨[v], []⟩ [("script", v)]) ∧ ∀ base : Heap, K.In base → base.Ns mainGlobals mg → FnOk l.prog w K mg base CX0 9 fa fd ["script"] (spLaw K) := by
  have e := hfa.symm.trans (PySem.W.mg_of X G a37)
  cases e
  have T : Blt mg := { len := PySem.W.mg_none_of X G z_len, int := PySem.W.mg_none_of X G z_int, max := PySem.W.mg_none_of X G z_max, min := PySem.W.mg_none_of X G z_min, range := PySem.W.mg_none_of X G z_range, list' := PySem.W.mg_none_of X G z_list, tuple := PySem.W.mg_none_of X G z_tuple, bool := PySem.W.mg_none_of X G z_bool, sorted := PySem.W.mg_none_of X G z_sorted, isinstance := PySem.W.mg_none_of X G z_isinstance, str := PySem.W.mg_none_of X G z_str, dict := PySem.W.mg_none_of X G z_dict, ValueError := PySem.W.mg_none_of X G z_ValueError, g_LIMIT := by obtain ⟨t, e⟩ := zc_LIMIT; exact ⟨t, PySem.W.mg_of X G e⟩ }
  have oxCE : OexC K CE := ⟨⟨nmCE, qCE, NCE, bsCE, bmCE, snCE, subCE, abCE, colCE, ddCE, m0CE, m1CE, m2CE, m3CE, m5CE, xCE, rCE⟩, saCE, exCE, tyCE, kpCE⟩
  have E_BadNumber : ErrC K mg "BadNumber" CE := ⟨PySem.W.mg_of X G gCE, oxCE, ⟨gaCE, ggCE, exCE, hdCE⟩, ⟨gaCE, ggCE, exCE, hdCE, haCE, hnCE, htCE, hmCE⟩, PySem.W.exm_ref exCE hdCE tyCE suCE⟩
  have FICE := fun_mk (st := sBadNumber___init__) lCE cCE kCE
  have bICE := FICE.binds (ps := ["self", "number"]) fun _ _ _ _ _ _ us hl => match us, hl with | [_, _], _ => rfl
  have N_BadNumber_number := nfCEnumber
  have oxCB : OexC K CB := ⟨⟨nmCB, qCB, NCB, bsCB, bmCB, snCB, subCB, abCB, colCB, ddCB, m0CB, m1CB, m2CB, m3CB, m5CB, xCB, rCB⟩, saCB, exCB, tyCB, kpCB⟩
  have E_BadSpan : ErrC K mg "BadSpan" CB := ⟨PySem.W.mg_of X G gCB, oxCB, ⟨gaCB, ggCB, exCB, hdCB⟩, ⟨gaCB, ggCB, exCB, hdCB, haCB, hnCB, htCB, hmCB⟩, PySem.W.exm_ref exCB hdCB tyCB suCB⟩
  have FICB := fun_mk (st := sBadSpan___init__) lCB cCB kCB
  have bICB := FICB.binds (ps := ["self", "low", "high"]) fun _ _ _ _ _ _ us hl => match us, hl with | [_, _, _], _ => rfl
  have N_BadSpan_low := nfCBlow
  have N_BadSpan_high := nfCBhigh
  have G_OutshinerError := PySem.W.mg_of X G gcO
  have G_BadText := PySem.W.mg_of X G gcT
  have G_OutOfRange := PySem.W.mg_of X G gcR
  have G_Span := PySem.W.mg_of X G gC
  have TE : Errs K mg CE CB cO cT cR := ⟨G_OutshinerError, PySem.W.mg_of X G gCE, PySem.W.mg_of X G gCB, G_BadText, G_OutOfRange, eO, eB, eT, eR, bO, bE, bT, bR, PySem.W.exm_ref exCE hdCE tyCE ne⟩
  have cl : Cls K C := ⟨pgC, hdC, poC, saC⟩
  have S : SpC K C := ⟨cl, nlC, nhC⟩
  have SI : SpI K C := ⟨cl, haC, hnCE, htCE, hmC, kC, kint, kstr, ktuple, kNoneType⟩
  have FD := fund_mk (st := sSpan___init__) (dvs := [.non, .non]) (by simp) l0 c0 k0 t0 (.cons rfl (.cons rfl .nil))
  have MK : Mk K C f0 := ⟨mkC, iC, fnI, kpC⟩
  have F1 := fun_mk (st := sSpan___contains__) l1 c1 k1
  have b1 := F1.binds (ps := ["self", "light"]) fun _ _ _ _ _ _ us hl => match us, hl with | [_, _], _ => rfl
  have F2 := fun_mk (st := sSpan___and__) l2 c2 k2
  have b2 := F2.binds (ps := ["self", "other"]) fun _ _ _ _ _ _ us hl => match us, hl with | [_, _], _ => rfl
  have F3 := fun_mk (st := sSpan___eq__) l3 c3 k3
  have b3 := F3.binds (ps := ["self", "other"]) fun _ _ _ _ _ _ us hl => match us, hl with | [_, _], _ => rfl
  have F4 := fun_mk (st := sSpan_point) l4 c4 k4
  have b4 := F4.binds (ps := ["cls", "number"]) fun _ _ _ _ _ _ us hl => match us, hl with | [_, _], _ => rfl
  have F5 := fun_mk (st := sis_number) l5 c5 k5
  have b5 := F5.binds (ps := ["value"]) fun _ _ _ _ _ _ us hl => match us, hl with | [_], _ => rfl
  have F6 := fun_mk (st := scheck_number) l6 c6 k6
  have b6 := F6.binds (ps := ["value"]) fun _ _ _ _ _ _ us hl => match us, hl with | [_], _ => rfl
  have F7 := fun_mk (st := scheck_open_number) l7 c7 k7
  have b7 := F7.binds (ps := ["value"]) fun _ _ _ _ _ _ us hl => match us, hl with | [_], _ => rfl
  have F8 := fun_mk (st := sare_crossed) l8 c8 k8
  have b8 := F8.binds (ps := ["low", "high"]) fun _ _ _ _ _ _ us hl => match us, hl with | [_, _], _ => rfl
  have F9 := fun_mk (st := scheck_low_high) l9 c9 k9
  have b9 := F9.binds (ps := ["low", "high"]) fun _ _ _ _ _ _ us hl => match us, hl with | [_, _], _ => rfl
  have F10 := fun_mk (st := stold_ends) l10 c10 k10
  have b10 := F10.binds (ps := ["first", "second"]) fun _ _ _ _ _ _ us hl => match us, hl with | [_, _], _ => rfl
  have F11 := fun_mk (st := slesser_end) l11 c11 k11
  have b11 := F11.binds (ps := ["first", "second"]) fun _ _ _ _ _ _ us hl => match us, hl with | [_, _], _ => rfl
  have F12 := fun_mk (st := sgreater_end) l12 c12 k12
  have b12 := F12.binds (ps := ["first", "second"]) fun _ _ _ _ _ _ us hl => match us, hl with | [_, _], _ => rfl
  have F13 := fun_mk (st := s_law_store) l13 c13 k13
  have b13 := F13.binds (ps := ["script"]) fun _ _ _ _ _ _ us hl => match us, hl with | [_], _ => rfl
  have F14 := fun_mk (st := s_law_stir) l14 c14 k14
  have b14 := F14.binds (ps := ["store", "cell"]) fun _ _ _ _ _ _ us hl => match us, hl with | [_, _], _ => rfl
  have F15 := fun_mk (st := s_law_take) l15 c15 k15
  have b15 := F15.binds (ps := ["store", "many"]) fun _ _ _ _ _ _ us hl => match us, hl with | [_, _], _ => rfl
  have F16 := fun_mk (st := s_law_pick) l16 c16 k16
  have b16 := F16.binds (ps := ["store", "items"]) fun _ _ _ _ _ _ us hl => match us, hl with | [_, _], _ => rfl
  have F17 := fun_mk (st := s_law_shuffled) l17 c17 k17
  have b17 := F17.binds (ps := ["store", "items"]) fun _ _ _ _ _ _ us hl => match us, hl with | [_, _], _ => rfl
  have F18 := fun_mk (st := s_law_unlike) l18 c18 k18
  have b18 := F18.binds (ps := ["items"]) fun _ _ _ _ _ _ us hl => match us, hl with | [_], _ => rfl
  have F19 := fun_mk (st := s_law_number) l19 c19 k19
  have b19 := F19.binds (ps := ["store"]) fun _ _ _ _ _ _ us hl => match us, hl with | [_], _ => rfl
  have F20 := fun_mk (st := s_law_clamped) l20 c20 k20
  have b20 := F20.binds (ps := ["number"]) fun _ _ _ _ _ _ us hl => match us, hl with | [_], _ => rfl
  have F21 := fun_mk (st := s_law_pool) l21 c21 k21
  have b21 := F21.binds (ps := ["store"]) fun _ _ _ _ _ _ us hl => match us, hl with | [_], _ => rfl
  have F22 := fun_mk (st := s_law_near) l22 c22 k22
  have b22 := F22.binds (ps := ["store", "pool"]) fun _ _ _ _ _ _ us hl => match us, hl with | [_, _], _ => rfl
  have F23 := fun_mk (st := s_law_bad_number) l23 c23 k23
  have b23 := F23.binds (ps := ["store", "keyed"]) fun _ _ _ _ _ _ us hl => match us, hl with | [_, _], _ => rfl
  have F24 := fun_mk (st := s_law_ends) l24 c24 k24
  have b24 := F24.binds (ps := ["store", "pool"]) fun _ _ _ _ _ _ us hl => match us, hl with | [_, _], _ => rfl
  have F25 := fun_mk (st := s_law_is_number) l25 c25 k25
  have b25 := F25.binds (ps := ["value"]) fun _ _ _ _ _ _ us hl => match us, hl with | [_], _ => rfl
  have F26 := fun_mk (st := s_law_match) l26 c26 k26
  have b26 := F26.binds (ps := ["left", "right", "strict"]) fun _ _ _ _ _ _ us hl => match us, hl with | [_, _, _], _ => rfl
  have F27 := fun_mk (st := s_law_same) l27 c27 k27
  have b27 := F27.binds (ps := ["actual", "expected"]) fun _ _ _ _ _ _ us hl => match us, hl with | [_, _], _ => rfl
  have F28 := fun_mk (st := s_law_tried) l28 c28 k28
  have b28 := F28.binds (ps := ["numbers"]) fun _ _ _ _ _ _ us hl => match us, hl with | [_], _ => rfl
  have F29 := fun_mk (st := s_law_made) l29 c29 k29
  have b29 := F29.binds (ps := ["store", "ends"]) fun _ _ _ _ _ _ us hl => match us, hl with | [_, _], _ => rfl
  have F30 := fun_mk (st := s_law_is_span) l30 c30 k30
  have b30 := F30.binds (ps := ["span", "ends"]) fun _ _ _ _ _ _ us hl => match us, hl with | [_, _], _ => rfl
  have F31 := fun_mk (st := s_law_held) l31 c31 k31
  have b31 := F31.binds (ps := ["light", "pairs"]) fun _ _ _ _ _ _ us hl => match us, hl with | [_, _], _ => rfl
  have F32 := fun_mk (st := s_law_is_meet) l32 c32 k32
  have b32 := F32.binds (ps := ["met", "pairs", "lights"]) fun _ _ _ _ _ _ us hl => match us, hl with | [_, _, _], _ => rfl
  have F33 := fun_mk (st := s_law_end) l33 c33 k33
  have b33 := F33.binds (ps := ["store", "pool"]) fun _ _ _ _ _ _ us hl => match us, hl with | [_, _], _ => rfl
  have F34 := fun_mk (st := s_law_span_due) l34 c34 k34
  have b34 := F34.binds (ps := ["ends"]) fun _ _ _ _ _ _ us hl => match us, hl with | [_], _ => rfl
  have F35 := fun_mk (st := s_law_span_asked) l35 c35 k35
  have b35 := F35.binds (ps := ["ends"]) fun _ _ _ _ _ _ us hl => match us, hl with | [_], _ => rfl
  have F36 := fun_mk (st := s_law_point_asked) l36 c36 k36
  have b36 := F36.binds (ps := ["number", "named"]) fun _ _ _ _ _ _ us hl => match us, hl with | [_, _], _ => rfl
  have F37 := fun_mk (st := slaw) l37 c37 k37
  have b37 := F37.binds (ps := ["script"]) fun _ _ _ _ _ _ us hl => match us, hl with | [_], _ => rfl
  refine ⟨PySem.W.fnOf "law" "law" (defArgs slaw) (defBody slaw) (defScope slaw) .none kV37 dc37 pm37 an37 cd37 ct37, fun s v => .of_eq rfl, fun base _ _ => ?_⟩
  have I_BadNumber : HasI l.prog w K mg base CE 1 ["self", "number"] (spInit1 K "number") := ⟨fCE, _, ok_BadNumber_init FICE, iCE, tiCE, bICE⟩
  have I_BadSpan : HasI l.prog w K mg base CB 1 ["self", "low", "high"] (spInit2 K "low" "high") := ⟨fCB, _, ok_BadSpan_init FICB, iCB, tiCB, bICB⟩
  have H_p_is_number : Has l.prog w K mg base "is_number" 1 ["value"] (spIsNum) := ⟨f5, _, ok_p_is_number (k := 0) F5 T, PySem.W.mg_of X G a5, k5, b5⟩
  have H_check_number : HasX l.prog w K mg base "check_number" 3 ["value"] (spCheck CE) := ⟨f6, _, ok_check_number (k := 2) F6 T E_BadNumber I_BadNumber N_BadNumber_number (H_p_is_number.mono (by decide)) (by decide), PySem.W.mg_of X G a6, k6, b6⟩
  have H_check_open_number : HasX l.prog w K mg base "check_open_number" 4 ["value"] (spCheckO CE) := ⟨f7, _, ok_check_open_number (k := 3) F7 T (H_check_number.mono (by decide)), PySem.W.mg_of X G a7, k7, b7⟩
  have H_are_crossed : Has l.prog w K mg base "are_crossed" 1 ["low", "high"] (spCrossed) := ⟨f8, _, ok_are_crossed (k := 0) F8 T, PySem.W.mg_of X G a8, k8, b8⟩
  have H_check_low_high : HasX l.prog w K mg base "check_low_high" 3 ["low", "high"] (spLowHigh CB) := ⟨f9, _, ok_check_low_high (k := 2) F9 T E_BadSpan I_BadSpan N_BadSpan_low N_BadSpan_high (H_are_crossed.mono (by decide)) (by decide), PySem.W.mg_of X G a9, k9, b9⟩
  have H_told_ends : Has l.prog w K mg base "told_ends" 1 ["first", "second"] (spTold) := ⟨f10, _, ok_told_ends (k := 0) F10 T, PySem.W.mg_of X G a10, k10, b10⟩
  have H_lesser_end : Has l.prog w K mg base "lesser_end" 2 ["first", "second"] (spLesser) := ⟨f11, _, ok_lesser_end (k := 1) F11 T (H_told_ends.mono (by decide)), PySem.W.mg_of X G a11, k11, b11⟩
  have H_greater_end : Has l.prog w K mg base "greater_end" 2 ["first", "second"] (spGreater) := ⟨f12, _, ok_greater_end (k := 1) F12 T (H_told_ends.mono (by decide)), PySem.W.mg_of X G a12, k12, b12⟩
  have OI := ok_span_init (P := l.prog) (w := w) (base := base) (k := 4) FD T S (H_check_open_number.mono (by decide)) (H_check_low_high.mono (by decide))
  have HM2 : HasMk l.prog w K mg base (L2.CX l.prog w) C "Span" 5 ["self", "low", "high"] [] (spSpanI C CE CB) := by
    obtain ⟨ds, hd, hb⟩ := FD.binds1 (ps := ["self", "low", "high"]) 3 2 (by simp) rfl (fun T kV doc pm an cdv ct us its l1 l2 => match us, l1, its, l2 with | [_, _, _], _, [_, _], _ => ⟨_, rfl, rfl⟩)
    exact ⟨f0, _, ds, OI, MK, G_Span, hd, hb⟩
  have HM1 : HasMk l.prog w K mg base (L2.CX l.prog w) C "Span" 5 ["self", "low", "high"] [.non] (spSpanI C CE CB) := by
    obtain ⟨ds, hd, hb⟩ := FD.binds1 (ps := ["self", "low", "high"]) 2 1 (by simp) rfl (fun T kV doc pm an cdv ct us its l1 l2 => match us, l1, its, l2 with | [_, _], _, [_, _], _ => ⟨_, rfl, rfl⟩)
    exact ⟨f0, _, ds, OI, MK, G_Span, hd, hb⟩
  have HM0 : HasMk l.prog w K mg base (L2.CX l.prog w) C "Span" 5 ["self", "low", "high"] [.non, .non] (spSpanI C CE CB) := by
    obtain ⟨ds, hd, hb⟩ := FD.binds1 (ps := ["self", "low", "high"]) 1 0 (by simp) rfl (fun T kV doc pm an cdv ct us its l1 l2 => match us, l1, its, l2 with | [_], _, [_, _], _ => ⟨_, rfl, rfl⟩)
    exact ⟨f0, _, ds, OI, MK, G_Span, hd, hb⟩
  have HMN : HasMkN l.prog w K mg base (L2.CX l.prog w) C "Span" 5 1 ["self", "low", "high"] ["high"] gAp (spSpanI C CE CB) := by
    obtain ⟨its, kb⟩ := FD.kbindsD (ps := ["self", "low", "high"]) 2 ["high"] (fun us its ws => us ++ ws) (by simp) (fun r1 _ r3 => r1.append r3) (fun T kV doc pm an cdv ct us its ws l1 l2 l3 => match us, l1, its, l2, ws, l3 with | [_, _], _, [_, _], _, [_], _ => ⟨_, rfl, rfl⟩)
    exact ⟨f0, _, OI, MK, G_Span, _, kb⟩
  have HMK : HasMkN l.prog w K mg base (L2.CX l.prog w) C "Span" 5 0 ["self", "low", "high"] ["high", "low"] gRv (spSpanI C CE CB) := by
    obtain ⟨its, kb⟩ := FD.kbindsD (ps := ["self", "low", "high"]) 1 ["high", "low"] (fun us its ws => us ++ ws.reverse) (by simp) (fun r1 _ r3 => r1.append (vals_rev r3)) (fun T kV doc pm an cdv ct us its ws l1 l2 l3 => match us, l1, its, l2, ws, l3 with | [_], _, [_, _], _, [_, _], _ => ⟨_, rfl, rfl⟩)
    exact ⟨f0, _, OI, MK, G_Span, _, kb⟩
  have HMc : HasM l.prog w K mg base CX0 C "__contains__" 1 ["self", "light"] (spContains C) := ⟨f1, _, ok_contains (k := 0) F1 T S, m_contains, fn_contains, b1⟩
  have HMa : HasM l.prog w K mg base CX0 C (PySem.dunder (Operator.info .BitAnd).2) 7 ["self", "other"] (spAnd C) := ⟨f2, _, ok_and (k := 6) F2 T S HM2 (by decide) (H_greater_end.mono (by decide)) (H_lesser_end.mono (by decide)) (H_are_crossed.mono (by decide)), m_and, fn_and, b2⟩
  have HMe : HasM l.prog w K mg base CX0 C "__eq__" 1 ["self", "other"] (spEqS K C) := ⟨f3, _, ok_eqS (k := 0) F3 T S SI G_Span, m_eq, fn_eq, b3⟩
  have HCM : HasCM l.prog w K mg base (L2.CX l.prog w) C "point" 7 ["cls", "number"] ["number"] (spPoint C CE) := ⟨f4, _, qp, _, ok_point (k := 6) F4 T (H_check_number.mono (by decide)) HM2 (by decide), ⟨p_rd, p_ga⟩, ⟨p_find, ⟨_, p_rec⟩, p_fn⟩, b4, kb_cm F4 fun _ _ _ _ _ _ u ws hl => match ws, hl with | [_], _ => rfl⟩
  have H_store : Has l.prog w K mg base "_law_store" 1 ["script"] (spStore K) := ⟨f13, _, ok_store (k := 0) F13 T, PySem.W.mg_of X G a13, k13, b13⟩
  have H_stir : Has l.prog w K mg base "_law_stir" 1 ["store", "cell"] (spStir) := ⟨f14, _, ok_stir (k := 0) F14 T, PySem.W.mg_of X G a14, k14, b14⟩
  have H_take : Has l.prog w K mg base "_law_take" 2 ["store", "many"] (spTake) := ⟨f15, _, ok_take (k := 1) F15 T (H_stir.mono (by decide)), PySem.W.mg_of X G a15, k15, b15⟩
  have H_pick : Has l.prog w K mg base "_law_pick" 3 ["store", "items"] (spPick) := ⟨f16, _, ok_pick (k := 2) F16 T (H_take.mono (by decide)), PySem.W.mg_of X G a16, k16, b16⟩
  have H_shuffled : Has l.prog w K mg base "_law_shuffled" 3 ["store", "items"] (spShuffled) := ⟨f17, _, ok_shuffled (k := 2) F17 T (H_take.mono (by decide)), PySem.W.mg_of X G a17, k17, b17⟩
  have H_unlike : Has l.prog w K mg base "_law_unlike" 1 ["items"] (spUnlike) := ⟨f18, _, ok_unlike (k := 0) F18 T, PySem.W.mg_of X G a18, k18, b18⟩
  have H_number : Has l.prog w K mg base "_law_number" 4 ["store"] (spNumber) := ⟨f19, _, ok_number (k := 3) F19 T (H_take.mono (by decide)) (H_pick.mono (by decide)), PySem.W.mg_of X G a19, k19, b19⟩
  have H_clamped : Has l.prog w K mg base "_law_clamped" 1 ["number"] (spClamped) := ⟨f20, _, ok_clamped (k := 0) F20 T, PySem.W.mg_of X G a20, k20, b20⟩
  have H_pool : Has l.prog w K mg base "_law_pool" 4 ["store"] (spPool) := ⟨f21, _, ok_pool (k := 3) F21 T (H_take.mono (by decide)) (H_shuffled.mono (by decide)), PySem.W.mg_of X G a21, k21, b21⟩
  have H_near : Has l.prog w K mg base "_law_near" 4 ["store", "pool"] (spNear) := ⟨f22, _, ok_near (k := 3) F22 T (H_take.mono (by decide)) (H_pick.mono (by decide)) (H_clamped.mono (by decide)), PySem.W.mg_of X G a22, k22, b22⟩
  have H_bad_number : Has l.prog w K mg base "_law_bad_number" 4 ["store", "keyed"] (spBadNum) := ⟨f23, _, ok_bad_number (k := 3) F23 T (H_take.mono (by decide)) (H_pick.mono (by decide)), PySem.W.mg_of X G a23, k23, b23⟩
  have H_ends : Has l.prog w K mg base "_law_ends" 5 ["store", "pool"] (spEnds) := ⟨f24, _, ok_ends (k := 4) F24 T (H_take.mono (by decide)) (H_near.mono (by decide)), PySem.W.mg_of X G a24, k24, b24⟩
  have H_is_number : Has l.prog w K mg base "_law_is_number" 1 ["value"] (spIsNum) := ⟨f25, _, ok_is_number (k := 0) F25 T, PySem.W.mg_of X G a25, k25, b25⟩
  have H_match0 : Has l.prog w K mg base "_law_match" 1 ["left", "right", "strict"] (spMatch 0) := ⟨f26, _, ok_match0 (k := 0) F26 T, PySem.W.mg_of X G a26, k26, b26⟩
  have H_match1 : Has l.prog w K mg base "_law_match" 2 ["left", "right", "strict"] (spMatch 1) := ⟨f26, _, ok_matchS (k := 1) F26 T H_match0, PySem.W.mg_of X G a26, k26, b26⟩
  have H_match2 : Has l.prog w K mg base "_law_match" 3 ["left", "right", "strict"] (spMatch 2) := ⟨f26, _, ok_matchS (k := 2) F26 T H_match1, PySem.W.mg_of X G a26, k26, b26⟩
  have H_same : Has l.prog w K mg base "_law_same" 4 ["actual", "expected"] (spSame 2) := ⟨f27, _, ok_same (k := 3) F27 T (H_match2.mono (by decide)), PySem.W.mg_of X G a27, k27, b27⟩
  have H_tried : Has l.prog w K mg base "_law_tried" 2 ["numbers"] (spTried) := ⟨f28, _, ok_tried (k := 1) F28 T (H_clamped.mono (by decide)) (H_unlike.mono (by decide)), PySem.W.mg_of X G a28, k28, b28⟩
  have H_made : Has l.prog w K mg base "_law_made" 7 ["store", "ends"] (spMade C) := ⟨f29, _, ok_made (k := 6) F29 T (H_take.mono (by decide)) (by decide) HM2 HM1 HM0 HMN HMK, PySem.W.mg_of X G a29, k29, b29⟩
  have H_is_span : Has l.prog w K mg base "_law_is_span" 5 ["span", "ends"] (spIsSpan C) := ⟨f30, _, ok_is_span (k := 4) F30 T S SI G_Span (H_same.mono (by decide)), PySem.W.mg_of X G a30, k30, b30⟩
  have H_held : Has l.prog w K mg base "_law_held" 1 ["light", "pairs"] (spHeld) := ⟨f31, _, ok_held (k := 0) F31 T, PySem.W.mg_of X G a31, k31, b31⟩
  have H_is_meet : Has l.prog w K mg base "_law_is_meet" 6 ["met", "pairs", "lights"] (spIsMeet C) := ⟨f32, _, ok_is_meet (k := 5) F32 T (HMc.mono (by decide)) (H_held.mono (by decide)) (H_same.mono (by decide)) (H_is_span.mono (by decide)), PySem.W.mg_of X G a32, k32, b32⟩
  have H_end : Has l.prog w K mg base "_law_end" 5 ["store", "pool"] (spEnd) := ⟨f33, _, ok_end (k := 4) F33 T (H_take.mono (by decide)) (H_near.mono (by decide)) (H_bad_number.mono (by decide)), PySem.W.mg_of X G a33, k33, b33⟩
  have H_span_due : Has l.prog w K mg base "_law_span_due" 2 ["ends"] (spSpanDue) := ⟨f34, _, ok_span_due (k := 1) F34 T (H_is_number.mono (by decide)), PySem.W.mg_of X G a34, k34, b34⟩
  have H_span_asked : Has l.prog w K mg base "_law_span_asked" 7 ["ends"] (spSpanDue) := ⟨f35, _, ok_span_asked (k := 6) F35 T S TE E_BadNumber E_BadSpan N_BadNumber_number N_BadSpan_low N_BadSpan_high HM2 (by decide), PySem.W.mg_of X G a35, k35, b35⟩
  have H_point_asked : Has l.prog w K mg base "_law_point_asked" 8 ["number", "named"] (spPointAsked) := ⟨f36, _, ok_point_asked (k := 7) F36 T S G_Span E_BadNumber N_BadNumber_number HCM, PySem.W.mg_of X G a36, k36, b36⟩
  exact ok_law (k := 8) F37 T S sfC (H_store.mono (by decide)) (H_pool.mono (by decide)) (H_take.mono (by decide)) (H_number.mono (by decide)) (H_ends.mono (by decide)) (H_made.mono (by decide)) (H_tried.mono (by decide)) (H_is_span.mono (by decide)) (H_is_meet.mono (by decide)) (H_same.mono (by decide)) (H_pick.mono (by decide)) (H_near.mono (by decide)) (H_bad_number.mono (by decide)) (H_is_number.mono (by decide)) (H_point_asked.mono (by decide)) (H_end.mono (by decide)) (H_span_asked.mono (by decide)) (H_span_due.mono (by decide)) (HMa.mono (by decide)) (HMe.mono (by decide))

end Z
open PySem PySem.W PyProof.Rows
set_option maxRecDepth 100000 in
set_option maxHeartbeats 0 in
theorem PySem.Challenge.cw_outshiners_k02_spans_meet_holds : PySem.Challenge.rw_outshiners_k02_spans_meet.Holds := by
  w_on; o_law; k_head; (case hw => w_witness2)
  k_fill
  refine L2.walk_of (l := PySem.Challenge.rw_outshiners_k02_spans_meet) (n := 63) (k := 9) (x := "script") (CX := fun _ => L2.CX0) (sp := fun w => Z.spLaw _) rfl (by decide) rfl ⟨rfl, by decide, by decide⟩ (fun w h Y => PySem.W.kIn_of Y) ?F (fun _ _ a ns hl _ hS => ⟨a, ns, rfl, hS, hl, fun _ => rfl⟩) (fun _ _ _ _ _ h => h)
  case F =>
    intro w mg fa h KX G hmg
    refine' Z.all_mk KX G hmg ?gCE ?xCE ?rCE ?saCE ?gaCE ?ggCE ?nfCEnumber ?kpCE ?exCE ?tyCE ?hdCE ?haCE ?hnCE ?htCE ?hmCE ?suCE ?iCE ?tiCE ?lCE ?cCE ?kCE ?gCB ?xCB ?rCB ?saCB ?gaCB ?ggCB ?nfCBlow ?nfCBhigh ?kpCB ?exCB ?tyCB ?hdCB ?haCB ?hnCB ?htCB ?hmCB ?suCB ?iCB ?tiCB ?lCB ?cCB ?kCB ?gcO ?gcT ?gcR ?gC ?eO ?eB ?eT ?eR ?bO ?bE ?bT ?bR ?ne ?pgC ?hdC ?poC ?saC ?nlC ?nhC ?haC ?hmC ?kC ?kint ?kstr ?ktuple ?kNoneType ?sfC ?mkC ?kpC ?iC ?l0 ?c0 ?k0 ?t0 ?fnI ?m_contains ?l1 ?c1 ?k1 ?fn_contains ?m_and ?l2 ?c2 ?k2 ?fn_and ?m_eq ?l3 ?c3 ?k3 ?fn_eq ?p_find ?p_rec ?l4 ?c4 ?k4 ?p_fn ?p_rd ?p_ga ?a5 ?l5 ?c5 ?k5 ?a6 ?l6 ?c6 ?k6 ?a7 ?l7 ?c7 ?k7 ?a8 ?l8 ?c8 ?k8 ?a9 ?l9 ?c9 ?k9 ?a10 ?l10 ?c10 ?k10 ?a11 ?l11 ?c11 ?k11 ?a12 ?l12 ?c12 ?k12 ?a13 ?l13 ?c13 ?k13 ?a14 ?l14 ?c14 ?k14 ?a15 ?l15 ?c15 ?k15 ?a16 ?l16 ?c16 ?k16 ?a17 ?l17 ?c17 ?k17 ?a18 ?l18 ?c18 ?k18 ?a19 ?l19 ?c19 ?k19 ?a20 ?l20 ?c20 ?k20 ?a21 ?l21 ?c21 ?k21 ?a22 ?l22 ?c22 ?k22 ?a23 ?l23 ?c23 ?k23 ?a24 ?l24 ?c24 ?k24 ?a25 ?l25 ?c25 ?k25 ?a26 ?l26 ?c26 ?k26 ?a27 ?l27 ?c27 ?k27 ?a28 ?l28 ?c28 ?k28 ?a29 ?l29 ?c29 ?k29 ?a30 ?l30 ?c30 ?k30 ?a31 ?l31 ?c31 ?k31 ?a32 ?l32 ?c32 ?k32 ?a33 ?l33 ?c33 ?k33 ?a34 ?l34 ?c34 ?k34 ?a35 ?l35 ?c35 ?k35 ?a36 ?l36 ?c36 ?k36 ?a37 ?l37 ?c37 ?k37 ?z_len ?z_int ?z_max ?z_min ?z_range ?z_list ?z_tuple ?z_bool ?z_sorted ?z_isinstance ?z_str ?z_dict ?z_ValueError ?zc_LIMIT
    case gCE => k_is
    case xCE => k_is
    case rCE => first | rfl | decide +kernel
    case saCE => k_is
    case gaCE => k_is
    case ggCE => k_is
    case nfCEnumber => k_is
    case kpCE => k_is
    case exCE => k_is
    case tyCE => k_is
    case hdCE => k_is
    case haCE => k_is
    case hnCE => k_is
    case htCE => k_is
    case hmCE => k_is
    case suCE => first | rfl | k_is
    case iCE => k_is
    case tiCE => k_is
    case lCE => k_is
    case cCE => k_is
    case kCE => k_is
    case gCB => k_is
    case xCB => k_is
    case rCB => first | rfl | decide +kernel
    case saCB => k_is
    case gaCB => k_is
    case ggCB => k_is
    case nfCBlow => k_is
    case nfCBhigh => k_is
    case kpCB => k_is
    case exCB => k_is
    case tyCB => k_is
    case hdCB => k_is
    case haCB => k_is
    case hnCB => k_is
    case htCB => k_is
    case hmCB => k_is
    case suCB => first | rfl | k_is
    case iCB => k_is
    case tiCB => k_is
    case lCB => k_is
    case cCB => k_is
    case kCB => k_is
    case gcO => k_is
    case gcT => k_is
    case gcR => k_is
    case gC => k_is
    case eO => first | k_is | kit_is
    case eB => first | k_is | kit_is
    case eT => first | k_is | kit_is
    case eR => first | k_is | kit_is
    case bO => first | k_is | kit_is
    case bE => first | k_is | kit_is
    case bT => first | k_is | kit_is
    case bR => first | k_is | kit_is
    case ne => first | rfl | k_is
    case pgC => k_is
    case hdC => k_is
    case poC => k_is
    case saC => k_is
    case nlC => k_is
    case nhC => k_is
    case haC => k_is
    case hmC => k_is
    case kC => first | k_is | kit_is
    case kint => first | k_is | kit_is
    case kstr => first | k_is | kit_is
    case ktuple => first | k_is | kit_is
    case kNoneType => first | k_is | kit_is
    case sfC => k_is
    case mkC => k_is
    case kpC => k_is
    case iC => k_is
    case l0 => k_is
    case c0 => k_is
    case k0 => k_is
    case t0 => k_is
    case fnI => k_is
    case m_contains => k_is
    case l1 => k_is
    case c1 => k_is
    case k1 => k_is
    case fn_contains => k_is
    case m_and => k_is
    case l2 => k_is
    case c2 => k_is
    case k2 => k_is
    case fn_and => k_is
    case m_eq => k_is
    case l3 => k_is
    case c3 => k_is
    case k3 => k_is
    case fn_eq => k_is
    case p_find => k_is
    case p_rec => k_is
    case l4 => k_is
    case c4 => k_is
    case k4 => k_is
    case p_fn => k_is
    case p_rd => k_is
    case p_ga => k_is
    case a5 => k_is
    case l5 => k_is
    case c5 => k_is
    case k5 => k_is
    case a6 => k_is
    case l6 => k_is
    case c6 => k_is
    case k6 => k_is
    case a7 => k_is
    case l7 => k_is
    case c7 => k_is
    case k7 => k_is
    case a8 => k_is
    case l8 => k_is
    case c8 => k_is
    case k8 => k_is
    case a9 => k_is
    case l9 => k_is
    case c9 => k_is
    case k9 => k_is
    case a10 => k_is
    case l10 => k_is
    case c10 => k_is
    case k10 => k_is
    case a11 => k_is
    case l11 => k_is
    case c11 => k_is
    case k11 => k_is
    case a12 => k_is
    case l12 => k_is
    case c12 => k_is
    case k12 => k_is
    case a13 => k_is
    case l13 => k_is
    case c13 => k_is
    case k13 => k_is
    case a14 => k_is
    case l14 => k_is
    case c14 => k_is
    case k14 => k_is
    case a15 => k_is
    case l15 => k_is
    case c15 => k_is
    case k15 => k_is
    case a16 => k_is
    case l16 => k_is
    case c16 => k_is
    case k16 => k_is
    case a17 => k_is
    case l17 => k_is
    case c17 => k_is
    case k17 => k_is
    case a18 => k_is
    case l18 => k_is
    case c18 => k_is
    case k18 => k_is
    case a19 => k_is
    case l19 => k_is
    case c19 => k_is
    case k19 => k_is
    case a20 => k_is
    case l20 => k_is
    case c20 => k_is
    case k20 => k_is
    case a21 => k_is
    case l21 => k_is
    case c21 => k_is
    case k21 => k_is
    case a22 => k_is
    case l22 => k_is
    case c22 => k_is
    case k22 => k_is
    case a23 => k_is
    case l23 => k_is
    case c23 => k_is
    case k23 => k_is
    case a24 => k_is
    case l24 => k_is
    case c24 => k_is
    case k24 => k_is
    case a25 => k_is
    case l25 => k_is
    case c25 => k_is
    case k25 => k_is
    case a26 => k_is
    case l26 => k_is
    case c26 => k_is
    case k26 => k_is
    case a27 => k_is
    case l27 => k_is
    case c27 => k_is
    case k27 => k_is
    case a28 => k_is
    case l28 => k_is
    case c28 => k_is
    case k28 => k_is
    case a29 => k_is
    case l29 => k_is
    case c29 => k_is
    case k29 => k_is
    case a30 => k_is
    case l30 => k_is
    case c30 => k_is
    case k30 => k_is
    case a31 => k_is
    case l31 => k_is
    case c31 => k_is
    case k31 => k_is
    case a32 => k_is
    case l32 => k_is
    case c32 => k_is
    case k32 => k_is
    case a33 => k_is
    case l33 => k_is
    case c33 => k_is
    case k33 => k_is
    case a34 => k_is
    case l34 => k_is
    case c34 => k_is
    case k34 => k_is
    case a35 => k_is
    case l35 => k_is
    case c35 => k_is
    case k35 => k_is
    case a36 => k_is
    case l36 => k_is
    case c36 => k_is
    case k36 => k_is
    case a37 => k_is
    case l37 => k_is
    case c37 => k_is
    case k37 => k_is
    case z_len => k_is
    case z_int => k_is
    case z_max => k_is
    case z_min => k_is
    case z_range => k_is
    case z_list => k_is
    case z_tuple => k_is
    case z_bool => k_is
    case z_sorted => k_is
    case z_isinstance => k_is
    case z_str => k_is
    case z_dict => k_is
    case z_ValueError => k_is
    case zc_LIMIT => exact ⟨_, by k_is⟩
