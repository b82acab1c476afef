import PyProof.Rows.All
import Wide.All
import OpenK.AllK
import Wide.FinOn
import HandS.ForMost
import HandS.ForExc
import HandS.Wide
import HandS.IsInst
import HandS.SortInts
import HandS.Codes
import HandS.ExcInit
import HandS.ExcField
import HandS.ExcIs
import KE.DatumOrd
import KE.KExcIs
import HandS.SortKw
import HandS.TryMany
import HandS.ExcOwn
import HandS.FStr
import HandS.Text
import HandS.Dict
import HandS.Defaults
import HandS.Rev
import HandS.Conv
import HandS.RaiseMore
import HandS.Walk
import HandS.CallSlots
import HandS.MakeKwOnly
import PySem.Challenge.RW_outshiners_k04_fresh_names
set_option Elab.async false
set_option linter.all false
set_option maxRecDepth 100000
namespace Z
open PySem PySem.Spec PyProof.Rows L2
/-! ### a def that may be called by its name -/
structure Has (P : Program) (w : World) (K : PySem.W.Frag) (mg : Str → Option Value) (base : Heap) (x : Str) (k : Nat) (ps : List Str) (sp : Sp) : Prop where
  ex : ∃ f fd, FnOk P w K mg base CX0 k f fd ps sp ∧ mg x = some (.ref f) ∧ PySem.W.keepIn K (.ref f) = true ∧ Binds K fd ps []
section
variable {P : Program} {w : World} {K : PySem.W.Frag} {mg : Str → Option Value} {base : Heap}
theorem Has.mk' {x : Str} {k : Nat} {ps : List Str} {sp : Sp} {f : Addr} {fd : FuncData} (F : FnOk P w K mg base CX0 k f fd ps sp) (g : mg x = some (.ref f)) (kp : PySem.W.keepIn K (.ref f) = true) (b : Binds K fd ps []) : Has P w K mg base x k ps sp := ⟨f, fd, F, g, kp, b⟩
theorem Has.mono {x : Str} {j k : Nat} {ps : List Str} {sp : Sp} (h : Has P w K mg base x j ps sp) (l : j ≤ k) : Has P w K mg base x k ps sp := by
  obtain ⟨f, fd, F, r⟩ := h.ex
  exact ⟨f, fd, F.mono l, r⟩
end
theorem pe_callH {X : Cx} {x : Str} {k : Nat} {ps : List Str} {sp : Sp} {e : Expr} {es : List Expr} {t : TA} {p pos : Pos} (h : Has X.prog X.w X.K X.mg X.base x k ps sp) (hr : Room k X.A) (hg : Gl X x) (ha : PA X (e :: es) t)
    (hdb : (x == ("__debug__" : Str)) = false := by decide) (he : starEach (e :: es) X.env = (false, eval e X.env) :: starEach es X.env := by rfl) (hpl : (backTo pos (starEach es X.env)).any (·.1) = false := by rfl) :
    PE X (.Call (.Name x p) (e :: es) [] pos) (tCall sp [] E0 t) := by
  obtain ⟨f, fd, F, hm, hk, hb⟩ := h.ex
  exact pe_call F hr hg hm hk hb .nil pass0 ha hdb he hpl
theorem sl_of' {K : PySem.W.Frag} {H : Hp} {a : Addr} {xs : List V} (h : H a = some (.lst xs)) : SqL K H a xs := .inl (.inl h)
/-! ### readings, step by step -/
section
variable {σ : L2.St} {H : Hp} {D : Ends} {t u : TS} {te ta tb : TE} {tt tu : TT} {Q : VK} {i : Nat} {v x : V} {r : R2} {tA tR : TA} {QA : List V → Hp → Prop} {QT : Bool → Hp → Prop}
theorem rd_seq (h : t { D with nx := u D } σ H) : tSeq t u D σ H := h
theorem rd_asg (h : te σ H fun x H1 => D.nx (σ.set i (some x)) H1) : tAsg te (gName i) D σ H := h
theorem rd_asgS {to ti : TE} {ts : TSet} (h : te σ H fun x H1 => to σ H1 fun o H1 => ti σ H1 fun i H2 => ts o i x H2 fun H3 => D.nx σ H3) : tAsg te (gSub to ti ts) D σ H := h
theorem rd_ret (h : te σ H D.rt) : tRet te D σ H := h
theorem rd_ifS (h : tt σ H fun b H1 => if b = true then t D σ H1 else u D σ H1) : tIfS tt t u D σ H := h
theorem rd_next (h : D.nx σ H) : tNext D σ H := h
theorem rd_drop (h : te σ H fun _ H1 => D.nx σ H1) : tDrop te D σ H := h
theorem rd_var (e : σ[i]? = some (some v)) (h : Q v H) : tVar i σ H Q := ⟨v, e, h⟩
theorem rd_c (h : Q v H) : tC v σ H Q := h
theorem rd_op (h : ta σ H fun x H1 => tb σ H1 fun y H2 => r x y H2 Q) : tOp r ta tb σ H Q := h
theorem rd_un {r : V → Hp → VK → Prop} (h : ta σ H fun x H1 => r x H1 Q) : tUn r ta σ H Q := h
theorem rd_nil (h : QA [] H) : tNil σ H QA := h
theorem rd_cons (h : ta σ H fun x H1 => tR σ H1 fun xs H2 => QA (x :: xs) H2) : tCons ta tR σ H QA := h
theorem rd_cb {r : List V → Hp → VK → Prop} (h : tA σ H fun vs H1 => r vs H1 Q) : tCB r tA σ H Q := h
theorem rd_call {sp : Sp} {E : XK} (h : tA σ H fun vs H1 => sp vs H1 Q E) : tCall sp [] E tA σ H Q := by
  show tA σ H fun vs H1 => sp (vs ++ []) H1 Q E
  simp only [List.append_nil]
  exact h
theorem rd_test (h : te σ H fun x H' => ∃ k, x = .bl k ∧ QT k H') : tTest te σ H QT := h
theorem rd_tB (h : te σ H fun x H' => ∃ k, x = .bl k ∧ QT k H') : tB te σ H QT := h
theorem rd_bx {b : Bool} {R : Bool → Prop} (h : R b) : ∃ k, V.bl b = .bl k ∧ R k := ⟨b, rfl, h⟩
theorem rd_nn {R : Prop} (h : R) : V.non = V.non ∧ R := ⟨rfl, h⟩
theorem rd_not (h : tt σ H fun c H1 => QT (!c) H1) : tNot tt σ H QT := h
theorem rd_and (h : tt σ H fun c H1 => if c = true then tu σ H1 QT else QT false H1) : tAnd tt tu σ H QT := h
theorem rd_or (h : tt σ H fun c H1 => if c = true then QT true H1 else tu σ H1 QT) : tOr tt tu σ H QT := h
theorem rd_andV (h : ta σ H fun x H1 => ∃ c, x = .bl c ∧ if c = true then tb σ H1 Q else Q (.bl false) H1) : tAndV ta tb σ H Q := h
theorem rd_orV (h : ta σ H fun x H1 => ∃ c, x = .bl c ∧ if c = true then Q (.bl true) H1 else tb σ H1 Q) : tOrV ta tb σ H Q := h
theorem rd_notV (h : ta σ H fun x H1 => ∃ c, x = .bl c ∧ Q (.bl (!c)) H1) : tNotV ta σ H Q := h
theorem rd_if (h : tt σ H fun c H1 => if c = true then ta σ H1 Q else tb σ H1 Q) : tIf tt ta tb σ H Q := h
theorem rd_I0 {g : Int → Int → V} {i j : Int} (h : Q (g i j) H) : rI0 g (.int i) (.int j) H Q := ⟨i, j, rfl, rfl, h⟩
theorem rd_I {C : Int → Int → Prop} {g : Int → Int → V} {i j : Int} (c : C i j) (h : Q (g i j) H) : rI C g (.int i) (.int j) H Q := ⟨i, j, rfl, rfl, c, h⟩
theorem rd_U {g : Int → V} {i : Int} (h : Q (g i) H) : rU g (.int i) H Q := ⟨i, rfl, h⟩
theorem rd_eqI {i j : Int} (h : Q (.bl (decide (i = j))) H) : rEq (.int i) (.int j) H Q := ⟨rfl, by
  have e : decide (V.int i = V.int j) = decide (i = j) := by simp
  rw [e]; exact h⟩
theorem rd_neI {i j : Int} (h : Q (.bl (!decide (i = j))) H) : rNe (.int i) (.int j) H Q := ⟨rfl, by
  have e : decide (V.int i = V.int j) = decide (i = j) := by simp
  rw [e]; exact h⟩
theorem rd_lst (h : tA σ H fun xs H1 => xs.length ≤ sizeLine ∧ ∀ p, H1 p = none → Q (.ref p) (upd H1 p (.lst xs))) : tLst tA σ H Q := h
theorem rd_tup (h : tA σ H fun xs H1 => xs.length ≤ sizeLine ∧ ∀ p, H1 p = none → Q (.ref p) (upd H1 p (.tup xs))) : tTup tA σ H Q := h
theorem rd_sl {r : V → Option Int → Option Int → Hp → VK → Prop} {tl th : TO} (h : te σ H fun x H1 => tl σ H1 fun l H2 => th σ H2 fun u H3 => r x l u H3 Q) : tSl r te tl th σ H Q := h
theorem rd_bm {K : PySem.W.Frag} {T : String} {r : V → List V → Hp → VK → Prop} (h : te σ H fun x H1 => tyV K T x H1 ∧ tA σ H1 fun xs H2 => r x xs H2 Q) : tBM K T r te tA σ H Q := h
theorem rd_chain {r r' : R2} {tc : TE} (h : ta σ H fun x H1 => tb σ H1 fun y H2 => r x y H2 fun z H3 => ∃ k, z = .bl k ∧ if k = true then tc σ H3 fun z' H4 => r' y z' H4 Q else Q (.bl false) H3) : tChain r r' ta tb tc σ H Q := h
theorem rd_int1 {i : Int} {R : Int → Prop} {R' : Bool → Prop} (h : R i) : (∃ j, [V.int i] = [V.int j] ∧ R j) ∨ (∃ k, [V.int i] = [V.bl k] ∧ R' k) := .inl ⟨i, rfl, h⟩
theorem rd_max2 {i j : Int} {R : Int → Int → Prop} (h : R i j) : ∃ i' j', [V.int i, V.int j] = [V.int i', V.int j'] ∧ R i' j' := ⟨i, j, rfl, h⟩
theorem rd_min2 {i j : Int} {R : Int → Int → Prop} (h : R i j) : ∃ i' j', [V.int i, V.int j] = [V.int i', V.int j'] ∧ R i' j' := ⟨i, j, rfl, h⟩
theorem rd_ixL {K : PySem.W.Frag} {p : Addr} {xs : List V} {i : Int} {v : V} {Q : VK} (h : H p = some (.lst xs)) (e : atI xs i = some v) (q : Q v H) : rIxL K (.ref p) (.int i) H Q := ⟨p, xs, i, v, rfl, rfl, .inl (.inl h), e, q⟩
theorem rd_setL {p : Addr} {xs : List V} {k : Int} {j : Nat} {v : V} {Q : Hp → Prop} (h : H p = some (.lst xs)) (e : ixN xs.length k = some j) (q : Q (upd H p (.lst (xs.set j v)))) : rSetL (.ref p) (.int k) v H Q := ⟨p, xs, k, j, rfl, rfl, h, e, q⟩
theorem rd_part {te : TE} {Q : Option Int → Hp → Prop} (h : te σ H fun x H1 => ∃ i, x = .int i ∧ Q (some i) H1) : tPart te σ H Q := h
theorem rd_nopart {Q : Option Int → Hp → Prop} (h : Q none H) : tNoPart σ H Q := h
theorem rd_cut (Mid : L2.St → Hp → Prop) (h : t { D with nx := Mid } σ H) (h2 : ∀ σ' H', Mid σ' H' → u D σ' H') : C8.tCut t u D σ H := ⟨Mid, h, h2⟩
theorem rd_setS {p : Addr} {xs : List V} {k : Int} {j : Nat} {v : V} {Q : Hp → Prop} (e : ixN xs.length k = some j) (q : Q (upd H p (.lst (xs.set j v)))) : rSetL (.ref p) (.int k) v (upd H p (.lst xs)) Q := ⟨p, xs, k, j, rfl, rfl, upd_same, e, by rw [upd_upd]; exact q⟩
theorem rd_p9 {Q : VK} (h : Q (.int 1000000000) H) : rI CPow (fun i j => .int (i ^ j.toNat)) (.int 10) (.int 9) H Q := ⟨10, 9, rfl, rfl, ⟨by decide, by decide, by decide⟩, h⟩
theorem rd_p11 {Q : VK} (h : Q (.int 100000000000) H) : rI CPow (fun i j => .int (i ^ j.toNat)) (.int 10) (.int 11) H Q := ⟨10, 11, rfl, rfl, ⟨by decide, by decide, by decide⟩, h⟩
theorem rd_p12 {Q : VK} (h : Q (.int 1000000000000) H) : rI CPow (fun i j => .int (i ^ j.toNat)) (.int 10) (.int 12) H Q := ⟨10, 12, rfl, rfl, ⟨by decide, by decide, by decide⟩, h⟩
theorem rd_p13 {Q : VK} (h : Q (.int 10000000000000) H) : rI CPow (fun i j => .int (i ^ j.toNat)) (.int 10) (.int 13) H Q := ⟨10, 13, rfl, rfl, ⟨by decide, by decide, by decide⟩, h⟩
theorem rd_p18 {Q : VK} (h : Q (.int 1000000000000000000) H) : rI CPow (fun i j => .int (i ^ j.toNat)) (.int 10) (.int 18) H Q := ⟨10, 18, rfl, rfl, ⟨by decide, by decide, by decide⟩, h⟩
theorem rd_p30 {Q : VK} (h : Q (.int 1000000000000000000000000000000) H) : rI CPow (fun i j => .int (i ^ j.toNat)) (.int 10) (.int 30) H Q := ⟨10, 30, rfl, rfl, ⟨by decide, by decide, by decide⟩, h⟩
theorem rd_p40 {Q : VK} (h : Q (.int 10000000000000000000000000000000000000000) H) : rI CPow (fun i j => .int (i ^ j.toNat)) (.int 10) (.int 40) H Q := ⟨10, 40, rfl, rfl, ⟨by decide, by decide, by decide⟩, h⟩
theorem rd_seqL {K : PySem.W.Frag} {a : Addr} {xs : List V} {R : List V → Prop} (h : H a = some (.lst xs)) (q : R xs) : ∃ p ys, [V.ref a] = [V.ref p] ∧ (SqL K H p ys ∨ SqT K H p ys) ∧ R ys := ⟨a, xs, rfl, .inl (.inl (.inl h)), q⟩
theorem rd_seqT {K : PySem.W.Frag} {a : Addr} {xs : List V} {R : List V → Prop} (h : H a = some (.tup xs)) (q : R xs) : ∃ p ys, [V.ref a] = [V.ref p] ∧ (SqL K H p ys ∨ SqT K H p ys) ∧ R ys := ⟨a, xs, rfl, .inr (.inl (.inl h)), q⟩
theorem atI_get {xs : List V} {i : Int} (h0 : 0 ≤ i) (h1 : i < xs.length) : ∃ (hb : i.toNat < xs.length), atI xs i = some (xs[i.toNat]'hb) := by
  have hb : i.toNat < xs.length := by omega
  refine ⟨hb, ?_⟩
  unfold atI ixN
  rw [if_pos h0, if_pos h1]
  simp [hb]
theorem atI_ints {xs : List Int} {i : Int} (h0 : 0 ≤ i) (h1 : i < xs.length) : ∃ n, n ∈ xs ∧ xs[i.toNat]? = some n ∧ atI (xs.map V.int) i = some (.int n) := by
  have hb : i.toNat < xs.length := by omega
  refine ⟨xs[i.toNat], List.getElem_mem hb, by simp [hb], ?_⟩
  unfold atI ixN
  rw [if_pos h0, if_pos (by simpa using h1)]
  simp [hb]
/-! loops -/
theorem rd_for {wi : TI} {g : TG} {tb : TS} (h : wi σ H fun J H1 => ∃ W : Nat → Nat → L2.St → Hp → Prop, (∃ m, W 0 m σ H1) ∧ ∀ i m σ H, W i m σ H →
  (J.stop i H ∧ D.nx σ H) ∨ (J.go i H ∧ ∃ N : L2.St → Hp → Prop, (∀ σ' H', N σ' H' → ∃ m', m' < m ∧ W (i + 1) m' σ' H') ∧ ∀ x H', J.yld i H x H' → g x σ H' fun σ2 H2 => tb { D with nx := N, ct := N, bk := D.nx } σ2 H2)) : tFor wi g tb D σ H := h
theorem rd_iRng1 {ta : TA} {R : It → Hp → Prop} (h : ta σ H fun vs H1 => ∃ j : Int, vs = [.int j] ∧ -(2 ^ 62) ≤ j ∧ j < 2 ^ 62 ∧ R (Itr 0 j.toNat) H1) : iRng1 ta σ H R := h
theorem rd_iList {K : PySem.W.Frag} {R : It → Hp → Prop} (h : te σ H fun x H1 => ∃ a, x = .ref a ∧ (∃ xs, SqL K H1 a xs) ∧ R (Itl K a) H1) : iList K te σ H R := h
theorem for_rng {n : Nat} {k : Nat} {tb : TS} (Pv : Nat → L2.St → Hp → Prop) (h0 : Pv 0 σ H)
    (hs : ∀ i σ H, i < n → Pv i σ H → tb { D with nx := Pv (i + 1), ct := Pv (i + 1), bk := D.nx } (σ.set k (some (.int i))) H) (hd : ∀ σ H, Pv n σ H → D.nx σ H) :
    ∃ W : Nat → Nat → L2.St → Hp → Prop, (∃ m, W 0 m σ H) ∧ ∀ i m σ H, W i m σ H →
      ((Itr 0 n).stop i H ∧ D.nx σ H) ∨ ((Itr 0 n).go i H ∧ ∃ N : L2.St → Hp → Prop, (∀ σ' H', N σ' H' → ∃ m', m' < m ∧ W (i + 1) m' σ' H') ∧ ∀ x H', (Itr 0 n).yld i H x H' → gName k x σ H' fun σ2 H2 => tb { D with nx := N, ct := N, bk := D.nx } σ2 H2) := by
  refine for_range (lo := 0) Pv h0 (fun i σ H hi hp => ?_) hd
  have e : (V.int (0 + (i : Int))) = V.int i := by rw [Int.zero_add]
  rw [e]
  exact hs i σ H hi hp
theorem for_lst {K : PySem.W.Frag} {a : Addr} {xs : List V} {k : Nat} {tb : TS} (Pv : Nat → L2.St → Hp → Prop) (h0 : Pv 0 σ H) (hl : ∀ i σ H, Pv i σ H → H a = some (.lst xs))
    (hs : ∀ i x σ H, xs[i]? = some x → Pv i σ H → tb { D with nx := Pv (i + 1), ct := Pv (i + 1), bk := D.nx } (σ.set k (some x)) H) (hd : ∀ σ H, Pv xs.length σ H → D.nx σ H) :
    ∃ W : Nat → Nat → L2.St → Hp → Prop, (∃ m, W 0 m σ H) ∧ ∀ i m σ H, W i m σ H →
      ((Itl K a).stop i H ∧ D.nx σ H) ∨ ((Itl K a).go i H ∧ ∃ N : L2.St → Hp → Prop, (∀ σ' H', N σ' H' → ∃ m', m' < m ∧ W (i + 1) m' σ' H') ∧ ∀ x H', (Itl K a).yld i H x H' → gName k x σ H' fun σ2 H2 => tb { D with nx := N, ct := N, bk := D.nx } σ2 H2) :=
  for_list Pv h0 (fun i σ H _ hp => sl_of' (hl i σ H hp)) hs hd
theorem kb_NoneType_int : kitB "NoneType" "int" = some false := by decide +kernel
theorem kb_NoneType_bool : kitB "NoneType" "bool" = some false := by decide +kernel
theorem kb_NoneType_str : kitB "NoneType" "str" = some false := by decide +kernel
theorem kb_NoneType_list : kitB "NoneType" "list" = some false := by decide +kernel
theorem kb_NoneType_tuple : kitB "NoneType" "tuple" = some false := by decide +kernel
theorem kb_NoneType_dict : kitB "NoneType" "dict" = some false := by decide +kernel
theorem kb_bool_int : kitB "bool" "int" = some true := by decide +kernel
theorem kb_bool_bool : kitB "bool" "bool" = some true := by decide +kernel
theorem kb_bool_str : kitB "bool" "str" = some false := by decide +kernel
theorem kb_bool_list : kitB "bool" "list" = some false := by decide +kernel
theorem kb_bool_tuple : kitB "bool" "tuple" = some false := by decide +kernel
theorem kb_bool_dict : kitB "bool" "dict" = some false := by decide +kernel
theorem kb_int_int : kitB "int" "int" = some true := by decide +kernel
theorem kb_int_bool : kitB "int" "bool" = some false := by decide +kernel
theorem kb_int_str : kitB "int" "str" = some false := by decide +kernel
theorem kb_int_list : kitB "int" "list" = some false := by decide +kernel
theorem kb_int_tuple : kitB "int" "tuple" = some false := by decide +kernel
theorem kb_int_dict : kitB "int" "dict" = some false := by decide +kernel
theorem kb_str_int : kitB "str" "int" = some false := by decide +kernel
theorem kb_str_bool : kitB "str" "bool" = some false := by decide +kernel
theorem kb_str_str : kitB "str" "str" = some true := by decide +kernel
theorem kb_str_list : kitB "str" "list" = some false := by decide +kernel
theorem kb_str_tuple : kitB "str" "tuple" = some false := by decide +kernel
theorem kb_str_dict : kitB "str" "dict" = some false := by decide +kernel
theorem kb_list_int : kitB "list" "int" = some false := by decide +kernel
theorem kb_list_bool : kitB "list" "bool" = some false := by decide +kernel
theorem kb_list_str : kitB "list" "str" = some false := by decide +kernel
theorem kb_list_list : kitB "list" "list" = some true := by decide +kernel
theorem kb_list_tuple : kitB "list" "tuple" = some false := by decide +kernel
theorem kb_list_dict : kitB "list" "dict" = some false := by decide +kernel
theorem kb_tuple_int : kitB "tuple" "int" = some false := by decide +kernel
theorem kb_tuple_bool : kitB "tuple" "bool" = some false := by decide +kernel
theorem kb_tuple_str : kitB "tuple" "str" = some false := by decide +kernel
theorem kb_tuple_list : kitB "tuple" "list" = some false := by decide +kernel
theorem kb_tuple_tuple : kitB "tuple" "tuple" = some true := by decide +kernel
theorem kb_tuple_dict : kitB "tuple" "dict" = some false := by decide +kernel
theorem kb_dict_int : kitB "dict" "int" = some false := by decide +kernel
theorem kb_dict_bool : kitB "dict" "bool" = some false := by decide +kernel
theorem kb_dict_str : kitB "dict" "str" = some false := by decide +kernel
theorem kb_dict_list : kitB "dict" "list" = some false := by decide +kernel
theorem kb_dict_tuple : kitB "dict" "tuple" = some false := by decide +kernel
theorem kb_dict_dict : kitB "dict" "dict" = some true := by decide +kernel
theorem rd_isi {K : PySem.W.Frag} {a n : String} {b : Bool} (ty : TyOf K H x (.type a)) (k : kitB a n = some b) (q : Q (.bl b) H) : rIsi K [x, .ty n] H Q := ⟨x, .ty n, .type a, .type n, b, rfl, .ty n, .base ty, kit_ty k, q⟩
theorem pe_globI {X : Cx} {x : Str} {n : Int} {pos : Pos} (hg : Gl X x) (hm : ∃ t, X.mg x = some (.int n t)) (hd : (x == ("__debug__" : Str)) = false := by decide) : PE X (.Name x pos) (tC (.int n)) := by
  obtain ⟨t, e⟩ := hm
  exact pe_glob hg e ⟨t, rfl⟩ hd
theorem if_nf {A B : Prop} (h : A) : if (!false) = true then A else B := iteT h
theorem if_nt {A B : Prop} (h : B) : if (!true) = true then A else B := iteF h
theorem if_nn {A B : Prop} (h : A) : if decide (V.non = V.non) = true then A else B := by rw [decide_eq_true rfl]; exact iteT h
theorem if_nnN {A B : Prop} (h : B) : if (!decide (V.non = V.non)) = true then A else B := by rw [decide_eq_true rfl]; exact iteF h
theorem if_n_int {i : Int} {A B : Prop} (h : B) : if decide (V.int i = V.non) = true then A else B := by rw [decide_eq_false (fun e => nomatch e)]; exact iteF h
theorem if_nN_int {i : Int} {A B : Prop} (h : A) : if (!decide (V.int i = V.non)) = true then A else B := by rw [decide_eq_false (fun e => nomatch e)]; exact iteT h
theorem if_n_bl {b : Bool} {A B : Prop} (h : B) : if decide (V.bl b = V.non) = true then A else B := by rw [decide_eq_false (fun e => nomatch e)]; exact iteF h
theorem if_nN_bl {b : Bool} {A B : Prop} (h : A) : if (!decide (V.bl b = V.non)) = true then A else B := by rw [decide_eq_false (fun e => nomatch e)]; exact iteT h
theorem if_n_str {x : Str} {A B : Prop} (h : B) : if decide (V.str x = V.non) = true then A else B := by rw [decide_eq_false (fun e => nomatch e)]; exact iteF h
theorem if_nN_str {x : Str} {A B : Prop} (h : A) : if (!decide (V.str x = V.non)) = true then A else B := by rw [decide_eq_false (fun e => nomatch e)]; exact iteT h
theorem if_n_ref {a : Addr} {A B : Prop} (h : B) : if decide (V.ref a = V.non) = true then A else B := by rw [decide_eq_false (fun e => nomatch e)]; exact iteF h
theorem if_nN_ref {a : Addr} {A B : Prop} (h : A) : if (!decide (V.ref a = V.non)) = true then A else B := by rw [decide_eq_false (fun e => nomatch e)]; exact iteT h
theorem rd_eqB {i j : Bool} {Q : VK} (h : Q (.bl (decide (V.bl i = V.bl j))) H) : rEq (.bl i) (.bl j) H Q := ⟨rfl, h⟩
theorem rd_neB {i j : Bool} {Q : VK} (h : Q (.bl (!decide (i = j))) H) : rNe (.bl i) (.bl j) H Q := ⟨rfl, by
  have e : decide (V.bl i = V.bl j) = decide (i = j) := by simp
  rw [e]; exact h⟩
theorem rd_eqS {i j : Str} {Q : VK} (h : Q (.bl (decide (V.str i = V.str j))) H) : rEq (.str i) (.str j) H Q := ⟨rfl, h⟩
theorem if_dec {p : Prop} [Decidable p] {A B : Prop} (h1 : p → A) (h2 : ¬ p → B) : if decide p = true then A else B := by
  by_cases c : p
  · rw [if_pos (decide_eq_true c)]; exact h1 c
  · rw [if_neg (fun e => c (of_decide_eq_true e))]; exact h2 c
theorem if_ndec {p : Prop} [Decidable p] {A B : Prop} (h1 : ¬ p → A) (h2 : p → B) : if (!decide p) = true then A else B := by
  by_cases c : p
  · rw [decide_eq_true c]; exact iteF (h2 c)
  · rw [decide_eq_false c]; exact iteT (h1 c)
theorem if_bool {b : Bool} {A B : Prop} (h1 : b = true → A) (h2 : b = false → B) : if b = true then A else B := by
  cases b with
  | true => exact iteT (h1 rfl)
  | false => exact iteF (h2 rfl)
theorem if_nbool {b : Bool} {A B : Prop} (h1 : b = false → A) (h2 : b = true → B) : if (!b) = true then A else B := by
  cases b with
  | true => exact iteF (h2 rfl)
  | false => exact iteT (h1 rfl)
end
/-! ### the store: a list (at S.1) that holds the script's cells (at S.2) and six ints, the only thing that is changed by a draw -/
abbrev Sto := Addr × Addr
def StoreOk (S : Sto) (H : Hp) : Prop := ∃ (cells : List Int) (a b c d e f : Int), S.2 ≠ S.1 ∧ H S.1 = some (.lst [.ref S.2, .int a, .int b, .int c, .int d, .int e, .int f]) ∧ H S.2 = some (.lst (cells.map V.int)) ∧ 0 ≤ a ∧ 0 ≤ e ∧ e < 2147483647 ∧ 0 ≤ f ∧ f < 2147483647
def At (S : Sto) (H : Hp) (p : Addr) (o : HO) : Prop := p ≠ S.1 ∧ H p = some o
def ExS (S : Sto) (H H' : Hp) : Prop := ∀ p o, p ≠ S.1 → H p = some o → H' p = some o
theorem ExS.refl (S : Sto) (H : Hp) : ExS S H H := fun _ _ _ h => h
theorem ExS.trans {S : Sto} {H H1 H2 : Hp} (a : ExS S H H1) (b : ExS S H1 H2) : ExS S H H2 := fun p o n h => b p o n (a p o n h)
theorem ExS.updS {S : Sto} {H : Hp} {o : HO} : ExS S H (upd H S.1 o) := fun p u n h => by rw [upd_ne n]; exact h
theorem ExS.new {S : Sto} {H : Hp} {p : Addr} {o : HO} (h : H p = none) : ExS S H (upd H p o) := fun a u _ e => by rw [upd_ne (ne_of_none e h)]; exact e
theorem ExS.mut {S : Sto} {H H' : Hp} {p : Addr} {o : HO} (e : ExS S H H') (h : H p = none) : ExS S H (upd H' p o) := fun a u n ha => by rw [upd_ne (ne_of_none ha h)]; exact e a u n ha
theorem At.back {S : Sto} {H H' : Hp} {p : Addr} {o : HO} (e : ExS S H H') (h : At S H p o) : At S H' p o := ⟨h.1, e p o h.1 h.2⟩
theorem StoreOk.ne1 {S : Sto} {H : Hp} {p : Addr} (s : StoreOk S H) (h : H p = none) : p ≠ S.1 := by
  obtain ⟨_, _, _, _, _, _, _, _, hs, _⟩ := s
  exact fun e => (by rw [e, hs] at h; cases h)
theorem StoreOk.ne2 {S : Sto} {H : Hp} {p : Addr} (s : StoreOk S H) (h : H p = none) : p ≠ S.2 := by
  obtain ⟨_, _, _, _, _, _, _, _, _, hs, _⟩ := s
  exact fun e => (by rw [e, hs] at h; cases h)
theorem At.new {S : Sto} {H : Hp} {p : Addr} {o : HO} (s : StoreOk S H) (h : H p = none) : At S (upd H p o) p o := ⟨s.ne1 h, upd_same⟩
theorem store_upd {S : Sto} {p : Addr} {H : Hp} {o : HO} (s : StoreOk S H) (n : p ≠ S.1) (n2 : p ≠ S.2) : StoreOk S (upd H p o) := by
  obtain ⟨cells, a, b, c, d, e, f, n', hs, hq, r⟩ := s
  exact ⟨cells, a, b, c, d, e, f, n', by rw [upd_ne (Ne.symm n)]; exact hs, by rw [upd_ne (Ne.symm n2)]; exact hq, r⟩
theorem StoreOk.new {S : Sto} {H : Hp} {p : Addr} {o : HO} (s : StoreOk S H) (h : H p = none) : StoreOk S (upd H p o) := store_upd s (s.ne1 h) (s.ne2 h)
theorem StoreOk.same {S : Sto} {H H' : Hp} (s : StoreOk S H) (e : Same H H') : StoreOk S H' := by
  obtain ⟨cells, a, b, c, d, e', f, n, hs, hq, r⟩ := s
  exact ⟨cells, a, b, c, d, e', f, n, e _ _ hs, e _ _ hq, r⟩
theorem upd_id {H : Hp} {p : Addr} {o : HO} (h : H p = some o) : upd H p o = H := by
  funext b; unfold upd; split
  · rename_i e; rw [e, h]
  · rfl
theorem same_mut {H H' : Hp} {p : Addr} {o : HO} (e : Same H H') (h : H p = none) : Same H (upd H' p o) := fun b x hb => by rw [upd_ne (ne_of_none hb h)]; exact e b x hb
theorem ixN_nat {n : Nat} {i : Int} (h0 : 0 ≤ i) (h1 : i < n) : ixN n i = some i.toNat := by unfold ixN; rw [if_pos h0, if_pos h1]
theorem get_map {α : Type} {xs : List α} {f : α → V} {i : Nat} {x : V} (h : (xs.map f)[i]? = some x) : ∃ n, xs[i]? = some n ∧ x = f n := by
  rw [List.getElem?_map] at h
  cases e : xs[i]? with
  | none => rw [e] at h; cases h
  | some n => rw [e] at h; exact ⟨n, rfl, (Option.some.inj h).symm⟩
theorem flat_ints (ns : List Int) : (ns.map V.int).all flatV = true := by
  rw [List.all_map]; exact List.all_eq_true.mpr fun _ _ => rfl
theorem swap_perm {xs : List V} {i j : Nat} (hi : i < xs.length) (hj : j < xs.length) : ((xs.set i (xs[j]'hj)).set j (xs[i]'hi)).Perm xs := by
  rw [List.perm_iff_count]
  intro a
  rw [List.count_set (by rw [List.length_set]; exact hj), List.count_set hi]
  have hc : ∀ (k : Nat) (hk : k < xs.length), (xs[k] == a) = true → 0 < xs.count a := fun k hk e => List.count_pos_iff.mpr (by rw [← (beq_iff_eq.mp e)]; exact List.getElem_mem hk)
  have h1 := hc i hi
  have h2 := hc j hj
  by_cases e : i = j
  · subst e
    simp only [List.getElem_set_self]
    by_cases q : (xs[i] == a) = true
    · have := h1 q; simp only [q, if_true]; omega
    · simp only [q]; simp
  · rw [List.getElem_set_ne e]
    by_cases q : (xs[i] == a) = true <;> by_cases r : (xs[j] == a) = true <;> simp only [q, r, if_true] <;> simp <;> (try have := h1 q) <;> (try have := h2 r) <;> omega
def InR (n : Int) : Prop := -1000000000000 ≤ n ∧ n ≤ 1000000000000
instance (n : Int) : Decidable (InR n) := by unfold InR; exact inferInstance
def Sc : V → Prop
  | .non => True
  | .bl _ => True
  | .int _ => True
  | .str _ => True
  | _ => False
def isNum : V → Bool
  | .int n => decide (InR n)
  | _ => false
def Bad (v : V) : Prop := (∃ b, v = .bl b) ∨ ∃ n, v = .int n ∧ ¬ InR n
theorem ints_of {ns : List Int} : ∀ {ys : List V}, (∀ y ∈ ys, y ∈ ns.map V.int) → ∃ ms : List Int, ys = ms.map V.int ∧ ∀ m ∈ ms, m ∈ ns
  | [], _ => ⟨[], rfl, fun _ h => by cases h⟩
  | y :: ys, h => by
    obtain ⟨ms, e, hm⟩ := ints_of (ys := ys) fun z hz => h z (List.mem_cons_of_mem _ hz)
    obtain ⟨n, hn, rfl⟩ := List.mem_map.mp (h y List.mem_cons_self)
    refine ⟨n :: ms, by rw [e]; rfl, fun m hm' => ?_⟩
    rcases List.mem_cons.mp hm' with h1 | h1
    · rw [h1]; exact hn
    · exact hm m h1
theorem cut_mem {xs : List V} {lo hi : Option Int} {v : V} (h : v ∈ cutV xs lo hi) : v ∈ xs := by
  unfold cutV at h
  exact List.mem_of_mem_drop (List.mem_of_mem_take h)
theorem cut_to {xs : List V} {k : Nat} : cutV xs none (some (k : Int)) = xs.take k := by
  unfold cutV
  rw [HT.sIx_none, HT.sIx_nat, List.drop_zero, Nat.sub_zero]
  by_cases h : k ≤ xs.length
  · rw [Nat.min_eq_left h]
  · rw [Nat.min_eq_right (by omega), List.take_length, List.take_of_length_le (by omega)]
/-- the same data, to a depth -/
def Alike (H : Hp) : Nat → V → V → Prop
  | 0, x, y => Sc x ∧ x = y
  | n + 1, x, y => (Sc x ∧ x = y) ∨ ∃ (a b : Addr) (xs ys : List V), x = .ref a ∧ y = .ref b ∧ ((H a = some (.lst xs) ∧ H b = some (.lst ys)) ∨ (H a = some (.tup xs) ∧ H b = some (.tup ys))) ∧ xs.length = ys.length ∧ xs.length ≤ 100000 ∧ ∀ (i : Nat) (u v : V), xs[i]? = some u → ys[i]? = some v → Alike H n u v
theorem Alike.same {H H' : Hp} (e : Same H H') : ∀ {n : Nat} {x y : V}, Alike H n x y → Alike H' n x y
  | 0, _, _, h => h
  | n + 1, _, _, h => by
    rcases h with h | ⟨a, b, xs, ys, e1, e2, h, hl, h100, hi⟩
    · exact .inl h
    · refine .inr ⟨a, b, xs, ys, e1, e2, ?_, hl, h100, fun i u v h1 h2 => (hi i u v h1 h2).same e⟩
      rcases h with ⟨h1, h2⟩ | ⟨h1, h2⟩
      · exact .inl ⟨e _ _ h1, e _ _ h2⟩
      · exact .inr ⟨e _ _ h1, e _ _ h2⟩
theorem rd_isiL {H : Hp} {Q : VK} {K : PySem.W.Frag} {p : Addr} {xs : List V} {n : String} {b : Bool} (h : H p = some (.lst xs)) (k : kitB "list" n = some b) (q : Q (.bl b) H) : rIsi K [.ref p, .ty n] H Q := rd_isi (.lst h) k q
theorem rd_isiT {H : Hp} {Q : VK} {K : PySem.W.Frag} {p : Addr} {xs : List V} {n : String} {b : Bool} (h : H p = some (.tup xs)) (k : kitB "tuple" n = some b) (q : Q (.bl b) H) : rIsi K [.ref p, .ty n] H Q := rd_isi (.tup h) k q
theorem rd_isiLT {H : Hp} {x : V} {Q : VK} {K : PySem.W.Frag} {tp : Addr} {b : Bool} {a : String} (h : H tp = some (.tup [.ty "list", .ty "tuple"])) (ty : TyOf K H x (.type a)) (k : PySem.W.kitAny K (.type a) [.type "list", .type "tuple"] = some b) (q : Q (.bl b) H) : rIsiT K [x, .ref tp] H Q :=
  ⟨x, tp, _, .type a, _, b, rfl, h, .cons (.ty _) (.cons (.ty _) .nil), .base ty, k, q⟩
theorem ka_list {K : PySem.W.Frag} : PySem.W.kitAny K (.type "list") [.type "list", .type "tuple"] = some true := kitAny_cons (kit_ty kb_list_list) (fun h => by cases h) (fun _ => rfl)
theorem ka_tuple {K : PySem.W.Frag} : PySem.W.kitAny K (.type "tuple") [.type "list", .type "tuple"] = some true := kitAny_cons (kit_ty kb_tuple_list) (fun _ => kitAny_cons (kit_ty kb_tuple_tuple) (fun h => by cases h) (fun _ => rfl)) (fun h => by cases h)
theorem decTF : decide (true = true) = true := rfl
theorem rd_ixQL {K : PySem.W.Frag} {H : Hp} {p : Addr} {xs : List V} {i : Int} {v : V} {Q : VK} (h : H p = some (.lst xs)) (e : atI xs i = some v) (q : Q v H) : rIx K (.ref p) (.int i) H Q := .inl (rd_ixL h e q)
theorem rd_ixQT {K : PySem.W.Frag} {H : Hp} {p : Addr} {xs : List V} {i : Int} {v : V} {Q : VK} (h : H p = some (.tup xs)) (e : atI xs i = some v) (q : Q v H) : rIx K (.ref p) (.int i) H Q := .inr (.inl ⟨p, xs, i, v, rfl, rfl, .inl (.inl h), e, q⟩)
theorem same_ex {S : Sto} {H H' : Hp} (e : Same H H') : ExS S H H' := fun p o _ h => e p o h
theorem same_new {H : Hp} {p : Addr} {o : HO} (h : H p = none) : Same H (upd H p o) := fun b x e => by rw [upd_ne (ne_of_none e h)]; exact e
theorem sz {n : Nat} (h : n ≤ 100000) : n ≤ sizeLine := Nat.le_trans h (by decide)
theorem sl_of {K : PySem.W.Frag} {H : Hp} {a : Addr} {xs : List V} (h : H a = some (.lst xs)) : SqL K H a xs := .inl (.inl h)
theorem st_of {K : PySem.W.Frag} {H : Hp} {a : Addr} {xs : List V} (h : H a = some (.tup xs)) : SqT K H a xs := .inl (.inl h)

/-! ### min and max of a list of ints with default= -/
def rMinD (K : PySem.W.Frag) : List V → List V → Hp → VK → Prop := fun vs zs H Q => ∃ (a : Addr) (ns : List Int) (d : V), vs = [.ref a] ∧ zs = [d] ∧ SqL K H a (ns.map V.int) ∧ (ns = [] → Q d H) ∧ ∀ m, m ∈ ns → (∀ y ∈ ns, m ≤ y) → Q (.int m) H
def rMaxD (K : PySem.W.Frag) : List V → List V → Hp → VK → Prop := fun vs zs H Q => ∃ (a : Addr) (ns : List Int) (d : V), vs = [.ref a] ∧ zs = [d] ∧ SqL K H a (ns.map V.int) ∧ (ns = [] → Q d H) ∧ ∀ m, m ∈ ns → (∀ y ∈ ns, y ≤ m) → Q (.int m) H
theorem minOf_int : ∀ (xs : List Int) (x : Int), PySem.W.minOf x xs ∈ x :: xs ∧ ∀ y ∈ x :: xs, PySem.W.minOf x xs ≤ y
  | [], x => ⟨List.mem_cons_self, fun y h => by rw [List.mem_singleton.mp h]; exact Int.le_refl x⟩
  | z :: xs, x => by
    have e : PySem.W.minOf x (z :: xs) = PySem.W.minOf (if z < x then z else x) xs := by
      show List.foldl _ _ xs = List.foldl _ _ xs
      congr 1
      show (if decide (z < x) = true then z else x) = _
      by_cases h : z < x <;> simp [h]
    rw [e]
    obtain ⟨h1, h2⟩ := minOf_int xs (if z < x then z else x)
    by_cases h : z < x
    · rw [if_pos h] at h1 h2 ⊢
      refine ⟨List.mem_cons_of_mem _ h1, fun y hy => ?_⟩
      rcases List.mem_cons.mp hy with rfl | hy
      · exact Int.le_trans (h2 _ List.mem_cons_self) (Int.le_of_lt h)
      · exact h2 _ hy
    · rw [if_neg h] at h1 h2 ⊢
      refine ⟨?_, fun y hy => ?_⟩
      · rcases List.mem_cons.mp h1 with q | q
        · rw [q]; exact List.mem_cons_self
        · exact List.mem_cons_of_mem _ (List.mem_cons_of_mem _ q)
      · rcases List.mem_cons.mp hy with rfl | hy
        · exact h2 _ List.mem_cons_self
        · rcases List.mem_cons.mp hy with rfl | hy
          · exact Int.le_trans (h2 _ List.mem_cons_self) (by omega)
          · exact h2 _ (List.mem_cons_of_mem _ hy)
theorem maxOf_int : ∀ (xs : List Int) (x : Int), PySem.W.maxOf x xs ∈ x :: xs ∧ ∀ y ∈ x :: xs, y ≤ PySem.W.maxOf x xs
  | [], x => ⟨List.mem_cons_self, fun y h => by rw [List.mem_singleton.mp h]; exact Int.le_refl x⟩
  | z :: xs, x => by
    have e : PySem.W.maxOf x (z :: xs) = PySem.W.maxOf (if x < z then z else x) xs := by
      show List.foldl _ _ xs = List.foldl _ _ xs
      congr 1
      show (if decide (x < z) = true then z else x) = _
      by_cases h : x < z <;> simp [h]
    rw [e]
    obtain ⟨h1, h2⟩ := maxOf_int xs (if x < z then z else x)
    by_cases h : x < z
    · rw [if_pos h] at h1 h2 ⊢
      refine ⟨List.mem_cons_of_mem _ h1, fun y hy => ?_⟩
      rcases List.mem_cons.mp hy with rfl | hy
      · exact Int.le_trans (Int.le_of_lt h) (h2 _ List.mem_cons_self)
      · exact h2 _ hy
    · rw [if_neg h] at h1 h2 ⊢
      refine ⟨?_, fun y hy => ?_⟩
      · rcases List.mem_cons.mp h1 with q | q
        · rw [q]; exact List.mem_cons_self
        · exact List.mem_cons_of_mem _ (List.mem_cons_of_mem _ q)
      · rcases List.mem_cons.mp hy with rfl | hy
        · exact h2 _ List.mem_cons_self
        · rcases List.mem_cons.mp hy with rfl | hy
          · exact Int.le_trans (by omega) (h2 _ List.mem_cons_self)
          · exact h2 _ (List.mem_cons_of_mem _ hy)
theorem holds_int {h : Heap} {v : Value} {n : Int} (H : PySem.W.Holds h v n) : ∃ t, v = .int n t := by
  obtain ⟨as, r⟩ := H
  cases r
  exact ⟨_, rfl⟩
theorem hold_all {h : Heap} : ∀ {ns : List Int} {its : List Value}, Vals (ns.map V.int) its → PySem.W.HoldAll h its ns
  | [], _, .nil => PySem.W.HoldAll.nil
  | n :: ns, _, .cons r rs => by
    obtain ⟨t, rfl⟩ := r
    exact .cons ⟨_, .int n t⟩ (hold_all rs)
section
variable {X : Cx}
theorem cr_minD (hc : X.calm = true) (hu : X.A.units + 64 < cLine) : CallRK X (.builtin "min") [Str.ofString "default"] (rMinD X.K) := by
  intro pins s σ H vs zs us ws Q I r rz h
  obtain ⟨a, ns, d, rfl, rfl, hs, h0, h⟩ := h
  obtain rfl := Vals.ref1 r
  obtain ⟨w1, rfl, e1⟩ := vals1 rz
  obtain ⟨its, rv, hl, hz⟩ := I.list hs
  refine PySem.W.min_list_datum_default (I.ok.hd hc) hl.isList (hold_all rv) (by show X.A.units + 1 + 0 < cLine; omega) (fun e h' tk k => ?_) (fun y ys i v h' tk e hi hv k => ?_)
  · exact ⟨d, H, I.kept k, e1, h0 e⟩
  · obtain ⟨t, rfl⟩ := holds_int hv
    obtain ⟨m1, m2⟩ := minOf_int ys y
    subst e
    exact ⟨.int _, H, I.kept k, ⟨t, rfl⟩, h _ m1 m2⟩
theorem cr_maxD (hc : X.calm = true) (hu : X.A.units + 64 < cLine) : CallRK X (.builtin "max") [Str.ofString "default"] (rMaxD X.K) := by
  intro pins s σ H vs zs us ws Q I r rz h
  obtain ⟨a, ns, d, rfl, rfl, hs, h0, h⟩ := h
  obtain rfl := Vals.ref1 r
  obtain ⟨w1, rfl, e1⟩ := vals1 rz
  obtain ⟨its, rv, hl, hz⟩ := I.list hs
  refine PySem.W.max_list_datum_default (I.ok.hd hc) hl.isList (hold_all rv) (by show X.A.units + 1 + 0 < cLine; omega) (fun e h' tk k => ?_) (fun y ys i v h' tk e hi hv k => ?_)
  · exact ⟨d, H, I.kept k, e1, h0 e⟩
  · obtain ⟨t, rfl⟩ := holds_int hv
    obtain ⟨m1, m2⟩ := maxOf_int ys y
    subst e
    exact ⟨.int _, H, I.kept k, ⟨t, rfl⟩, h _ m1 m2⟩
/-! ### isinstance of a caught error that has its own dict -/
def rIsX (K : PySem.W.Frag) (cls : Value) (d : Option Addr) (a : Addr) : List V → Hp → VK → Prop := fun xs H Q => ∃ (D dd : Addr) (fs : List (Str × V)) (c : V) (cv : Value) (b : Bool), cls = .ref D ∧ d = some dd ∧ H dd = some (.xd fs) ∧ ExcC K D ∧ xs = [.ref a, c] ∧ (∀ u, RelV c u → u = cv) ∧ PySem.W.kitOne K (.ref D) cv = some b ∧ Q (.bl b) H
def rIsXT (K : PySem.W.Frag) (cls : Value) (d : Option Addr) (a : Addr) : List V → Hp → VK → Prop := fun xs H Q => ∃ (D dd : Addr) (fs : List (Str × V)) (tp : Addr) (cs : List V) (us : List Value) (b : Bool), cls = .ref D ∧ d = some dd ∧ H dd = some (.xd fs) ∧ ExcC K D ∧ xs = [.ref a, .ref tp] ∧ H tp = some (.tup cs) ∧ Paired ClsV cs us ∧ PySem.W.kitAny K (.ref D) us = some b ∧ Q (.bl b) H
theorem inst_exc {a D dd : Addr} {oe : Obj} {pn pins : List (Addr × Obj)} {s : Shared} {σ : L2.St} {H : Hp} {fs : List (Str × V)} (hz : Zc (.ref D) (some dd) oe) (hf : ∃ vs, oe.data = .fields vs) (I : Inv (X.suite a ((a, oe) :: pn)) pins σ H s) (hd : H dd = some (.xd fs)) :
    ∃ od, PySem.W.InstAt s.heap a oe D (some od) := by
  obtain ⟨hget, _⟩ := I.pin (a, oe) (List.mem_append.mpr (.inl List.mem_cons_self))
  obtain ⟨vs, hv⟩ := hf
  obtain ⟨mA, hns, hr⟩ := (show ObjOk X.prog X.w H s.heap dd (.xd fs) from I.hok dd _ hd)
  obtain ⟨od, ho, hl⟩ := lookIn_ns hns
  exact ⟨od, hget, hz.1, by unfold PySem.W.notCls; rw [hv] <;> rfl, by rw [hz.2]; exact ho⟩
theorem kit_exc {K : PySem.W.Frag} {D a : Addr} {oe : Obj} {od : Option Obj} (C : ExcC K D) : PySem.W.KitX K (.ref a) (.ref D) (fun h => PySem.W.InstAt h a oe D od) :=
  PySem.W.kitx_exc (by obtain ⟨cd, hc, _⟩ := PySem.W.any_some C.hd; rw [hc]; rfl) C.hg C.hk C.hs C.ha C.hn C.ht C.hm
theorem call_isX {K : PySem.W.Frag} {cls : Value} {d : Option Addr} {a : Addr} {oe : Obj} {pn : List (Addr × Obj)} (hK : X.K = K) (hz : Zc cls d oe) (hf : ∃ vs, oe.data = .fields vs) : CallR (X.suite a ((a, oe) :: pn)) (.builtin "isinstance") (rIsX K cls d a) := by
  intro pins s σ H xs us Q I r h
  obtain ⟨D, dd, fs, c, cv, b, rfl, rfl, hd, C, rfl, hcv, e, q⟩ := h
  subst hK
  obtain ⟨u1, u2, rfl, r1, r2⟩ := vals2 r
  obtain rfl : u1 = Value.ref a := r1
  obtain rfl := hcv _ r2
  obtain ⟨od, J⟩ := inst_exc hz hf I hd
  exact PySem.W.kia_one (kit_exc C) I.kIn J e (fun z => nomatch z) fun tk => ⟨.bl b, H, I.kept (t' := tk) fun _ _ z => z, rfl, q⟩
theorem call_isXT {K : PySem.W.Frag} {cls : Value} {d : Option Addr} {a : Addr} {oe : Obj} {pn : List (Addr × Obj)} (hK : X.K = K) (hz : Zc cls d oe) (hf : ∃ vs, oe.data = .fields vs) : CallR (X.suite a ((a, oe) :: pn)) (.builtin "isinstance") (rIsXT K cls d a) := by
  intro pins s σ H xs us Q I r h
  obtain ⟨D, dd, fs, tp, cs, ws, b, rfl, rfl, hd, C, rfl, hT, hp, e, q⟩ := h
  subst hK
  obtain ⟨u1, u2, rfl, r1, r2⟩ := vals2 r
  obtain rfl : u1 = Value.ref a := r1
  cases (show u2 = Value.ref tp from r2)
  obtain ⟨od, J⟩ := inst_exc hz hf I hd
  obtain ⟨_, its, rv, o, h1, h2, n, h3⟩ := (show ObjOk X.prog X.w H s.heap tp (.tup cs) from I.hok tp _ hT)
  have e3 := ClsV.all hp rv
  subst e3
  obtain ⟨oc, ood, dt, sl⟩ := o
  simp only at h2 h3
  subst h2 h3
  exact PySem.W.kia_tup (kit_exc C) I.kIn J h1 e (fun z => nomatch z) fun tk => ⟨.bl b, H, I.kept (t' := tk) fun _ _ z => z, rfl, q⟩
end
/-! ### an own error with one field -/
def spInit1 (K : PySem.W.Frag) (fld : Str) : Sp := fun vs H Q _ => ∃ (a C : Addr) (v : V), vs = [.ref a, v] ∧ OexC K C ∧ PySem.W.findIn K (.ref C) fld = some none ∧ H a = some (exo a C none) ∧ ∀ dx, H dx = none → dx ≠ a → Q .non (upd (upd H dx (exd dx [(fld, v)])) a (exo a C (some dx)))
theorem same_made {H1 : Hp} {a dx C : Addr} {fs : List (Str × V)} {e0 : HO} (na : H1 a = none) (nd : H1 dx = none) (ne : dx ≠ a) : Same H1 (upd (del (upd (upd (upd H1 a e0) dx (exd dx fs)) a (exo a C (some dx))) a) dx (.xd fs)) := fun b o hb => by
  have h1 := ne_of_none hb na
  have h2 := ne_of_none hb nd
  rw [upd_ne h2, del_ne h1, upd_ne h1, upd_ne h2, upd_ne h1]
  exact hb
/-- C(v)'s reading, from what is asked of the new error -/
theorem rd_mk1 {K : PySem.W.Frag} {C : Addr} {fld : Str} {v : V} {H1 : Hp} {W : XK} (T : OexC K C) (nf : PySem.W.findIn K (.ref C) fld = some none) (h : ∀ d H', H1 d = none → Same H1 H' → H' d = some (.xd [(fld, v)]) → W (.ref C) (some d) H') :
    [v].length ≤ 1000 ∧ ∀ a, H1 a = none → spInit1 K fld (.ref a :: ([v] ++ [])) (upd H1 a (exo a C none))
      (fun v H2 => v = .non ∧ ∃ (d : Addr) (fs : List (Str × V)), H2 a = some (exo a C (some d)) ∧ H2 d = some (exd d fs) ∧ H1 d = none ∧ W (.ref C) (some d) (upd (del H2 a) d (.xd fs))) (fun _ _ _ => False) := by
  refine ⟨by simp, fun a na => ⟨a, C, v, rfl, T, nf, upd_same, fun dx ndx ne => ?_⟩⟩
  have nd : H1 dx = none := by rw [upd_ne ne] at ndx; exact ndx
  exact ⟨rfl, dx, [(fld, v)], upd_same, by rw [upd_ne ne]; exact upd_same, nd, h dx _ nd (same_made na nd ne) upd_same⟩
structure HasI (P : Program) (w : World) (K : PySem.W.Frag) (mg : Str → Option Value) (base : Heap) (C : Addr) (k : Nat) (ps : List Str) (sp : Sp) : Prop where
  ex : ∃ fI fd, FnOk P w K mg base CX0 k fI fd ps sp ∧ PySem.W.findIn K (.ref C) "__init__" = some (some (.ref fI)) ∧ PySem.W.typeIn K (.ref fI) = some (.type "function") ∧ Binds K fd ps []
structure ErrC (K : PySem.W.Frag) (mg : Str → Option Value) (x : Str) (C : Addr) : Prop where
  gC : mg x = some (.ref C)
  ox : OexC K C
  xf : XfC K C
  ec : ExcC K C
  self : PySem.W.exmOne K (.ref C) (.ref C) = some true
/-- raise C(e, ..) -/
theorem ps_raiseC {X : Cx} {x : Str} {C : Addr} {k j : Nat} {ps : List Str} {sp : Sp} {e : Expr} {es : List Expr} {ta : TA} {W : WX} {p pos pos2 : Pos} (hc : X.calm = true) (tk : Takes X W) (E : ErrC X.K X.mg x C) (I : HasI X.prog X.w X.K X.mg X.base C j ps sp) (hr : Room k X.A) (hj : j + 1 ≤ k) (hg : Gl X x) (ha : PA X (e :: es) ta)
    (hdb : (x == ("__debug__" : Str)) = false := by decide) (he : starEach (e :: es) X.env = (false, eval e X.env) :: starEach es X.env := by rfl) (hpl : (backTo pos (starEach es X.env)).any (·.1) = false := by rfl) :
    PS X (.Raise (some (.Call (.Name x p) (e :: es) [] pos)) none pos2) (fun _ σ H => tMkO C sp [] ta σ H fun cls d H' => W cls d σ H') := by
  obtain ⟨fI, fd, F1, iC, tI, hb⟩ := I.ex
  exact ps_raise hc tk (pmk_oex E.ox iC tI F1 (hr.mono hj) hb .nil pass0 hg E.gC ha hdb he hpl)
theorem rd_mkO {C : Addr} {sp : Sp} {ta : TA} {σ : L2.St} {H : Hp} {Q : XK} (h : ta σ H fun vs H1 => vs.length ≤ 1000 ∧ ∀ a, H1 a = none → sp (.ref a :: (vs ++ [])) (upd H1 a (exo a C none))
  (fun v H2 => v = .non ∧ ∃ (d : Addr) (fs : List (Str × V)), H2 a = some (exo a C (some d)) ∧ H2 d = some (exd d fs) ∧ H1 d = none ∧ Q (.ref C) (some d) (upd (del H2 a) d (.xd fs))) (fun _ _ _ => False)) : tMkO C sp [] ta σ H Q := h
theorem rd_ckw {r : List V → List V → Hp → VK → Prop} {t tk : TA} {σ : L2.St} {H : Hp} {Q : VK} (h : t σ H fun vs H1 => tk σ H1 fun zs H2 => r vs zs H2 Q) : tCKw r t tk σ H Q := h
theorem rd_xf {a C : Addr} {cls : Value} {d : Option Addr} {f : Str} {te : TE} {σ : L2.St} {H : Hp} {Q : VK} (h : te σ H fun x H1 => x = .ref a ∧ cls = .ref C ∧ ∃ (dd : Addr) (fs : List (Str × V)) (v : V), d = some dd ∧ H1 dd = some (.xd fs) ∧ fs.lookup f = some v ∧ Q v H1) : tXf a cls d C f te σ H Q := h
theorem rd_iTup {K : PySem.W.Frag} {te : TE} {σ : L2.St} {H : Hp} {R : It → Hp → Prop} (h : te σ H fun x H1 => ∃ a, x = .ref a ∧ (∃ xs, SqT K H1 a xs) ∧ R (Itt K a) H1) : iTup K te σ H R := h
theorem rd_lc {wi : TI} {g : TG} {tt : TT} {te : TE} {vs : List Nat} {σ : L2.St} {H : Hp} {Q : VK} (h : wi σ H fun J H1 => ∀ D, H1 D = none → ∃ W : Nat → Nat → Hp → Prop, (∃ m, W 0 m (upd H1 D (.lst []))) ∧ ∀ i m H, W i m H →
  (J.stop i H ∧ Q (.ref D) H) ∨ (J.go i H ∧ ∃ Nx : Hp → Prop, (∀ H', Nx H' → ∃ m', m' < m ∧ W (i + 1) m' H') ∧ ∀ x H', J.yld i H x H' → g x (wipe σ vs) H' fun σ2 H2 => wipe σ2 vs = wipe σ vs ∧ tt σ2 H2 fun b H3 =>
    if b = true then te σ2 H3 fun y H4 => ∃ acc, H4 D = some (.lst acc) ∧ acc.length < sizeLine ∧ Nx (upd H4 D (.lst (acc ++ [y]))) else Nx H3)) : tLc wi g tt te vs σ H Q := h
/-! ### defs that raise -/
structure HasX (P : Program) (w : World) (K : PySem.W.Frag) (mg : Str → Option Value) (base : Heap) (x : Str) (k : Nat) (ps : List Str) (sp : Sp) : Prop where
  ex : ∃ f fd, FnOk P w K mg base (L2.CX P w) k f fd ps sp ∧ mg x = some (.ref f) ∧ PySem.W.keepIn K (.ref f) = true ∧ Binds K fd ps []
theorem HasX.mono {P : Program} {w : World} {K : PySem.W.Frag} {mg : Str → Option Value} {base : Heap} {x : Str} {j k : Nat} {ps : List Str} {sp : Sp} (h : HasX P w K mg base x j ps sp) (l : j ≤ k) : HasX P w K mg base x k ps sp := by
  obtain ⟨f, fd, F, r⟩ := h.ex
  exact ⟨f, fd, F.mono l, r⟩
/-- called with keywords alone: g puts the keywords' values (named ks) in the parameters' order -/
structure HasK (P : Program) (w : World) (K : PySem.W.Frag) (mg : Str → Option Value) (base : Heap) (CX : CXT) (x : Str) (k : Nat) (ps ks : List Str) (g : {α : Type} → List α → List α) (sp : Sp) : Prop where
  ex : ∃ f fd, FnOk P w K mg base CX k f fd ps sp ∧ mg x = some (.ref f) ∧ PySem.W.keepIn K (.ref f) = true ∧ (∀ (s : Shared) (ws : List Value), ws.length = ks.length → BindsTo s fd ⟨[], ks.zip ws⟩ (ps.zip (g ws))) ∧ (∀ (vs : List V) (ws : List Value), vs.length = ks.length → Vals vs ws → Vals (g vs) (g ws))
theorem HasK.mono {P : Program} {w : World} {K : PySem.W.Frag} {mg : Str → Option Value} {base : Heap} {CX : CXT} {x : Str} {j k : Nat} {ps ks : List Str} {g : {α : Type} → List α → List α} {sp : Sp} (h : HasK P w K mg base CX x j ps ks g sp) (l : j ≤ k) : HasK P w K mg base CX x k ps ks g sp := by
  obtain ⟨f, fd, F, r⟩ := h.ex
  exact ⟨f, fd, F.mono l, r⟩
def tCallKS (sp : Sp) (n : Nat) (g : List V → List V) (E : L2.St → XK) (tk : TA) : TE := fun σ H Q => tk σ H fun zs H1 => zs.length = n ∧ sp (g zs) H1 Q (E σ)
section
variable {X : Cx} {x : Str} {k : Nat} {ps ks : List Str} {sp : Sp} {e : Expr} {es : List Expr} {t tk : TA} {p pos : Pos} {W : WX} {kws : List Keyword} {CX : CXT}
/-- a call within a try, or in a def that lets errors out -/
theorem pe_callX (h : HasX X.prog X.w X.K X.mg X.base x k ps sp) (hr : Room k X.A) (hg : Gl X x) (tk : Takes X W) (ha : PA X (e :: es) t)
    (hdb : (x == ("__debug__" : Str)) = false := by decide) (he : starEach (e :: es) X.env = (false, eval e X.env) :: starEach es X.env := by rfl) (hpl : (backTo pos (starEach es X.env)).any (·.1) = false := by rfl) :
    PE X (.Call (.Name x p) (e :: es) [] pos) (tCallS sp (WE W) t) := by
  obtain ⟨f, fd, F, hm, hk, hb⟩ := h.ex
  exact pe_callS F hr hg hm hk hb (fun σ => passAt tk σ) ha hdb he hpl
theorem pe_callKS {g : {α : Type} → List α → List α} {E : L2.St → XK} (h : HasK X.prog X.w X.K X.mg X.base CX x k ps ks g sp) (hr : Room k X.A) (hg : Gl X x) (hx : ∀ σ, PassesAt CX X σ (E σ)) (hkw : PK X kws tk)
    (hall : (backToKw pos (keywordEach kws X.env)).all (·.1.isSome) = true := by rfl) (hks : (backToKw pos (keywordEach kws X.env)).filterMap (·.1) = ks := by rfl) (hdb : (x == ("__debug__" : Str)) = false := by decide)
    (hpl : ((backTo pos (starEach [] X.env)).any (·.1) || (backToKw pos (keywordEach kws X.env)).any (·.1.isNone)) = false := by rfl) :
    PE X (.Call (.Name x p) [] kws pos) (tCallKS sp ks.length g E tk) := by
  obtain ⟨f, fd, F, hm, hk, hb, hrel⟩ := h.ex
  refine ⟨fun pins s σ H Q I h => ?_⟩
  refine wpAny_Call_Name_kw (ld_glob I hg hm ?_ hdb)
  refine PySem.W.callWith_KW0 (h₀ := X.base) I.ok.mod.kin hk hall ?_ hpl
  refine thn (hkw.run pos pins s σ H _ I h) fun ws s2 ⟨zs, H2, I2, rz, l2, q2⟩ => ⟨I2.kIn, ?_⟩
  rw [hks]
  have r2 := hrel zs ws l2 rz
  refine wpAny_call (codeAny_mono (F.run X.A X.stack s2 H2 ⟨[], ks.zip ws⟩ (g ws) (g zs) Q (E σ) hr I2.env0 (hb s2 ws (rz.length.symm.trans l2)) r2 q2) fun r s' hq => ?_)
  cases r with
  | error e => exact hx σ pins H2 s2 e s' I2 hq
  | ok fl =>
    cases fl with
    | ret u => exact I2.after hq
    | next => exact False.elim hq
    | brk => exact False.elim hq
    | cont => exact False.elim hq
theorem pass0S : ∀ σ, PassesAt CX0 X σ (fun _ _ _ => False) := fun _ _ _ _ _ _ _ h => h.elim
theorem rd_callS {σ : L2.St} {H : Hp} {E : L2.St → XK} {tA : TA} {Q : VK} (h : tA σ H fun vs H1 => sp vs H1 Q (E σ)) : tCallS sp E tA σ H Q := h
theorem rd_callKS {n : Nat} {g : List V → List V} {σ : L2.St} {H : Hp} {E : L2.St → XK} {tA : TA} {Q : VK} (h : tA σ H fun zs H1 => zs.length = n ∧ sp (g zs) H1 Q (E σ)) : tCallKS sp n g E tA σ H Q := h
end

/-! ### texts -/
theorem rd_ss {a b : Str} {R : Str → Str → Prop} (h : R a b) : ∃ i j, V.str a = .str i ∧ V.str b = .str j ∧ R i j := ⟨a, b, rfl, rfl, h⟩
theorem rd_s1 {a : Str} {R : Str → Prop} (h : R a) : ∃ z, [V.str a] = [V.str z] ∧ R z := ⟨a, rfl, h⟩
theorem rd_i1 {a : Int} {R : Int → Prop} (h : R a) : ∃ z, [V.int a] = [V.int z] ∧ R z := ⟨a, rfl, h⟩
theorem rd_ixS {z : Str} {i : Int} {c : Nat} {H : Hp} {Q : VK} (hz : z.length ≤ 100000) (e : atI z.cps.toList i = some c) (q : Q (.str ⟨#[c]⟩) H) : rIxS (.str z) (.int i) H Q := ⟨z, i, c, rfl, rfl, sz hz, e, q⟩
theorem rd_inS {c : Nat} {z : Str} {R : Nat → Str → Prop} (h : R c z) : ∃ (c' : Nat) (z' : Str), V.str ⟨#[c]⟩ = V.str ⟨#[c']⟩ ∧ V.str z = V.str z' ∧ R c' z' := ⟨c, z, rfl, rfl, h⟩
theorem rd_slS {z : Str} {lo hi : Option Int} {H : Hp} {Q : VK} (hz : z.length ≤ 100000) (q : Q (.str (cutS z lo hi)) H) : rSlS (.str z) lo hi H Q := ⟨z, rfl, sz hz, q⟩
theorem atI_nats {l : List Nat} {i : Int} (h0 : 0 ≤ i) (h1 : i < l.length) : ∃ c, c ∈ l ∧ l[i.toNat]? = some c ∧ atI l i = some c := by
  have hb : i.toNat < l.length := by omega
  refine ⟨l[i.toNat], List.getElem_mem hb, by simp [hb], ?_⟩
  unfold atI ixN
  rw [if_pos h0, if_pos h1]
  simp [hb]
theorem len_l (s : Str) : s.cps.toList.length = s.length := Array.length_toList
theorem app_l (a b : Str) : (a ++ b).cps.toList = a.cps.toList ++ b.cps.toList := by rw [Str.cps_append, Array.toList_append]
theorem app_len (a b : Str) : (a ++ b).length = a.length + b.length := by rw [← len_l, app_l, List.length_append, len_l, len_l]
theorem str_ext {a b : Str} (h : a.cps.toList = b.cps.toList) : a = b := PyProof.Rows.ext_toList h
theorem one_len (c : Nat) : (⟨#[c]⟩ : Str).length = 1 := rfl
theorem one_l (c : Nat) : (⟨#[c]⟩ : Str).cps.toList = [c] := rfl
theorem cutS_len (z : Str) (lo hi : Option Int) : (cutS z lo hi).length ≤ z.length := by
  rw [← len_l, ← len_l]
  show ((z.cps.toList.drop _).take _).toArray.toList.length ≤ _
  rw [List.toList_toArray, List.length_take, List.length_drop]
  omega
theorem cutS_to (z : Str) (k : Nat) : (cutS z none (some (k : Int))).cps.toList = z.cps.toList.take k := by
  show ((z.cps.toList.drop _).take _).toArray.toList = _
  rw [List.toList_toArray, HT.sIx_none, HT.sIx_nat, List.drop_zero, Nat.sub_zero]
  by_cases h : k ≤ z.length
  · rw [Nat.min_eq_left h]
  · rw [Nat.min_eq_right (by omega), ← len_l, List.take_length, List.take_of_length_le (by rw [len_l]; omega)]
/-! the decimal text of a number -/
def numS (n : Nat) : Str := Str.ofString (toString (n : Int))
theorem numS_l (n : Nat) : (numS n).cps.toList = TL.numL n := TL.tl_num n
theorem numS_inj {m n : Nat} (h : numS m = numS n) : m = n := TL.numL_inj (by rw [← numS_l, ← numS_l, h])
theorem numS_len {n : Nat} (h : n < 100000) : (numS n).length ≤ 5 := by
  rw [← len_l, numS_l]
  exact TL.numL_len (by omega) (by omega)
theorem app_num_inj {s : Str} {m n : Nat} (h : s ++ numS m = s ++ numS n) : m = n := by
  have e := congrArg (fun z : Str => z.cps.toList) h
  simp only [app_l] at e
  exact numS_inj (str_ext (List.append_cancel_left e))
/-! the least free number -/
theorem nodup_le {α : Type} [DecidableEq α] : ∀ {xs ys : List α}, xs.Nodup → (∀ x ∈ xs, x ∈ ys) → xs.length ≤ ys.length
  | [], _, _, _ => Nat.zero_le _
  | x :: xs, ys, hn, hs => by
    obtain ⟨h1, h2⟩ := List.nodup_cons.mp hn
    have hx := hs x List.mem_cons_self
    have := nodup_le (ys := ys.erase x) h2 fun z hz => by
      have ne : z ≠ x := fun e => h1 (e ▸ hz)
      exact (List.mem_erase_of_ne ne).mpr (hs z (List.mem_cons_of_mem _ hz))
    rw [List.length_erase_of_mem hx] at this
    have : 0 < ys.length := List.length_pos_of_mem hx
    simp only [List.length_cons]
    omega
theorem free_le {s : Str} {names : List Str} {n : Nat} (h : ∀ m, m < n → s ++ numS m ∈ names) : n ≤ names.length := by
  have := nodup_le (xs := (List.range n).map fun m => s ++ numS m) (ys := names) ?_ ?_
  · simpa using this
  · rw [List.nodup_iff_pairwise_ne, List.pairwise_map]
    exact List.nodup_range.imp fun hne e => hne (app_num_inj e)
  · intro z hz
    obtain ⟨m, hm, rfl⟩ := List.mem_map.mp hz
    exact h m (List.mem_range.mp hm)
/-- n is the least number that makes none of the names -/
def Least (s : Str) (names : List Str) (n : Nat) : Prop := (∀ m, m < n → s ++ numS m ∈ names) ∧ s ++ numS n ∉ names
theorem Least.unique {s : Str} {names : List Str} {m n : Nat} (h1 : Least s names m) (h2 : Least s names n) : m = n := by
  rcases Nat.lt_trichotomy m n with h | h | h
  · exact absurd (h2.1 m h) h1.2
  · exact h
  · exact absurd (h1.1 n h) h2.2
/-! names -/
def lets : Str := "abcdefghijklmnopqrstuvwxyz"
def letsD : Str := "abcdefghijklmnopqrstuvwxyz0123456789"
def isNmL : List Nat → Bool
  | [] => false
  | c :: l => decide ((c :: l).length ≤ 8) && decide (c ∈ lets.cps.toList) && (c :: l).all fun d => decide (d ∈ letsD.cps.toList)
def isNm (s : Str) : Bool := isNmL s.cps.toList
theorem eqv_strs (xs : List Str) : PyData.eqv (.list (xs.map PyData.str)) (.list (xs.map PyData.str)) = true := by
  show PyData.eqvAll _ _ = true
  induction xs with
  | nil => rfl
  | cons x xs ih => rw [List.map_cons]; simp only [PyData.eqvAll, PyData.eqv, ih]; simp
theorem inV_strs {x : Str} : ∀ {xs : List Str}, inV (.str x) (xs.map V.str) = decide (x ∈ xs)
  | [] => rfl
  | y :: ys => by
    have ih := inV_strs (x := x) (xs := ys)
    unfold inV at ih ⊢
    rw [List.map_cons, List.any_cons, ih]
    show (y == x || decide (x ∈ ys)) = decide (x ∈ y :: ys)
    by_cases h : y = x
    · subst h; simp
    · have h' : x ≠ y := fun e => h e.symm
      simp [h, h']
theorem flat_strs (ns : List Str) : (ns.map V.str).all flatV = true := by
  rw [List.all_map]; exact List.all_eq_true.mpr fun _ _ => rfl
theorem dp_strs {K : PySem.W.Frag} {H : Hp} : ∀ (xs : List Str), DpAll K H (xs.map V.str) (xs.map PyData.str)
  | [] => .nil
  | x :: xs => .cons (.str x) (dp_strs xs)
theorem pe_globS {X : Cx} {x : Str} {z : Str} {pos : Pos} (hg : Gl X x) (hm : ∃ t, X.mg x = some (.str z t)) (hd : (x == ("__debug__" : Str)) = false := by decide) : PE X (.Name x pos) (tC (.str z)) := by
  obtain ⟨t, e⟩ := hm
  exact pe_glob hg e ⟨t, rfl⟩ hd

set_option maxHeartbeats 1000000
/-! ### list(reversed(a list)) -/
section
variable {prog : Program} {w : World} {A : Around} {E : Value → Shared → Prop} {s : Shared}
theorem call_list_rev {it l : Addr} {items : Array Value} {Q : Value → Shared → Prop} (hh : A.handled = none) (hit : s.heap.IsRevIter it l ((items.size : Int) - 1)) (hl : s.heap.IsList l items) (hne : l ≠ it) (hn : items.size ≤ sizeLine)
    (hQ : ∀ (h' : Heap) (tk : Nat) (acc : Array Value) (c' : Nat), (∀ b o, b ≠ it → s.heap.get? b = some o → h'.get? b = some o) → h'.get? s.heap.objs.size = some { cls := .type "list", dict := none, data := .seq acc c', slots := #[] } →
      ItemsOf (fun i v => items[items.size - 1 - i]? = some v) acc items.size → Q (.ref s.heap.objs.size) { s with heap := h', toks := tk }) :
    wpAny (model prog w) A (call (.type "list") [.ref it]) Q E s := by
  obtain ⟨oi, hoi, _⟩ := id hit
  obtain ⟨ol, hol, _⟩ := id hl
  have hSi : s.heap.objs.size ≠ it := Nat.ne_of_gt (Heap.lt_size hoi)
  have hSl : s.heap.objs.size ≠ l := Nat.ne_of_gt (Heap.lt_size hol)
  have hSf : s.heap.objs.size ∉ [it, l] := by simp only [List.mem_cons, List.not_mem_nil, or_false, not_or]; exact ⟨hSi, hSl⟩
  refine callType_codes (Q₁ := fun obj s₁ => obj = .ref s.heap.objs.size ∧ s₁ = { s with heap := s.heap.push { cls := .type "list", data := .seq #[] } }) PySem.F.called_list (PySem.F.typeCall_list_1 _) PySem.F.entry_list_init
    (code_list_new _ ⟨rfl, rfl⟩) fun obj s₁ h₁ => ?_
  obtain ⟨rfl, rfl⟩ := h₁
  have hS : (s.heap.push { cls := .type "list", data := .seq #[] }).get? s.heap.objs.size = some { cls := .type "list", data := .seq #[] } := Heap.get?_push_size _ rfl
  have W := (Walks.listRev (prog := prog) (w := w) (A := A.in1.in1) hh it l hne items).toS
  refine ⟨⟨_, hS, rfl⟩, PySem.F.args_list_init_2 _ _, ?_⟩
  show wpAny _ _ (do let old ← Builtin.List.listItems (.ref s.heap.objs.size); Builtin.List.listUpdate (.ref s.heap.objs.size) (fun _ => #[]); letGo old.toList.reverse; Builtin.List.listExtendWith (.ref s.heap.objs.size) (.ref it) .none) _ _ _
  refine wpAny_bind ?_
  unfold Builtin.List.listItems
  refine wpAny_bind (wpAny_seqItems hS rfl (wpAny_pure ?_))
  show wpAny _ _ (updateSeq s.heap.objs.size (fun _ => #[]) >>= fun _ => letGo (#[] : Array Value).toList.reverse >>= fun _ => Builtin.List.listExtendWith (.ref s.heap.objs.size) (.ref it) .none) _ _ _
  refine wpAny_bind (wpAny_updateSeq hS rfl ?_)
  have hS₂ := Heap.get?_update_self (Obj.mapSeq (fun _ => (#[] : Array Value))) hS rfl
  have oth : ∀ b o, b ≠ s.heap.objs.size → s.heap.get? b = some o → ((s.heap.push { cls := .type "list", data := .seq #[] }).update s.heap.objs.size (Obj.mapSeq (fun _ => (#[] : Array Value)))).get? b = some o :=
    fun b o hb e => (Heap.get?_update_other _ _ (Ne.symm hb)).trans (Heap.get?_push_of_some _ e)
  refine wpAny_bind (wpAny_letGo ?_)
  generalize hM : ((s.heap.push { cls := .type "list", data := .seq #[] }).update s.heap.objs.size (Obj.mapSeq (fun _ => (#[] : Array Value)))) = M at hS₂ oth ⊢
  have hit1 : M.IsRevIter it l ((items.size : Int) - 1) := hit.at fun o e => oth _ o hSi.symm e
  have hl1 : M.IsList l items := by
    obtain ⟨o, e, r⟩ := hl
    exact ⟨o, oth _ o hSl.symm e, r⟩
  have hT : ({ s with heap := M } : Shared).TypeIs (.ref it) "list_reverseiterator" := Heap.IsRevIter.typeIs (s := { s with heap := M }) hit1
  have h1 : Builtin.List.listSameRef (.ref s.heap.objs.size) (.ref it) = false := by simp [Builtin.List.listSameRef, hSi]
  unfold Builtin.List.listExtendWith
  refine wpAny_bind (wpAny_typeOf hT ?_)
  rw [if_neg (by rw [h1]; decide)]
  refine wpAny_bind (wpAny_pyIter_revIter (s := { s with heap := M }) hit1 ?_)
  refine wpAny_bind (wpAny_holding ?_)
  unfold Builtin.List.listLengthHint
  refine wpAny_bind (wpAny_specialOf hT RT.nolen_lri ?_)
  show wpAny _ _ (specialOf (Value.ref it) (Str.ofString "__length_hint__") >>= _) _ _ _
  refine wpAny_bind (wpAny_specialOf hT RT.hint_lri ?_)
  generalize hid : ("list_reverseiterator.__length_hint__" : String) = id0
  wp_delta
  rw [show splitId id0 = some ("list_reverseiterator", "__length_hint__") from by subst hid; decide +kernel]
  subst hid
  refine wpAny_bind (wpAny_isInstance (b := true) hT (by rw [isSubtype_type]; kernel_rfl) ?_)
  refine wpAny_pure ?_
  rw [if_neg (by decide)]
  have e0 : ((items.size : Nat) : Int) - 1 - ((0 : Nat) : Int) = (items.size : Int) - 1 := by omega
  refine wpAny_pure ⟨plainId_quiet PySem.F.plain_extend_loop _, codeAny_extend_loopS W hn _ hSf _ items.size 0 _ _ _ rfl (Nat.zero_le _) ⟨Nat.zero_le _, by rw [e0]; exact hit1, hl1⟩ hS₂ (ItemsOf.nil _) fun s' acc' c' hm hS' hacc => ?_⟩
  rw [Moved.eq_with hm]
  refine ⟨rfl, hQ s'.heap s'.toks acc' c' (fun b o hb e => hm.heap b o (fun hmem => ?_) (oth b o (Nat.ne_of_lt (Heap.lt_size e)) e)) hS' hacc⟩
  rcases List.mem_cons.mp hmem with e' | hmem
  · exact absurd (Heap.lt_size e) (by rw [e']; exact Nat.lt_irrefl _)
  · exact hb (List.mem_singleton.mp hmem)
end
def tLstRev (K : PySem.W.Frag) (te : TE) : TE := fun σ H Q => te σ H fun v H1 => ∃ (a : Addr) (xs : List V), v = .ref a ∧ SqL K H1 a xs ∧ ∀ q, H1 q = none → Q (.ref q) (upd H1 q (.lst xs.reverse))
section
variable {X : Cx}
theorem pe_lstRev {e : Expr} {te : TE} {p p2 pos pos2 : Pos} (hc : X.calm = true) (hg : Gl X "list") (hm : X.mg "list" = none) (hg2 : Gl X "reversed") (hm2 : X.mg "reversed" = none) (he : PE X e te)
    (hs : starEach [e] X.env = (false, eval e X.env) :: starEach [] X.env := by rfl)
    (hs2 : starEach [.Call (.Name "reversed" p2) [e] [] pos2] X.env = (false, eval (.Call (.Name "reversed" p2) [e] [] pos2) X.env) :: starEach [] X.env := by rfl) :
    PE X (.Call (.Name "list" p) [.Call (.Name "reversed" p2) [e] [] pos2] [] pos) (tLstRev X.K te) := by
  refine ⟨fun pins s σ H Q I h => ?_⟩
  refine Call_ (ld_blt I hg hm boot_list (PyProof.Rows.callWith_type1 (args_cons (Call_ (ld_blt I hg2 hm2 PyProof.Rows.boot_reversed (PyProof.Rows.callWith_type1 (args_cons (thn (he.run pins s σ H _ I h) fun u s1 ⟨v, H1, I1, r1, q1⟩ => args_nil ?_) hs) hs rfl))) hs2) hs2 rfl))
  obtain ⟨a, xs, ev, hq, q⟩ := q1
  subst ev
  obtain rfl : u = Value.ref a := r1
  obtain ⟨its, rv, p', hz⟩ := I1.list hq
  refine call_reversed_list p'.isList (args_nil ?_)
  have hl := p'.isList
  obtain ⟨ol, hol, _⟩ := id hl
  have hne : a ≠ s1.heap.objs.size := Nat.ne_of_lt (Heap.lt_size hol)
  have hn : its.toArray.size ≤ sizeLine := by rw [List.size_toArray, ← rv.length]; exact hz
  refine call_list_rev (s := { s1 with heap := s1.heap.push (revObj a ((its.toArray.size : Int) - 1)) }) (I1.ok.hd hc) ⟨_, Heap.get?_push_size _ rfl, rfl, rfl⟩ (hl.push _) hne hn fun h' tk acc c' hk e hi => ?_
  have kp : ∀ b o, s1.heap.get? b = some o → h'.get? b = some o := fun b o e => hk b o (Nat.ne_of_lt (Heap.lt_size e)) (Heap.get?_push_of_some _ e)
  have hle : s1.heap.objs.size ≤ (s1.heap.push (revObj a ((its.toArray.size : Int) - 1))).objs.size := by simp [Heap.push]
  refine ⟨.ref (s1.heap.push (revObj a ((its.toArray.size : Int) - 1))).objs.size, _, I1.laid (t' := tk) kp hle (show ObjOk X.prog X.w _ h' _ (.lst xs.reverse) from ⟨by rw [List.length_reverse]; exact hz, acc.toList, c', RT.vals_rev rv hi, ?_⟩), rfl, q _ (I1.hok.fresh hle)⟩
  rw [Array.toArray_toList]
  exact e
theorem rd_lrv {K : PySem.W.Frag} {te : TE} {σ : L2.St} {H : Hp} {Q : VK} (h : te σ H fun v H1 => ∃ (a : Addr) (xs : List V), v = .ref a ∧ SqL K H1 a xs ∧ ∀ q, H1 q = none → Q (.ref q) (upd H1 q (.lst xs.reverse))) : tLstRev K te σ H Q := h
end
/-! names, as they are built -/
theorem lets_digits : lets ++ ("0123456789" : Str) = letsD := by decide +kernel
theorem lets_sub : ∀ c ∈ lets.cps.toList, c ∈ letsD.cps.toList := by decide +kernel
/-- a text of n signs: a letter, then letters and digits -/
def NmP (z : Str) (n : Nat) : Prop := z.length = n ∧ ∃ c l, z.cps.toList = c :: l ∧ c ∈ lets.cps.toList ∧ ∀ d ∈ c :: l, d ∈ letsD.cps.toList
theorem NmP.one {c : Nat} (h : c ∈ lets.cps.toList) : NmP ⟨#[c]⟩ 1 := ⟨rfl, c, [], rfl, h, fun d hd => by rw [List.mem_singleton.mp hd]; exact lets_sub c h⟩
theorem NmP.add {z : Str} {n c : Nat} (h : NmP z n) (hc : c ∈ letsD.cps.toList) : NmP (z ++ ⟨#[c]⟩) (n + 1) := by
  obtain ⟨h1, d, l, e, hd, ha⟩ := h
  refine ⟨by rw [app_len, h1]; rfl, d, l ++ [c], by rw [app_l, e]; rfl, hd, fun x hx => ?_⟩
  have hx' : x ∈ (d :: l) ++ [c] := hx
  rcases List.mem_append.mp hx' with q | q
  · exact ha x q
  · rw [List.mem_singleton.mp q]; exact hc
theorem NmP.nm {z : Str} {n : Nat} (h : NmP z n) (hn : n ≤ 8) : isNm z = true := by
  obtain ⟨h1, c, l, e, hc, ha⟩ := h
  have hl : (c :: l).length ≤ 8 := by rw [← e, len_l, h1]; exact hn
  unfold isNm
  rw [e]
  show (decide ((c :: l).length ≤ 8) && decide (c ∈ lets.cps.toList) && (c :: l).all fun d => decide (d ∈ letsD.cps.toList)) = true
  rw [decide_eq_true hl, decide_eq_true hc, Bool.true_and, Bool.true_and]
  exact List.all_eq_true.mpr fun d hd => decide_eq_true (ha d hd)
theorem isNm_len {z : Str} (h : isNm z = true) : 1 ≤ z.length ∧ z.length ≤ 8 := by
  rw [← len_l]
  unfold isNm at h
  cases e : z.cps.toList with
  | nil => rw [e] at h; cases h
  | cons c l =>
    rw [e] at h
    have h' : (decide ((c :: l).length ≤ 8) && decide (c ∈ lets.cps.toList) && (c :: l).all fun d => decide (d ∈ letsD.cps.toList)) = true := h
    rw [Bool.and_eq_true, Bool.and_eq_true] at h'
    exact ⟨by simp, of_decide_eq_true h'.1.1⟩
/-! loops over a text's signs -/
theorem rd_iStr {te : TE} {σ : L2.St} {H : Hp} {R : It → Hp → Prop} (h : te σ H fun v H1 => ∃ x, v = .str x ∧ R (Its x) H1) : iStr te σ H R := h
theorem for_sgn {z : Str} {k : Nat} {tb : TS} {D : Ends} {σ : L2.St} {H : Hp} (Pv : Nat → L2.St → Hp → Prop) (h0 : Pv 0 σ H)
    (hs : ∀ i c σ H, z.cps.toList[i]? = some c → Pv i σ H → tb { D with nx := Pv (i + 1), ct := Pv (i + 1), bk := D.nx } (σ.set k (some (.str ⟨#[c]⟩))) H) (hd : ∀ σ H, Pv z.length σ H → D.nx σ H) :
    ∃ W : Nat → Nat → L2.St → Hp → Prop, (∃ m, W 0 m σ H) ∧ ∀ i m σ H, W i m σ H →
      ((Its z).stop i H ∧ D.nx σ H) ∨ ((Its z).go i H ∧ ∃ N : L2.St → Hp → Prop, (∀ σ' H', N σ' H' → ∃ m', m' < m ∧ W (i + 1) m' σ' H') ∧ ∀ x H', (Its z).yld i H x H' → gName k x σ H' fun σ2 H2 => tb { D with nx := N, ct := N, bk := D.nx } σ2 H2) := by
  refine for_it (walk_str (z := z)) Pv h0 (fun _ _ _ _ _ => trivial) (fun i x σ H H' hi hp y => ?_) hd
  obtain ⟨rfl, c, hc, rfl⟩ := y
  exact hs i c σ _ (by rw [Array.getElem?_toList]; exact hc) hp
theorem lc_sgn {z : Str} {k : Nat} {tt : TT} {te : TE} {vs : List Nat} {σ : L2.St} {H1 : Hp} {D : Addr} {Qd : Hp → Prop} (Pv : Nat → Hp → Prop) (h0 : Pv 0 (upd H1 D (.lst [])))
    (hs : ∀ i c H, z.cps.toList[i]? = some c → Pv i H → wipe ((wipe σ vs).set k (some (.str ⟨#[c]⟩))) vs = wipe σ vs ∧ tt ((wipe σ vs).set k (some (.str ⟨#[c]⟩))) H fun b H3 =>
      if b = true then te ((wipe σ vs).set k (some (.str ⟨#[c]⟩))) H3 fun y H4 => ∃ acc, H4 D = some (.lst acc) ∧ acc.length < sizeLine ∧ Pv (i + 1) (upd H4 D (.lst (acc ++ [y]))) else Pv (i + 1) H3) (hd : ∀ H, Pv z.length H → Qd H) :
    ∃ W : Nat → Nat → Hp → Prop, (∃ m, W 0 m (upd H1 D (.lst []))) ∧ ∀ i m H, W i m H →
      ((Its z).stop i H ∧ Qd H) ∨ ((Its z).go i H ∧ ∃ Nx : Hp → Prop, (∀ H', Nx H' → ∃ m', m' < m ∧ W (i + 1) m' H') ∧ ∀ x H', (Its z).yld i H x H' → gName k x (wipe σ vs) H' fun σ2 H2 => wipe σ2 vs = wipe σ vs ∧ tt σ2 H2 fun b H3 =>
        if b = true then te σ2 H3 fun y H4 => ∃ acc, H4 D = some (.lst acc) ∧ acc.length < sizeLine ∧ Nx (upd H4 D (.lst (acc ++ [y]))) else Nx H3) := by
  refine lc_it (walk_str (z := z)) Pv h0 (fun _ _ _ _ => trivial) (fun i x H H' hi hp y => ?_) hd
  obtain ⟨rfl, c, hc, rfl⟩ := y
  exact hs i c _ (by rw [Array.getElem?_toList]; exact hc) hp
/-! a name, told sign by sign -/
theorem isNm_of {z : Str} {c : Nat} {l : List Nat} (e : z.cps.toList = c :: l) : isNm z = (decide (z.length ≤ 8) && decide (c ∈ lets.cps.toList) && z.cps.toList.all fun d => decide (d ∈ letsD.cps.toList)) := by
  unfold isNm
  rw [← len_l, e]
  rfl
theorem isNm_zero {z : Str} (h : z.length = 0) : isNm z = false := by
  rw [← len_l] at h
  unfold isNm
  rw [List.eq_nil_of_length_eq_zero h]
  rfl
theorem rd_ii {a : Int} {R : Int → Prop} (h : R a) : ∃ i, V.int a = V.int i ∧ R i := ⟨a, rfl, h⟩
theorem rd_si {a : Str} {R : Str → Prop} (h : R a) : ∃ i, V.str a = V.str i ∧ R i := ⟨a, rfl, h⟩
theorem atI_zero {α : Type} {c : α} {l : List α} : atI (c :: l) 0 = some c := by
  unfold atI ixN
  rw [if_pos (by omega), if_pos (by simp)]
  simp
theorem rd_yes {σ : L2.St} {H : Hp} {QT : Bool → Hp → Prop} (h : QT true H) : tYes σ H QT := h
theorem rd_callNS' : True := trivial
/-! texts of at most n plain signs -/
def okS (n : Nat) (z : Str) : Bool := decide (z.length ≤ n) && z.cps.toList.all fun c => decide (c < 128)
def OkS (n : Nat) (z : Str) : Prop := okS n z = true
instance (n : Nat) (z : Str) : Decidable (OkS n z) := by unfold OkS; exact inferInstance
theorem okS_iff {n : Nat} {z : Str} : OkS n z ↔ z.length ≤ n ∧ ∀ c ∈ z.cps.toList, c < 128 := by
  unfold OkS okS
  rw [Bool.and_eq_true, decide_eq_true_iff, List.all_eq_true]
  exact ⟨fun h => ⟨h.1, fun c hc => of_decide_eq_true (h.2 c hc)⟩, fun h => ⟨h.1, fun c hc => decide_eq_true (h.2 c hc)⟩⟩
theorem OkS.len {n : Nat} {z : Str} (h : OkS n z) : z.length ≤ n := (okS_iff.mp h).1
theorem OkS.mono {m n : Nat} {z : Str} (h : OkS m z) (l : m ≤ n) : OkS n z := okS_iff.mpr ⟨by have := h.len; omega, (okS_iff.mp h).2⟩
theorem OkS.app {a b n : Nat} {x y : Str} (hx : OkS a x) (hy : OkS b y) (l : a + b ≤ n) : OkS n (x ++ y) := by
  refine okS_iff.mpr ⟨?_, fun c hc => ?_⟩
  · have := hx.len; have := hy.len; rw [app_len]; omega
  · rw [app_l] at hc
    exact (List.mem_append.mp hc).elim ((okS_iff.mp hx).2 c) ((okS_iff.mp hy).2 c)
theorem OkS.cut {n : Nat} {z : Str} {lo hi : Option Int} (h : OkS n z) : OkS n (cutS z lo hi) := by
  refine okS_iff.mpr ⟨Nat.le_trans (cutS_len z lo hi) h.len, fun c hc => (okS_iff.mp h).2 c ?_⟩
  have hc : c ∈ ((z.cps.toList.drop (HT.sIx z.length 0 lo)).take (HT.sIx z.length z.length hi - HT.sIx z.length 0 lo)) := hc
  exact List.mem_of_mem_drop (List.mem_of_mem_take hc)
theorem OkS.one {c : Nat} (h : c < 128) : OkS 1 ⟨#[c]⟩ := okS_iff.mpr ⟨Nat.le_refl _, fun d hd => by rw [List.mem_singleton.mp (show d ∈ [c] from hd)]; exact h⟩
theorem OkS.sign {n c : Nat} {z : Str} (h : OkS n z) (hc : c ∈ z.cps.toList) : OkS 1 ⟨#[c]⟩ := .one ((okS_iff.mp h).2 c hc)
theorem letsD_ok : OkS 36 letsD := by decide +kernel
theorem OkS.nm {z : Str} (h : isNm z = true) : OkS 8 z := by
  refine okS_iff.mpr ⟨(isNm_len h).2, fun d hd => ?_⟩
  cases e : z.cps.toList with
  | nil => rw [e] at hd; cases hd
  | cons c l =>
    rw [isNm_of e, Bool.and_eq_true, List.all_eq_true] at h
    exact (okS_iff.mp letsD_ok).2 d (of_decide_eq_true (h.2 d hd))
theorem OkS.num {n : Nat} (h : n < 100000) : OkS 5 (numS n) := by
  refine okS_iff.mpr ⟨numS_len h, fun c hc => ?_⟩
  rw [numS_l] at hc
  by_cases q : c < 48 ∨ 57 < c
  · exact absurd hc (TL.numL_free q)
  · omega
theorem shaped_strs {ns : List Str} {n : Nat} (h : ∀ s ∈ ns, OkS n s) : SeqAt.shaped (.list (ns.map PyData.str)) = true := by
  have h1 : PyData.canLayAll0 (ns.map PyData.str) = true := by
    induction ns with
    | nil => rfl
    | cons x xs ih =>
      have hx := h x List.mem_cons_self
      have ih := ih fun s hs => h s (List.mem_cons_of_mem _ hs)
      simp only [List.map, PyData.canLayAll0, PyData.canLay0, ih, Bool.and_true]
      show x.cps.all (· < 0x110000) = true
      rw [← Array.all_toList, List.all_eq_true]
      exact fun c hc => decide_eq_true (Nat.lt_trans ((okS_iff.mp hx).2 c hc) (by decide))
  have h2 : PyData.depth (.list (ns.map PyData.str)) ≤ 64 := by
    have e : ∀ xs : List Str, PyData.depthAll (xs.map PyData.str) = 0 := fun xs => by
      induction xs with
      | nil => rfl
      | cons x xs ih => simp only [List.map, PyData.depthAll, PyData.depth, ih, Nat.max_self]
    simp only [PyData.depth, e]
    decide
  unfold SeqAt.shaped
  rw [Bool.and_eq_true]
  exact ⟨by simp only [PyData.canLay0, h1], decide_eq_true h2⟩

/-! ### calls with values and keywords, and with defaults -/
structure HasN (P : Program) (w : World) (K : PySem.W.Frag) (mg : Str → Option Value) (base : Heap) (CX : CXT) (x : Str) (k n : Nat) (ps ks : List Str) (gV : List V → List V → List V) (sp : Sp) : Prop where
  ex : ∃ f fd, FnOk P w K mg base CX k f fd ps sp ∧ mg x = some (.ref f) ∧ PySem.W.keepIn K (.ref f) = true ∧ ∃ g, KBn K fd ps n ks g gV
theorem HasN.mono {P : Program} {w : World} {K : PySem.W.Frag} {mg : Str → Option Value} {base : Heap} {CX : CXT} {x : Str} {j k n : Nat} {ps ks : List Str} {gV : List V → List V → List V} {sp : Sp} (h : HasN P w K mg base CX x j n ps ks gV sp) (l : j ≤ k) : HasN P w K mg base CX x k n ps ks gV sp := by
  obtain ⟨f, fd, F, r⟩ := h.ex
  exact ⟨f, fd, F.mono l, r⟩
structure HasD (P : Program) (w : World) (K : PySem.W.Frag) (mg : Str → Option Value) (base : Heap) (CX : CXT) (x : Str) (k : Nat) (ps : List Str) (dvs : List V) (sp : Sp) : Prop where
  ex : ∃ f fd, FnOk P w K mg base CX k f fd ps sp ∧ mg x = some (.ref f) ∧ PySem.W.keepIn K (.ref f) = true ∧ ∃ ds, Vals dvs ds ∧ Binds K fd ps ds
theorem HasD.mono {P : Program} {w : World} {K : PySem.W.Frag} {mg : Str → Option Value} {base : Heap} {CX : CXT} {x : Str} {j k : Nat} {ps : List Str} {dvs : List V} {sp : Sp} (h : HasD P w K mg base CX x j ps dvs sp) (l : j ≤ k) : HasD P w K mg base CX x k ps dvs sp := by
  obtain ⟨f, fd, F, r⟩ := h.ex
  exact ⟨f, fd, F.mono l, r⟩
def tCallNS (n m : Nat) (sp : Sp) (gV : List V → List V → List V) (E : L2.St → XK) (t tk : TA) : TE := fun σ H Q => t σ H fun vs H1 => tk σ H1 fun zs H2 => vs.length = n ∧ zs.length = m ∧ sp (gV vs zs) H2 Q (E σ)
section
variable {X : Cx} {CX : CXT} {x : Str} {k n : Nat} {ps ks : List Str} {dvs : List V} {gV : List V → List V → List V} {sp : Sp} {E : L2.St → XK} {p pos : Pos} {e : Expr} {es : List Expr} {kws : List Keyword} {t tk : TA}
theorem pe_callNS (h : HasN X.prog X.w X.K X.mg X.base CX x k n ps ks gV sp) (hr : Room k X.A) (hg : Gl X x) (hx : ∀ σ, PassesAt CX X σ (E σ))
    (ha : PA X (e :: es) t) (hkw : PK X kws tk) (hall : (backToKw pos (keywordEach kws X.env)).all (·.1.isSome) = true := by rfl) (hks : (backToKw pos (keywordEach kws X.env)).filterMap (·.1) = ks := by rfl)
    (hdb : (x == ("__debug__" : Str)) = false := by decide) (he : starEach (e :: es) X.env = (false, eval e X.env) :: starEach es X.env := by rfl)
    (hpl : ((backTo pos (starEach (e :: es) X.env)).any (·.1) || (backToKw pos (keywordEach kws X.env)).any (·.1.isNone)) = false := by rfl) :
    PE X (.Call (.Name x p) (e :: es) kws pos) (tCallNS n ks.length sp gV E t tk) := by
  obtain ⟨f, fd, F, hm, hk, g, hb⟩ := h.ex
  refine ⟨fun pins s σ H Q I h => ?_⟩
  refine wpAny_Call_Name_kw (ld_glob I hg hm ?_ hdb)
  refine PySem.W.callWith_KW (h₀ := X.base) I.ok.mod.kin hk hall (thn (ha.run pos pins s σ H _ I h) fun us s1 ⟨vs, H1, I1, r, q⟩ => ?_) hpl he
  refine thn (hkw.run pos pins s1 σ H1 _ I1 q) fun ws s2 ⟨zs, H2, I2, rz, l1, l2, q2⟩ => ⟨I2.kIn, ?_⟩
  rw [hks]
  have r2 := hb.rel r rz
  refine wpAny_call (codeAny_mono (F.run X.A X.stack s2 H2 ⟨us, ks.zip ws⟩ (g us ws) (gV vs zs) Q (E σ) hr I2.env0 (hb.to s2 us ws I2.kIn (r.length.symm.trans l1) (rz.length.symm.trans l2)) r2 q2) fun r s' hq => ?_)
  cases r with
  | error e => exact hx σ pins H2 s2 e s' I2 hq
  | ok fl =>
    cases fl with
    | ret u => exact I2.after hq
    | next => exact False.elim hq
    | brk => exact False.elim hq
    | cont => exact False.elim hq
theorem pe_callDS (h : HasD X.prog X.w X.K X.mg X.base CX x k ps dvs sp) (hr : Room k X.A) (hg : Gl X x) (hx : ∀ σ, PassesAt CX X σ (E σ)) (ha : PA X (e :: es) t)
    (hdb : (x == ("__debug__" : Str)) = false := by decide) (he : starEach (e :: es) X.env = (false, eval e X.env) :: starEach es X.env := by rfl) (hpl : (backTo pos (starEach es X.env)).any (·.1) = false := by rfl) :
    PE X (.Call (.Name x p) (e :: es) [] pos) (tCallSD sp dvs E t) := by
  obtain ⟨f, fd, F, hm, hk, ds, hd, hb⟩ := h.ex
  exact pe_callSD F hr hg hm hk hb hd hx ha hdb he hpl
theorem rd_callNS {m : Nat} {σ : L2.St} {H : Hp} {Q : VK} (h : t σ H fun vs H1 => tk σ H1 fun zs H2 => vs.length = n ∧ zs.length = m ∧ sp (gV vs zs) H2 Q (E σ)) : tCallNS n m sp gV E t tk σ H Q := h
theorem rd_callSD {σ : L2.St} {H : Hp} {Q : VK} (h : t σ H fun vs H1 => sp (vs ++ dvs) H1 Q (E σ)) : tCallSD sp dvs E t σ H Q := h
end
/-! ### a text and a number, one behind the other -/
theorem empty_app (z : Str) : Str.empty ++ z = z := str_ext (by rw [app_l]; rfl)
theorem rd_fs2 {σ : L2.St} {H : Hp} {z : Str} {n i j : Nat} {R : Str → Hp → Prop} (e1 : σ[i]? = some (some (.str z))) (e2 : σ[j]? = some (some (.int n))) (hz : z.length ≤ 1000) (hn : n < 100000) (q : R (z ++ numS n) H) :
    tJs [tFmt (tVar i), tFmt (tVar j)] Str.empty σ H R := by
  refine ⟨_, e1, .inl ⟨z, rfl, sz (by omega), z, rfl, ?_, ?_⟩⟩
  · rw [empty_app]; exact sz (by omega)
  · refine ⟨_, e2, .inr ⟨n, rfl, ?_, numS n, rfl, ?_, ?_⟩⟩
    · show (Int.natAbs (n : Int)).log2 < 1920
      rw [Int.natAbs_natCast]
      by_cases h0 : n = 0
      · subst h0; decide
      · exact Nat.lt_of_lt_of_le ((Nat.log2_lt h0).mpr (by omega : n < 2 ^ 17)) (by decide)
    · rw [empty_app, app_len]
      have := numS_len hn
      exact sz (by omega)
    · show R (Str.empty ++ z ++ numS n) H
      rw [empty_app]; exact q
theorem log_ok {n : Nat} (hn : n < 100000) : (n : Int).natAbs.log2 < 1920 := by
  rw [Int.natAbs_natCast]
  by_cases h0 : n = 0
  · subst h0; decide
  · exact Nat.lt_of_lt_of_le ((Nat.log2_lt h0).mpr (by omega : n < 2 ^ 17)) (by decide)
theorem lc_rng {n k : Nat} {tt : TT} {te : TE} {vs : List Nat} {σ : L2.St} {H1 : Hp} {D : Addr} {Qd : Hp → Prop} (Pv : Nat → Hp → Prop) (h0 : Pv 0 (upd H1 D (.lst [])))
    (hs : ∀ i H, i < n → Pv i H → wipe ((wipe σ vs).set k (some (.int i))) vs = wipe σ vs ∧ tt ((wipe σ vs).set k (some (.int i))) H fun b H3 =>
      if b = true then te ((wipe σ vs).set k (some (.int i))) H3 fun y H4 => ∃ acc, H4 D = some (.lst acc) ∧ acc.length < sizeLine ∧ Pv (i + 1) (upd H4 D (.lst (acc ++ [y]))) else Pv (i + 1) H3) (hd : ∀ H, Pv n H → Qd H) :
    ∃ W : Nat → Nat → Hp → Prop, (∃ m, W 0 m (upd H1 D (.lst []))) ∧ ∀ i m H, W i m H →
      ((Itr 0 n).stop i H ∧ Qd H) ∨ ((Itr 0 n).go i H ∧ ∃ Nx : Hp → Prop, (∀ H', Nx H' → ∃ m', m' < m ∧ W (i + 1) m' H') ∧ ∀ x H', (Itr 0 n).yld i H x H' → gName k x (wipe σ vs) H' fun σ2 H2 => wipe σ2 vs = wipe σ vs ∧ tt σ2 H2 fun b H3 =>
        if b = true then te σ2 H3 fun y H4 => ∃ acc, H4 D = some (.lst acc) ∧ acc.length < sizeLine ∧ Nx (upd H4 D (.lst (acc ++ [y]))) else Nx H3) := by
  refine lc_range (lo := 0) Pv h0 (fun i H hi hp => ?_) hd
  have e : (V.int (0 + (i : Int))) = V.int i := by rw [Int.zero_add]
  rw [e]
  exact hs i H hi hp
/-! a dict's keys as the texts put in so far -/
def KeysAre (kvs : List (Key × V)) (ns : List Str) : Prop := ∀ x : Str, (valV kvs (Sum.inr x)).isSome = decide (x ∈ ns)
theorem keys_nil : KeysAre [] [] := fun x => by rw [valV_nil]; rfl
theorem KeysAre.put {kvs : List (Key × V)} {ns : List Str} {y : Str} {v : V} (h : KeysAre kvs ns) : KeysAre (putK kvs (Sum.inr y) v) (ns ++ [y]) := fun x => by
  rw [valV_put]
  by_cases e : (Sum.inr x : Key) = Sum.inr y
  · rw [if_pos e]
    have : x = y := Sum.inr.inj e
    subst this
    simp
  · rw [if_neg e, h x]
    have ne : x ≠ y := fun q => e (by rw [q])
    simp [ne]
theorem str1_le {z : Str} {l : List Str} {n : Nat} (h : (l.all fun s => decide (s.length ≤ n)) = true) (hz : z ∈ l) : z.length ≤ n := of_decide_eq_true (List.all_eq_true.mp h z hz)
theorem rd_dnewK {σ : L2.St} {H : Hp} {Q : VK} (h : ∀ p, H p = none → Q (.ref p) (upd H p (.dK []))) : tDNewK σ H Q := h
theorem rd_dput {td ty tv : TE} {D : Ends} {σ : L2.St} {H : Hp} (h : tv σ H fun v H1 => td σ H1 fun x H2 => ty σ H2 fun y H3 => ∃ a H4, x = .ref a ∧ DPut H3 a y v H4 ∧ D.nx σ H4) : sDPut td ty tv D σ H := h
theorem rd_dnotin {td ty : TE} {σ : L2.St} {H : Hp} {Q : VK} (h : ty σ H fun y H1 => td σ H1 fun x H2 => ∃ a o, x = .ref a ∧ DGet H2 a y o ∧ Q (.bl (!o.isSome)) H2) : tDNotIn ty td σ H Q := h
theorem cut_strs (U : List Str) (lo hi : Option Int) : ∃ U' : List Str, cutV (U.map V.str) lo hi = U'.map V.str ∧ ∀ s ∈ U', s ∈ U := by
  unfold cutV
  rw [← List.map_drop, ← List.map_take]
  exact ⟨_, rfl, fun s hs => List.mem_of_mem_drop (List.mem_of_mem_take hs)⟩
theorem cut_to_len {xs : List V} {k : Nat} : (cutV xs none (some (k : Int))).length ≤ k := by
  rw [cut_to, List.length_take]; omega
theorem cut_from_len {xs : List V} {k : Nat} : (cutV xs (some (k : Int)) none).length ≤ xs.length - k := by
  unfold cutV
  rw [HT.sIx_none, HT.sIx_nat, List.length_take, List.length_drop]
  omega
theorem ExS.free {S : Sto} {H H2 : Hp} {u : Addr} (e : ExS S H H2) (hS : StoreOk S H2) (n : H2 u = none) : H u = none := by
  cases q : H u with
  | none => rfl
  | some o => rw [e u o (hS.ne1 n) q] at n; cases n
theorem map_str_len {U : List Str} {xs : List V} (e : xs = U.map V.str) : U.length = xs.length := by rw [e, List.length_map]

def topS (i : Nat) : Stmt := PySem.Challenge.pw_outshiners_k04_fresh_names.main.body.getD i (.Pass ⟨0, 0, 0, 0⟩)
abbrev s_law_store : Stmt := topS 13
theorem sc_law_store : FnScope ["script"] ["script"] (defScope s_law_store) := ⟨rfl, rfl, rfl, by decide +kernel, rfl, by decide +kernel, by decide +kernel⟩
abbrev s_law_stir : Stmt := topS 14
theorem sc_law_stir : FnScope ["store", "cell", "one", "two"] ["store", "cell"] (defScope s_law_stir) := ⟨rfl, rfl, rfl, by decide +kernel, rfl, by decide +kernel, by decide +kernel⟩
abbrev s_law_take : Stmt := topS 15
theorem sc_law_take : FnScope ["store", "many", "cells", "cell", "rest"] ["store", "many"] (defScope s_law_take) := ⟨rfl, rfl, rfl, by decide +kernel, rfl, by decide +kernel, by decide +kernel⟩
abbrev s_law_pick : Stmt := topS 16
theorem sc_law_pick : FnScope ["store", "items"] ["store", "items"] (defScope s_law_pick) := ⟨rfl, rfl, rfl, by decide +kernel, rfl, by decide +kernel, by decide +kernel⟩
abbrev s_law_shuffled : Stmt := topS 17
theorem sc_law_shuffled : FnScope ["store", "items", "mixed", "k", "j", "held"] ["store", "items"] (defScope s_law_shuffled) := ⟨rfl, rfl, rfl, by decide +kernel, rfl, by decide +kernel, by decide +kernel⟩
abbrev s_law_name : Stmt := topS 18
theorem sc_law_name : FnScope ["store", "letters", "signs", "kind", "length", "name", "k"] ["store"] (defScope s_law_name) := ⟨rfl, rfl, rfl, by decide +kernel, rfl, by decide +kernel, by decide +kernel⟩
abbrev s_law_bad_name : Stmt := topS 19
theorem sc_law_bad_name : FnScope ["store", "menu", "kind", "name", "at"] ["store"] (defScope s_law_bad_name) := ⟨rfl, rfl, rfl, by decide +kernel, rfl, by decide +kernel, by decide +kernel⟩
abbrev s_law_sign : Stmt := topS 20
theorem sc_law_sign : FnScope ["store", "signs"] ["store"] (defScope s_law_sign) := ⟨rfl, rfl, rfl, by decide +kernel, rfl, by decide +kernel, by decide +kernel⟩
abbrev s_law_text : Stmt := topS 21
theorem sc_law_text : FnScope ["store", "longest", "text", "k"] ["store", "longest"] (defScope s_law_text) := ⟨rfl, rfl, rfl, by decide +kernel, rfl, by decide +kernel, by decide +kernel⟩
abbrev s_law_near_name : Stmt := topS 22
theorem sc_law_near_name : FnScope ["store", "kind", "name", "at"] ["store"] (defScope s_law_near_name) := ⟨rfl, rfl, rfl, by decide +kernel, rfl, by decide +kernel, by decide +kernel⟩
abbrev s_law_is_name : Stmt := topS 23
theorem sc_law_is_name : FnScope ["text", "sign"] ["text"] (defScope s_law_is_name) := ⟨rfl, rfl, rfl, by decide +kernel, rfl, by decide +kernel, by decide +kernel⟩
structure Blt (mg : Str → Option Value) : Prop where
  len : mg "len" = none
  int : mg "int" = none
  max : mg "max" = none
  range : mg "range" = none
  list' : mg "list" = none
  tuple : mg "tuple" = none
  bool : mg "bool" = none
  isinstance : mg "isinstance" = none
  str : mg "str" = none
  dict : mg "dict" = none
  all : mg "all" = none
  reversed : mg "reversed" = none
  g_LETTERS : ∃ t, mg "LETTERS" = some (.str "abcdefghijklmnopqrstuvwxyz" t)
  g_LETTERS_AND_DIGITS : ∃ t, mg "LETTERS_AND_DIGITS" = some (.str "abcdefghijklmnopqrstuvwxyz0123456789" t)
  g_LONGEST_NAME : ∃ t, mg "LONGEST_NAME" = some (.int 8 t)
  g_LONGEST_PREFIX : ∃ t, mg "LONGEST_PREFIX" = some (.int 4 t)
local macro_rules | `(tactic| walk_at "sideB") => `(tactic| first | assumption | exact Z.sl_of (by assumption) | exact upd_same | (show (0 : Int) < _; omega) | exact Or.inl ⟨by omega, by omega⟩ | exact Or.inr ⟨by omega, by omega⟩)
local macro_rules | `(tactic| walk_at "tyofB") => `(tactic| first | exact TyOf.int _ | exact TyOf.bl _ | exact TyOf.non | exact TyOf.str _ | (apply TyOf.lst; assumption) | (apply TyOf.tup; assumption))
local macro_rules | `(tactic| walk_at "rd1B") => `(tactic| first
  | with_reducible first
    | refine rd_seq ?_ | refine rd_asg ?_ | refine rd_c ?_ | refine rd_op ?_ | refine rd_cons ?_ | refine rd_nil ?_ | refine rd_cb ?_ | refine rd_call ?_ | refine rd_I0 ?_ | refine rd_eqI ?_ | refine rd_bx ?_ | refine rd_nn ?_ | refine rd_int1 ?_ | refine rd_max2 ?_ | refine rd_min2 ?_
    | refine rd_ret ?_ | refine rd_ifS ?_ | refine rd_test ?_ | refine rd_tB ?_ | refine rd_not ?_ | refine rd_and ?_ | refine rd_or ?_ | refine rd_un ?_ | refine rd_U ?_ | refine rd_next ?_ | refine rd_drop ?_ | refine rd_andV ?_ | refine rd_orV ?_ | refine rd_notV ?_ | refine rd_if ?_ | refine rd_neI ?_
    | refine rd_lst ?_ | refine rd_tup ?_ | refine rd_sl ?_ | refine rd_bm ?_ | refine rd_chain ?_ | refine rd_asgS ?_ | refine iteT ?_ | refine iteF ?_ | refine if_nn ?_ | refine if_nf ?_ | refine if_nt ?_ | refine if_nnN ?_ | refine if_n_int ?_ | refine if_n_bl ?_ | refine if_n_str ?_ | refine if_n_ref ?_ | refine if_nN_int ?_ | refine if_nN_bl ?_ | refine if_nN_str ?_ | refine if_nN_ref ?_ | refine rd_eqB ?_ | refine rd_eqS ?_ | refine rd_neB ?_ | refine rd_part ?_ | refine rd_nopart ?_ | refine rd_for ?_ | refine rd_iRng1 ?_ | refine rd_iList ?_ | refine rd_iTup ?_ | refine rd_lc ?_ | refine rd_callS ?_ | refine rd_callKS ?_ | refine rd_mkO ?_ | refine rd_ckw ?_ | refine rd_xf ?_
    | refine rd_p9 ?_ | refine rd_p11 ?_ | refine rd_p12 ?_ | refine rd_p13 ?_ | refine rd_p18 ?_ | refine rd_p30 ?_ | refine rd_p40 ?_ | refine rd_ss ?_ | refine rd_s1 ?_ | refine rd_i1 ?_ | refine rd_fld ?_ | refine rd_sfld ?_ | refine rd_make ?_ | refine rd_lrv ?_ | refine rd_dnewK ?_ | refine rd_dput ?_ | refine rd_dnotin ?_ | refine rd_yes ?_ | refine rd_callNS ?_ | refine rd_callSD ?_ | refine rd_ii ?_ | refine rd_si ?_ | refine rd_iStr ?_
  | ((with_reducible refine rd_var (v := ?v) ?hv ?_); (case hv => exact rfl))
  | ((with_reducible refine rd_setS (j := ?j) ?he ?_); (case he => exact rfl))
  | ((with_reducible refine rd_isi (a := ?a) (b := ?b) ?ty ?k ?_); (case ty => first | exact TyOf.int _ | exact TyOf.bl _ | exact TyOf.non | exact TyOf.str _); (case k => with_reducible first | exact kb_int_int | exact kb_int_bool | exact kb_int_str | exact kb_int_dict | exact kb_int_list | exact kb_int_tuple | exact kb_bool_int | exact kb_bool_bool | exact kb_bool_str | exact kb_bool_dict | exact kb_bool_list | exact kb_bool_tuple | exact kb_NoneType_int | exact kb_NoneType_bool | exact kb_NoneType_str | exact kb_NoneType_dict | exact kb_NoneType_list | exact kb_NoneType_tuple | exact kb_str_int | exact kb_str_bool | exact kb_str_str | exact kb_str_dict | exact kb_str_list | exact kb_str_tuple))
  | ((with_reducible refine rd_isiL (b := ?b) (by assumption) ?k ?_); (case k => with_reducible first | exact kb_list_int | exact kb_list_bool | exact kb_list_str | exact kb_list_dict | exact kb_list_list | exact kb_list_tuple))
  | ((with_reducible refine rd_isiT (b := ?b) (by assumption) ?k ?_); (case k => with_reducible first | exact kb_tuple_int | exact kb_tuple_bool | exact kb_tuple_str | exact kb_tuple_dict | exact kb_tuple_list | exact kb_tuple_tuple))
  | ((with_reducible refine rd_I ?hc ?_); (case hc => walk_at "sideB"))
  | ((with_reducible refine rd_ixL (xs := ?xs) (v := ?v) ?hh ?he ?_); (case hh => first | exact upd_same | assumption); (case he => exact rfl)))
local macro_rules | `(tactic| walk_at "rdB") => `(tactic| repeat walk_at "rd1B")

section
variable {P : Program} {w : World} {K : PySem.W.Frag} {mg : Str → Option Value} {base : Heap}
/-! ### _law_store -/
def spStore (K : PySem.W.Frag) : Sp := fun vs H Q _ => ∃ a, ∃ ns : List Int, vs = [.ref a] ∧ SqL K H a (ns.map V.int) ∧ ∀ (S : Sto) H', StoreOk S H' → Same H H' → Q (.ref S.1) H'
theorem ok_store {k : Nat} {f : Addr} {fd : FuncData} (F : Fun K "_law_store" "_law_store" s_law_store f fd) (T : Blt mg) : FnOk P w K mg base CX0 (k + 1) f fd ["script"] (spStore K) := by
  refine F.ok sc_law_store (fun vs H Q E h => ?_) (fun cdv A outer s H vs Q E hr h => ?_)
  · obtain ⟨a, ns, rfl, _⟩ := h; rfl
  · obtain ⟨a, ns, rfl, hL, q⟩ := h
    refine ⟨_, (pss_one (ps_ret (pe_lst (pa_cons (pe_callTy call_list_of (by rfl) T.list' (by decide +kernel) (pa_cons (pv 0) pa_nil)) (pa_cons pe_int (pa_cons pe_int (pa_cons pe_int (pa_cons pe_int (pa_cons pe_int (pa_cons pe_int pa_nil)))))))))), ?_⟩
    walk_at "rdB"
    refine ⟨a, _, rfl, .inl hL, fun q0 nq0 => ?_⟩
    walk_at "rdB"
    refine ⟨sz (by simp), fun S nS => ?_⟩
    have n2 : q0 ≠ S := fun e => by rw [← e, upd_same] at nS; cases nS
    refine q (S, q0) _ ⟨ns, 0, 0, 0, 0, 1, 1, n2, upd_same, by rw [upd_ne n2, upd_same], by omega, by omega, by omega, by omega, by omega⟩ ((same_new nq0).trans (same_new nS))
/-! ### _law_stir -/
def spStir : Sp := fun vs H Q _ => ∃ S n q a b c d e f, vs = [.ref S, .int n] ∧ H S = some (.lst [.ref q, .int a, .int b, .int c, .int d, .int e, .int f]) ∧ 0 ≤ e ∧ e < 2147483647 ∧ 0 ≤ f ∧ f < 2147483647 ∧ 
  ∀ d' e' f', 0 ≤ e' → e' < 2147483647 → 0 ≤ f' → f' < 2147483647 → Q .non (upd H S (.lst [.ref q, .int a, .int b, .int c, .int d', .int e', .int f']))
theorem ok_stir {k : Nat} {f : Addr} {fd : FuncData} (F : Fun K "_law_stir" "_law_stir" s_law_stir f fd) (T : Blt mg) : FnOk P w K mg base CX0 (k + 1) f fd ["store", "cell"] spStir := by
  refine F.ok sc_law_stir (fun vs H Q E h => ?_) (fun cdv A outer s H vs Q E hr h => ?_)
  · obtain ⟨S, n, q, a, b, c, d, e, f, rfl, _⟩ := h; rfl
  · obtain ⟨S, n, q, a, b, c, d, e, f', rfl, hs, h1, h2, h3, h4, h⟩ := h
    refine ⟨_, (pss_cons (ps_asg (pe_op op_add (pe_callTy call_int1 (by rfl) T.int (by decide +kernel) (pa_cons (pe_ix ix_list (pv 0) pe_int (fun _ _ => rfl)) pa_nil)) pe_int) (pg_sub (pv 0) pe_int set_list))
 (pss_cons (ps_set (i := 2) sc_law_stir.nd rfl (.inl rfl) (pe_op op_add (pe_op op_add (pe_op op_mul (pe_callTy call_int1 (by rfl) T.int (by decide +kernel) (pa_cons (pe_ix ix_list (pv 0) pe_int (fun _ _ => rfl)) pa_nil)) pe_int) (pe_op op_mod (pe_callTy call_int1 (by rfl) T.int (by decide +kernel) (pa_cons (pv 1) pa_nil)) pe_int)) (pe_callTy call_int1 (by rfl) T.int (by decide +kernel) (pa_cons (pe_ix ix_list (pv 0) pe_int (fun _ _ => rfl)) pa_nil))))
 (pss_cons (ps_asg (pe_op op_mod (pe_callTy call_int1 (by rfl) T.int (by decide +kernel) (pa_cons (pv 2) pa_nil)) pe_int) (pg_sub (pv 0) pe_int set_list))
 (pss_cons (ps_set (i := 3) sc_law_stir.nd rfl (.inl rfl) (pe_op op_add (pe_op op_add (pe_op op_add (pe_op op_mul (pe_callTy call_int1 (by rfl) T.int (by decide +kernel) (pa_cons (pe_ix ix_list (pv 0) pe_int (fun _ _ => rfl)) pa_nil)) pe_int) (pe_op op_mul (pe_callTy call_int1 (by rfl) T.int (by decide +kernel) (pa_cons (pe_ix ix_list (pv 0) pe_int (fun _ _ => rfl)) pa_nil)) pe_int)) (pe_op op_mod (pe_callTy call_int1 (by rfl) T.int (by decide +kernel) (pa_cons (pv 1) pa_nil)) pe_int)) (pe_callTy call_int1 (by rfl) T.int (by decide +kernel) (pa_cons (pe_ix ix_list (pv 0) pe_int (fun _ _ => rfl)) pa_nil))))
 (pss_one (ps_asg (pe_op op_mod (pe_callTy call_int1 (by rfl) T.int (by decide +kernel) (pa_cons (pv 3) pa_nil)) pe_int) (pg_sub (pv 0) pe_int set_list))))))), ?_⟩
    rw [← upd_id hs]
    walk_at "rdB"
    refine h _ _ _ ?_ ?_ ?_ ?_ <;> omega
/-! ### _law_take -/
def spTake : Sp := fun vs H Q _ => ∃ (S : Sto), ∃ m, vs = [.ref S.1, .int m] ∧ m < 2 ^ 200 ∧ StoreOk S H ∧ ∀ r H', 0 ≤ r → r < max 1 m → StoreOk S H' → ExS S H H' → Q (.int r) H'
theorem ok_take {k : Nat} {f : Addr} {fd : FuncData} (F : Fun K "_law_take" "_law_take" s_law_take f fd) (T : Blt mg) (H_law_stir : Has P w K mg base "_law_stir" k ["store", "cell"] spStir) : FnOk P w K mg base CX0 (k + 1) f fd ["store", "many"] spTake := by
  refine F.ok sc_law_take (fun vs H Q E h => ?_) (fun cdv A outer s H vs Q E hr h => ?_)
  · obtain ⟨S, m, rfl, _⟩ := h; rfl
  · obtain ⟨S, m, rfl, hm, hS, h⟩ := h
    refine ⟨_, (pss_cons (ps_set (i := 1) sc_law_take.nd rfl (.inl rfl) (pe_callB (call_max2 rfl) (by rfl) T.max (by decide +kernel) (pa_cons pe_int (pa_cons (pe_callTy call_int1 (by rfl) T.int (by decide +kernel) (pa_cons (pv 1) pa_nil)) pa_nil))))
 (pss_cons (ps_set (i := 2) sc_law_take.nd rfl (.inl rfl) (pe_ix ix_list (pv 0) pe_int (fun _ _ => rfl)))
 (C8.pss_cut (ps_if (PW.pt (pw_and (pt_cmpR op_eq (pe_callTy call_int1 (by rfl) T.int (by decide +kernel) (pa_cons (pe_ix ix_list (pv 0) pe_int (fun _ _ => rfl)) pa_nil)) pe_int (nomark _)) (pw_and (pt_cmpR op_eq (pe_callTy call_int1 (by rfl) T.int (by decide +kernel) (pa_cons (pe_ix ix_list (pv 0) pe_int (fun _ _ => rfl)) pa_nil)) pe_int (nomark _)) (pw_and1 (pt_cmpR op_lt (pe_callTy call_int1 (by rfl) T.int (by decide +kernel) (pa_cons (pe_ix ix_list (pv 0) pe_int (fun _ _ => rfl)) pa_nil)) (pe_callB call_len_seq (by rfl) T.len (by decide +kernel) (pa_cons (pv 2) pa_nil)) (nomark _)))))) (pss_cons (ps_set (i := 3) sc_law_take.nd rfl (.inl rfl) (pe_callTy call_int1 (by rfl) T.int (by decide +kernel) (pa_cons (pe_ix ix_list (pv 2) (pe_callTy call_int1 (by rfl) T.int (by decide +kernel) (pa_cons (pe_ix ix_list (pv 0) pe_int (fun _ _ => rfl)) pa_nil)) (fun _ _ => rfl)) pa_nil)))
 (pss_cons (ps_asg (pe_op op_add (pe_callTy call_int1 (by rfl) T.int (by decide +kernel) (pa_cons (pe_ix ix_list (pv 0) pe_int (fun _ _ => rfl)) pa_nil)) pe_int) (pg_sub (pv 0) pe_int set_list))
 (pss_cons (ps_asg pe_int (pg_sub (pv 0) pe_int set_list))
 (pss_cons (ps_expr (pe_callH H_law_stir hr (by rfl) (pa_cons (pv 0) (pa_cons (pv 3) pa_nil))))
 (pss_one (ps_if (pt_cmpR op_ge (pv 3) (pe_op op_pow pe_int pe_int) (nomark _)) (pss_cons (ps_asg (pv 3) (pg_sub (pv 0) pe_int set_list))
 (pss_one (ps_asg pe_int (pg_sub (pv 0) pe_int set_list)))) pss_nil)))))) pss_nil)
 (pss_cons (ps_set (i := 4) sc_law_take.nd rfl (.inl rfl) (pe_callTy call_int1 (by rfl) T.int (by decide +kernel) (pa_cons (pe_ix ix_list (pv 0) pe_int (fun _ _ => rfl)) pa_nil)))
 (pss_cons (ps_if (pt_cmpR op_gt (pv 4) pe_int (nomark _)) (pss_cons (ps_asg (pe_op op_fdivW (pv 4) (pv 1)) (pg_sub (pv 0) pe_int set_list))
 (pss_one (ps_ret (pe_op op_mod (pe_callTy call_int1 (by rfl) T.int (by decide +kernel) (pa_cons (pv 4) pa_nil)) (pv 1))))) pss_nil)
 (pss_cons (ps_expr (pe_callH H_law_stir hr (by rfl) (pa_cons (pv 0) (pa_cons pe_int pa_nil))))
 (pss_cons (ps_asg (pe_callB (call_max2 rfl) (by rfl) T.max (by decide +kernel) (pa_cons pe_int (pa_cons (pe_op op_sub (pe_callTy call_int1 (by rfl) T.int (by decide +kernel) (pa_cons (pe_ix ix_list (pv 0) pe_int (fun _ _ => rfl)) pa_nil)) pe_int) pa_nil))) (pg_sub (pv 0) pe_int set_list))
 (pss_one (ps_ret (pe_op op_mod (pe_callTy call_int1 (by rfl) T.int (by decide +kernel) (pa_cons (pe_op op_add (pe_op op_mul (pe_callTy call_int1 (by rfl) T.int (by decide +kernel) (pa_cons (pe_ix ix_list (pv 0) pe_int (fun _ _ => rfl)) pa_nil)) pe_int) (pe_callTy call_int1 (by rfl) T.int (by decide +kernel) (pa_cons (pe_ix ix_list (pv 0) pe_int (fun _ _ => rfl)) pa_nil))) pa_nil)) (pv 1))))))))))), ?_⟩
    obtain ⟨S, q⟩ := S
    obtain ⟨cells, a, b, c, d, e, f', nq, hs, hq, h0, h1, h2, h3, h4⟩ := hS
    dsimp only at nq hs hq ⊢
    rw [← upd_id hs]
    walk_at "rdB"
    obtain ⟨M, hM⟩ : ∃ M, M = (if m > 1 then m else 1) := ⟨_, rfl⟩
    rw [← hM]
    have hM1 : 1 ≤ M := by rw [hM]; split <;> omega
    have hM2 : M = max 1 m := by rw [hM]; split <;> omega
    have hM3 : M < 2 ^ 200 := by rw [hM]; split <;> omega
    clear hM
    refine rd_cut (fun σ' H' => ∃ a b c d e f y, σ' = [some (.ref S), some (.int M), some (.ref q), y, none] ∧ H' = upd H S (.lst [.ref q, .int a, .int b, .int c, .int d, .int e, .int f]) ∧ 0 ≤ a ∧ 0 ≤ e ∧ e < 2147483647 ∧ 0 ≤ f ∧ f < 2147483647) ?_ ?_
    · walk_at "rdB"
      refine if_dec (fun hb => ?_) (fun hb => ?_)
      · walk_at "rdB"
        refine if_dec (fun hc => ?_) (fun hc => ?_)
        · walk_at "rdB"
          refine rd_seqL (by rw [upd_ne nq]; exact hq) ?_
          walk_at "rdB"
          refine if_dec (fun hl => ?_) (fun hl => ?_)
          · obtain ⟨n, _, _, en⟩ := atI_ints h0 (by simpa using hl)
            walk_at "rdB"
            refine rd_ixL (by rw [upd_ne nq]; exact hq) en ?_
            walk_at "rdB"
            refine ⟨S, n, q, a + 1, b, 3, d, e, f', rfl, upd_same, h1, h2, h3, h4, fun d' e' f'' g1 g2 g3 g4 => ?_⟩
            rw [upd_upd]
            walk_at "rdB"
            refine if_dec (fun hn => ?_) (fun hn => ?_)
            · walk_at "rdB"
              exact ⟨_, _, _, _, _, _, _, rfl, rfl, by omega, g1, g2, g3, g4⟩
            · walk_at "rdB"
              exact ⟨_, _, _, _, _, _, _, rfl, rfl, by omega, g1, g2, g3, g4⟩
          · walk_at "rdB"
            exact ⟨_, _, _, _, _, _, _, rfl, rfl, h0, h1, h2, h3, h4⟩
        · walk_at "rdB"
          exact ⟨_, _, _, _, _, _, _, rfl, rfl, h0, h1, h2, h3, h4⟩
      · walk_at "rdB"
        exact ⟨_, _, _, _, _, _, _, rfl, rfl, h0, h1, h2, h3, h4⟩
    · rintro σ' H' ⟨a, b, c, d, e, f, y, rfl, rfl, h0, h1, h2, h3, h4⟩
      have fin : ∀ (r a b c d e f : Int), 0 ≤ r → r < M → 0 ≤ a → 0 ≤ e → e < 2147483647 → 0 ≤ f → f < 2147483647 → Q (.int r) (upd H S (.lst [.ref q, .int a, .int b, .int c, .int d, .int e, .int f])) := fun r a b c d e f r0 r1 h0 h1 h2 h3 h4 =>
        h r _ r0 (by omega) ⟨cells, a, b, c, d, e, f, nq, upd_same, by rw [upd_ne nq]; exact hq, h0, h1, h2, h3, h4⟩ (ExS.updS (S := (S, q)))
      walk_at "rdB"
      refine if_dec (fun hb => ?_) (fun hb => ?_)
      · walk_at "rdB"
        refine rd_I (wide_div (b := 200) (by omega) (by omega) (by omega) (by omega)) ?_
        walk_at "rdB"
        exact fin _ _ _ _ _ _ _ (Int.emod_nonneg _ (by omega)) (Int.emod_lt_of_pos _ (by omega)) h0 h1 h2 h3 h4
      · walk_at "rdB"
        refine ⟨S, 0, q, a, b, c, d, e, f, rfl, upd_same, h1, h2, h3, h4, fun d' e' f'' g1 g2 g3 g4 => ?_⟩
        rw [upd_upd]
        walk_at "rdB"
        exact fin _ _ _ _ _ _ _ (Int.emod_nonneg _ (by omega)) (Int.emod_lt_of_pos _ (by omega)) h0 g1 g2 g3 g4
/-! ### _law_pick: of a list, of a text -/
def spPick : Sp := fun vs H Q _ => ∃ (S : Sto), ∃ x, vs = [.ref S.1, x] ∧ StoreOk S H ∧
  ((∃ a xs, x = .ref a ∧ At S H a (.lst xs) ∧ 0 < xs.length ∧ xs.length < 1000000 ∧ ∀ v H', v ∈ xs → StoreOk S H' → ExS S H H' → Q v H') ∨
   (∃ z : Str, x = .str z ∧ 0 < z.length ∧ z.length < 100000 ∧ ∀ c H', c ∈ z.cps.toList → StoreOk S H' → ExS S H H' → Q (.str ⟨#[c]⟩) H'))
theorem ok_pick {k : Nat} {f : Addr} {fd : FuncData} (F : Fun K "_law_pick" "_law_pick" s_law_pick f fd) (T : Blt mg) (H_law_take : Has P w K mg base "_law_take" k ["store", "many"] spTake) : FnOk P w K mg base CX0 (k + 1) f fd ["store", "items"] spPick := by
  refine F.ok sc_law_pick (fun vs H Q E h => ?_) (fun cdv A outer s H vs Q E hr h => ?_)
  · obtain ⟨S, x, rfl, _⟩ := h; rfl
  · obtain ⟨S, x, rfl, hS, h⟩ := h
    refine ⟨_, (pss_one (ps_ret (pe_ix ix_seq (pv 1) (pe_callH H_law_take hr (by rfl) (pa_cons (pv 0) (pa_cons (pe_callB (call_len_seq.or call_len_str) (by rfl) T.len (by decide +kernel) (pa_cons (pv 1) pa_nil)) pa_nil))) (fun _ _ => rfl)))), ?_⟩
    rcases h with ⟨a, xs, rfl, hA, l0, l1, h⟩ | ⟨z, rfl, l0, l1, h⟩
    · walk_at "rdB"
      refine .inl (rd_seqL hA.2 ?_)
      walk_at "rdB"
      refine ⟨S, _, rfl, by omega, hS, fun r H' r0 r1 hS' he => ?_⟩
      obtain ⟨hb, e⟩ := atI_get (xs := xs) (i := r) r0 (by omega)
      exact .inl (rd_ixL (he _ _ hA.1 hA.2) e (h _ _ (List.getElem_mem hb) hS' he))
    · walk_at "rdB"
      refine .inr ⟨z, rfl, sz (by omega), ?_⟩
      walk_at "rdB"
      refine ⟨S, _, rfl, by omega, hS, fun r H' r0 r1 hS' he => ?_⟩
      obtain ⟨c, hc, _, e⟩ := atI_nats (l := z.cps.toList) (i := r) r0 (by rw [len_l]; omega)
      exact .inr (.inr (rd_ixS (by omega) e (h _ _ hc hS' he)))
/-! ### _law_shuffled -/
def spShuffled : Sp := fun vs H Q _ => ∃ (S : Sto), ∃ a xs, vs = [.ref S.1, .ref a] ∧ StoreOk S H ∧ At S H a (.lst xs) ∧ xs.length < 1000000 ∧ ∀ p ys H', ys.Perm xs → H p = none → At S H' p (.lst ys) → StoreOk S H' → ExS S H H' → Q (.ref p) H'
theorem ok_shuffled {k : Nat} {f : Addr} {fd : FuncData} (F : Fun K "_law_shuffled" "_law_shuffled" s_law_shuffled f fd) (T : Blt mg) (H_law_take : Has P w K mg base "_law_take" k ["store", "many"] spTake) : FnOk P w K mg base CX0 (k + 1) f fd ["store", "items"] spShuffled := by
  refine F.ok sc_law_shuffled (fun vs H Q E h => ?_) (fun cdv A outer s H vs Q E hr h => ?_)
  · obtain ⟨S, a, xs, rfl, _⟩ := h; rfl
  · obtain ⟨S, a, xs, rfl, hS, hA, l1, h⟩ := h
    refine ⟨_, (pss_cons (ps_set (i := 2) sc_law_shuffled.nd rfl (.inl rfl) (pe_callTy call_list_of (by rfl) T.list' (by decide +kernel) (pa_cons (pv 1) pa_nil)))
 (pss_cons (ps_for PassesOwn.never rfl (pi_range1 rfl T.range (pa_cons (pe_callB call_len_seq (by rfl) T.len (by decide +kernel) (pa_cons (pv 2) pa_nil)) pa_nil)) (pg_name (i := 3) sc_law_shuffled.nd rfl (.inl rfl)) (pss_cons (ps_set (i := 4) sc_law_shuffled.nd rfl (.inl rfl) (pe_op op_add (pv 3) (pe_callH H_law_take hr (by rfl) (pa_cons (pv 0) (pa_cons (pe_op op_sub (pe_callB call_len_seq (by rfl) T.len (by decide +kernel) (pa_cons (pv 2) pa_nil)) (pv 3)) pa_nil)))))
 (pss_cons (ps_set (i := 5) sc_law_shuffled.nd rfl (.inl rfl) (pe_ix ix_list (pv 2) (pv 3) (fun _ _ => rfl)))
 (pss_cons (ps_asg (pe_ix ix_list (pv 2) (pv 4) (fun _ _ => rfl)) (pg_sub (pv 2) (pv 3) set_list))
 (pss_one (ps_asg (pv 5) (pg_sub (pv 2) (pv 4) set_list)))))))
 (pss_one (ps_ret (pv 2))))), ?_⟩
    walk_at "rdB"
    refine rd_seqL hA.2 fun p np => ?_
    walk_at "rdB"
    refine rd_seqL upd_same ?_
    walk_at "rdB"
    have pS : p ≠ S.1 := hS.ne1 np
    have pS2 : p ≠ S.2 := hS.ne2 np
    refine ⟨by omega, by omega, for_rng (fun i σ H' => ∃ ys y3 y4 y5, σ = [some (.ref S.1), some (.ref a), some (.ref p), y3, y4, y5] ∧ ys.Perm xs ∧ H' p = some (.lst ys) ∧ StoreOk S H' ∧ ExS S H H') ⟨xs, _, _, _, rfl, .refl _, upd_same, hS.new np, .new np⟩ ?_ ?_⟩
    · rintro i σ H' hi ⟨ys, y3, y4, y5, rfl, hp, eH, hS', hE⟩
      have hl : ys.length = xs.length := hp.length_eq
      have hi' : i < xs.length := by simpa using hi
      walk_at "rdB"
      refine rd_seqL eH ?_
      walk_at "rdB"
      refine ⟨S, _, rfl, by omega, hS', fun r H2 r0 r1 hS2 hE2 => ?_⟩
      have eH2 := hE2 _ _ pS eH
      walk_at "rdB"
      obtain ⟨hb, e⟩ := atI_get (xs := ys) (i := (i : Int)) (by omega) (by omega)
      refine rd_ixL eH2 e ?_
      walk_at "rdB"
      obtain ⟨hb2, e2⟩ := atI_get (xs := ys) (i := (i : Int) + r) (by omega) (by omega)
      refine rd_ixL eH2 e2 ?_
      walk_at "rdB"
      refine rd_setL eH2 (ixN_nat (by omega) (by omega)) ?_
      walk_at "rdB"
      refine rd_setL upd_same (ixN_nat (by omega) (by rw [List.length_set]; omega)) ?_
      rw [upd_upd]
      walk_at "rdB"
      refine ⟨_, _, _, _, rfl, (swap_perm hb hb2).trans hp, upd_same, store_upd hS2 pS pS2, (hE.trans hE2).mut np⟩
    · rintro σ H' ⟨ys, y3, y4, y5, rfl, hp, eH, hS', hE⟩
      walk_at "rdB"
      exact h p ys H' hp np ⟨pS, eH⟩ hS' hE
end


section
variable {P : Program} {w : World} {K : PySem.W.Frag} {mg : Str → Option Value} {base : Heap}
/-! ### _law_name -/
def spName : Sp := fun vs H Q _ => ∃ S : Sto, vs = [.ref S.1] ∧ StoreOk S H ∧ ∀ z H', isNm z = true → StoreOk S H' → ExS S H H' → Q (.str z) H'
theorem ok_name {k : Nat} {f : Addr} {fd : FuncData} (F : Fun K "_law_name" "_law_name" s_law_name f fd) (T : Blt mg) (H_law_take : Has P w K mg base "_law_take" k ["store", "many"] spTake) : FnOk P w K mg base CX0 (k + 1) f fd ["store"] spName := by
  refine F.ok sc_law_name (fun vs H Q E h => ?_) (fun cdv A outer s H vs Q E hr h => ?_)
  · obtain ⟨S, rfl, _⟩ := h; rfl
  · obtain ⟨S, rfl, hS, h⟩ := h
    refine ⟨_, (pss_cons (ps_set (i := 1) sc_law_name.nd rfl (.inl rfl) pe_str)
 (pss_cons (ps_set (i := 2) sc_law_name.nd rfl (.inl rfl) (pe_op op_add_str (pv 1) pe_str))
 (pss_cons (ps_set (i := 3) sc_law_name.nd rfl (.inl rfl) (pe_callH H_law_take hr (by rfl) (pa_cons (pv 0) (pa_cons pe_int pa_nil))))
 (pss_cons (ps_set (i := 4) sc_law_name.nd rfl (.inl rfl) (pe_op op_add pe_int (pe_callH H_law_take hr (by rfl) (pa_cons (pv 0) (pa_cons pe_int pa_nil)))))
 (C8.pss_cut (ps_if (pt_cmpR op_lt (pv 3) pe_int (nomark _)) (pss_one (ps_set (i := 4) sc_law_name.nd rfl (.inl rfl) (pe_ix ix_list (pe_lst (pa_cons pe_int (pa_cons pe_int (pa_cons pe_int pa_nil)))) (pv 3) (fun _ _ => rfl)))) pss_nil)
 (pss_cons (ps_set (i := 5) sc_law_name.nd rfl (.inl rfl) (pe_ix ix_str (pv 1) (pe_callH H_law_take hr (by rfl) (pa_cons (pv 0) (pa_cons pe_int pa_nil))) (fun _ _ => rfl)))
 (pss_cons (ps_for PassesOwn.never rfl (pi_range1 rfl T.range (pa_cons (pe_op op_sub (pv 4) pe_int) pa_nil)) (pg_name (i := 6) sc_law_name.nd rfl (.inl rfl)) (pss_one (ps_set (i := 5) sc_law_name.nd rfl (.inl rfl) (pe_op op_add_str (pv 5) (pe_ix ix_str (pv 2) (pe_callH H_law_take hr (by rfl) (pa_cons (pv 0) (pa_cons pe_int pa_nil))) (fun _ _ => rfl))))))
 (pss_one (ps_ret (pv 5)))))))))), ?_⟩
    walk_at "rdB"
    refine ⟨by decide +kernel, ?_⟩
    rw [show ("abcdefghijklmnopqrstuvwxyz" ++ "0123456789" : Str) = letsD from lets_digits]
    walk_at "rdB"
    refine ⟨S, 5, rfl, by omega, hS, fun r H1 r0 r1 hS1 e1 => ?_⟩
    walk_at "rdB"
    refine ⟨S, 8, rfl, by omega, hS1, fun r2 H2 r20 r21 hS2 e2 => ?_⟩
    walk_at "rdB"
    refine rd_cut (fun σ' H' => ∃ L : Int, σ' = [some (.ref S.1), some (.str lets), some (.str letsD), some (.int r), some (.int L), none, none] ∧ 1 ≤ L ∧ L ≤ 8 ∧ StoreOk S H' ∧ ExS S H H') ?_ ?_
    · walk_at "rdB"
      refine if_dec (fun hk => ?_) (fun hk => ?_)
      · walk_at "rdB"
        refine ⟨sz (by simp), fun p np => ?_⟩
        walk_at "rdB"
        obtain rfl | rfl | rfl : r = 0 ∨ r = 1 ∨ r = 2 := by omega
        all_goals refine rd_ixL upd_same rfl ?_
        all_goals walk_at "rdB"
        all_goals exact ⟨_, rfl, by omega, by omega, hS2.new np, (e1.trans e2).trans (ExS.new np)⟩
      · walk_at "rdB"
        exact ⟨_, rfl, by omega, by omega, hS2, e1.trans e2⟩
    · rintro σ' H3 ⟨L, rfl, l1, l8, hS3, e3⟩
      walk_at "rdB"
      refine ⟨S, 26, rfl, by omega, hS3, fun r4 H4 r40 r41 hS4 e4 => ?_⟩
      obtain ⟨c, hc, _, ec⟩ := atI_nats (l := lets.cps.toList) (i := r4) r40 (by rw [show lets.cps.toList.length = 26 from by decide +kernel]; omega)
      refine rd_ixS (by decide +kernel) ec ?_
      walk_at "rdB"
      refine ⟨by omega, by omega, for_rng (fun i σ H' => ∃ z y, σ = [some (.ref S.1), some (.str lets), some (.str letsD), some (.int r), some (.int L), some (.str z), y] ∧ NmP z (i + 1) ∧ StoreOk S H' ∧ ExS S H H') ⟨_, _, rfl, NmP.one hc, hS4, e3.trans e4⟩ ?_ ?_⟩
      · rintro i σ H5 hi ⟨z, y, rfl, hz, hS5, e5⟩
        walk_at "rdB"
        refine ⟨S, 36, rfl, by omega, hS5, fun r6 H6 r60 r61 hS6 e6 => ?_⟩
        obtain ⟨d, hd, _, ed⟩ := atI_nats (l := letsD.cps.toList) (i := r6) r60 (by rw [show letsD.cps.toList.length = 36 from by decide +kernel]; omega)
        refine rd_ixS (by decide +kernel) ed ?_
        walk_at "rdB"
        refine ⟨sz (by rw [hz.1, one_len]; omega), ?_⟩
        walk_at "rdB"
        exact ⟨_, _, rfl, hz.add hd, hS6, e5.trans e6⟩
      · rintro σ H5 ⟨z, y, rfl, hz, hS5, e5⟩
        walk_at "rdB"
        exact h z H5 (hz.nm (by omega)) hS5 e5
end


section
variable {P : Program} {w : World} {K : PySem.W.Frag} {mg : Str → Option Value} {base : Heap}
/-! ### _law_bad_name -/
def menuL : List Str := ["", "1", "A", "aB", "a b", "a_", " a", "a ", "a-b", "abcdefghi", "9lives", "*", "a\n", "Z9"]
theorem menuL_le : ∀ z ∈ menuL, OkS 20 z := by decide +kernel
theorem digs_ok : OkS 10 "0123456789" := by decide +kernel
theorem odd_ok : OkS 8 "A_ -.Z*," := by decide +kernel
theorem near_ok : OkS 8 "z0aB_ 9" := by decide +kernel
theorem cat3_len {z : Str} {c : Nat} {a b : Option Int} {n : Nat} (h : z.length ≤ n) : (cutS z none a ++ ⟨#[c]⟩ ++ cutS z b none).length ≤ 2 * n + 1 := by
  have h1 := cutS_len z none a
  have h2 := cutS_len z b none
  rw [app_len, app_len, one_len]
  omega
def spBad : Sp := fun vs H Q _ => ∃ S : Sto, vs = [.ref S.1] ∧ StoreOk S H ∧ ∀ z H', OkS 20 z → StoreOk S H' → ExS S H H' → Q (.str z) H'
theorem ok_bad_name {k : Nat} {f : Addr} {fd : FuncData} (F : Fun K "_law_bad_name" "_law_bad_name" s_law_bad_name f fd) (T : Blt mg) (H_law_take : Has P w K mg base "_law_take" k ["store", "many"] spTake) (H_law_pick : Has P w K mg base "_law_pick" k ["store", "items"] spPick) (H_law_name : Has P w K mg base "_law_name" k ["store"] spName) : FnOk P w K mg base CX0 (k + 1) f fd ["store"] spBad := by
  refine F.ok sc_law_bad_name (fun vs H Q E h => ?_) (fun cdv A outer s H vs Q E hr h => ?_)
  · obtain ⟨S, rfl, _⟩ := h; rfl
  · obtain ⟨S, rfl, hS, h⟩ := h
    refine ⟨_, (pss_cons (ps_set (i := 1) sc_law_bad_name.nd rfl (.inl rfl) (pe_lst (pa_cons pe_str (pa_cons pe_str (pa_cons pe_str (pa_cons pe_str (pa_cons pe_str (pa_cons pe_str (pa_cons pe_str (pa_cons pe_str (pa_cons pe_str (pa_cons pe_str (pa_cons pe_str (pa_cons pe_str (pa_cons pe_str (pa_cons pe_str pa_nil))))))))))))))))
 (pss_cons (ps_set (i := 2) sc_law_bad_name.nd rfl (.inl rfl) (pe_callH H_law_take hr (by rfl) (pa_cons (pv 0) (pa_cons pe_int pa_nil))))
 (pss_cons (ps_if (pt_cmpR op_eq (pv 2) pe_int (nomark _)) (pss_one (ps_ret (pe_callH H_law_pick hr (by rfl) (pa_cons (pv 0) (pa_cons (pv 1) pa_nil))))) pss_nil)
 (pss_cons (ps_set (i := 3) sc_law_bad_name.nd rfl (.inl rfl) (pe_callH H_law_name hr (by rfl) (pa_cons (pv 0) pa_nil)))
 (pss_cons (ps_if (pt_cmpR op_eq (pv 2) pe_int (nomark _)) (pss_one (ps_ret (pe_op op_add_str (pv 3) (pe_slice sl_str pe_str po_none (po_some (pe_op op_sub pe_int (pe_callB call_len_str (by rfl) T.len (by decide +kernel) (pa_cons (pv 3) pa_nil)))))))) pss_nil)
 (pss_cons (ps_set (i := 4) sc_law_bad_name.nd rfl (.inl rfl) (pe_callH H_law_take hr (by rfl) (pa_cons (pv 0) (pa_cons (pe_op op_add (pe_callB call_len_str (by rfl) T.len (by decide +kernel) (pa_cons (pv 3) pa_nil)) pe_int) pa_nil))))
 (pss_one (ps_ret (pe_op op_add_str (pe_op op_add_str (pe_slice sl_str (pv 3) po_none (po_some (pv 4))) (pe_callH H_law_pick hr (by rfl) (pa_cons (pv 0) (pa_cons pe_str pa_nil)))) (pe_slice sl_str (pv 3) (po_some (pv 4)) po_none)))))))))), ?_⟩
    walk_at "rdB"
    refine ⟨sz (by simp), fun p np => ?_⟩
    walk_at "rdB"
    refine ⟨S, 4, rfl, by omega, hS.new np, fun r H1 r0 r1 hS1 e1 => ?_⟩
    have e1' := (ExS.new (S := S) np).trans e1
    walk_at "rdB"
    refine if_dec (fun hk => ?_) (fun hk => ?_)
    · walk_at "rdB"
      refine ⟨S, _, rfl, hS1, .inl ⟨p, menuL.map V.str, rfl, ⟨hS.ne1 np, e1 _ _ (hS.ne1 np) upd_same⟩, by decide, by decide, fun v H2 hv hS2 e2 => ?_⟩⟩
      obtain ⟨z, hz, rfl⟩ := List.mem_map.mp hv
      exact h z H2 (menuL_le z hz) hS2 (e1'.trans e2)
    · walk_at "rdB"
      refine ⟨S, rfl, hS1, fun z H2 hz hS2 e2 => ?_⟩
      obtain ⟨z1, z8⟩ := isNm_len hz
      have e2' := e1'.trans e2
      walk_at "rdB"
      refine if_dec (fun hk1 => ?_) (fun hk1 => ?_)
      · walk_at "rdB"
        refine ⟨sz (by omega), ?_⟩
        walk_at "rdB"
        refine rd_slS (by decide) ?_
        walk_at "rdB"
        have hc := cutS_len "0123456789" none (some (9 - (z.length : Int)))
        have h10 : ("0123456789" : Str).length = 10 := by decide +kernel
        exact ⟨sz (by omega), h _ _ ((OkS.nm hz).app digs_ok.cut (by omega)) hS2 e2'⟩
      · walk_at "rdB"
        refine ⟨sz (by omega), ?_⟩
        walk_at "rdB"
        refine ⟨S, _, rfl, by omega, hS2, fun r3 H3 r30 r31 hS3 e3 => ?_⟩
        walk_at "rdB"
        refine rd_slS (by omega) ?_
        walk_at "rdB"
        refine ⟨S, _, rfl, hS3, .inr ⟨_, rfl, by decide +kernel, by decide +kernel, fun c H4 hc hS4 e4 => ?_⟩⟩
        walk_at "rdB"
        have hl := cat3_len (c := c) (a := some r3) (b := some r3) z8
        rw [app_len] at hl
        have hl0 := app_len (cutS z none (some r3)) ⟨#[c]⟩
        have hl1 := one_len c
        refine ⟨sz (by omega), ?_⟩
        walk_at "rdB"
        refine rd_slS (by omega) ?_
        walk_at "rdB"
        exact ⟨sz (by omega), h _ _ ((((OkS.nm hz).cut).app (odd_ok.sign hc) (by omega : 8 + 1 ≤ 9)).app ((OkS.nm hz).cut) (by omega)) hS4 (e2'.trans (e3.trans e4))⟩
/-! ### _law_sign -/
def spSign : Sp := fun vs H Q _ => ∃ S : Sto, vs = [.ref S.1] ∧ StoreOk S H ∧ ∀ c H', c < 128 → StoreOk S H' → ExS S H H' → Q (.str ⟨#[c]⟩) H'
theorem ok_sign {k : Nat} {f : Addr} {fd : FuncData} (F : Fun K "_law_sign" "_law_sign" s_law_sign f fd) (T : Blt mg) (H_law_pick : Has P w K mg base "_law_pick" k ["store", "items"] spPick) : FnOk P w K mg base CX0 (k + 1) f fd ["store"] spSign := by
  refine F.ok sc_law_sign (fun vs H Q E h => ?_) (fun cdv A outer s H vs Q E hr h => ?_)
  · obtain ⟨S, rfl, _⟩ := h; rfl
  · obtain ⟨S, rfl, hS, h⟩ := h
    refine ⟨_, (pss_cons (ps_set (i := 1) sc_law_sign.nd rfl (.inl rfl) pe_str)
 (pss_one (ps_ret (pe_callH H_law_pick hr (by rfl) (pa_cons (pv 0) (pa_cons (pe_op op_add_str (pv 1) pe_str) pa_nil)))))), ?_⟩
    walk_at "rdB"
    refine ⟨by decide +kernel, S, _, rfl, hS, .inr ⟨_, rfl, by decide +kernel, by decide +kernel, fun c H1 hc hS1 e1 => ?_⟩⟩
    exact h c H1 ((okS_iff.mp (show OkS 100 _ from by decide +kernel)).2 c hc) hS1 e1
/-! ### _law_text -/
def spText : Sp := fun vs H Q _ => ∃ S : Sto, ∃ n : Nat, vs = [.ref S.1, .int n] ∧ n ≤ 20 ∧ StoreOk S H ∧ ∀ z H', OkS n z → StoreOk S H' → ExS S H H' → Q (.str z) H'
theorem ok_text {k : Nat} {f : Addr} {fd : FuncData} (F : Fun K "_law_text" "_law_text" s_law_text f fd) (T : Blt mg) (H_law_take : Has P w K mg base "_law_take" k ["store", "many"] spTake) (H_law_sign : Has P w K mg base "_law_sign" k ["store"] spSign) : FnOk P w K mg base CX0 (k + 1) f fd ["store", "longest"] spText := by
  refine F.ok sc_law_text (fun vs H Q E h => ?_) (fun cdv A outer s H vs Q E hr h => ?_)
  · obtain ⟨S, n, rfl, _⟩ := h; rfl
  · obtain ⟨S, n, rfl, hn, hS, h⟩ := h
    refine ⟨_, (pss_cons (ps_set (i := 2) sc_law_text.nd rfl (.inl rfl) pe_str)
 (pss_cons (ps_for PassesOwn.never rfl (pi_range1 rfl T.range (pa_cons (pe_callH H_law_take hr (by rfl) (pa_cons (pv 0) (pa_cons (pe_op op_add (pv 1) pe_int) pa_nil))) pa_nil)) (pg_name (i := 3) sc_law_text.nd rfl (.inl rfl)) (pss_one (ps_set (i := 2) sc_law_text.nd rfl (.inl rfl) (pe_op op_add_str (pv 2) (pe_callH H_law_sign hr (by rfl) (pa_cons (pv 0) pa_nil))))))
 (pss_one (ps_ret (pv 2))))), ?_⟩
    walk_at "rdB"
    refine ⟨S, _, rfl, by omega, hS, fun r H1 r0 r1 hS1 e1 => ?_⟩
    walk_at "rdB"
    refine ⟨by omega, by omega, for_rng (fun i σ H' => ∃ z y, σ = [some (.ref S.1), some (.int n), some (.str z), y] ∧ OkS i z ∧ StoreOk S H' ∧ ExS S H H') ⟨_, _, rfl, by decide +kernel, hS1, e1⟩ ?_ ?_⟩
    · rintro i σ H2 hi ⟨z, y, rfl, hz, hS2, e2⟩
      have hzl := hz.len
      walk_at "rdB"
      refine ⟨S, rfl, hS2, fun c H3 hc hS3 e3 => ?_⟩
      walk_at "rdB"
      refine ⟨sz (by rw [one_len]; omega), ?_⟩
      walk_at "rdB"
      exact ⟨_, _, rfl, hz.app (OkS.one hc) (by omega), hS3, e2.trans e3⟩
    · rintro σ H2 ⟨z, y, rfl, hz, hS2, e2⟩
      walk_at "rdB"
      exact h z H2 (hz.mono (by omega)) hS2 e2
/-! ### _law_near_name -/
theorem ok_near_name {k : Nat} {f : Addr} {fd : FuncData} (F : Fun K "_law_near_name" "_law_near_name" s_law_near_name f fd) (T : Blt mg) (H_law_take : Has P w K mg base "_law_take" k ["store", "many"] spTake) (H_law_pick : Has P w K mg base "_law_pick" k ["store", "items"] spPick) (H_law_name : Has P w K mg base "_law_name" k ["store"] spName) (H_law_bad_name : Has P w K mg base "_law_bad_name" k ["store"] spBad) (H_law_sign : Has P w K mg base "_law_sign" k ["store"] spSign) (H_law_text : Has P w K mg base "_law_text" k ["store", "longest"] spText) : FnOk P w K mg base CX0 (k + 1) f fd ["store"] spBad := by
  refine F.ok sc_law_near_name (fun vs H Q E h => ?_) (fun cdv A outer s H vs Q E hr h => ?_)
  · obtain ⟨S, rfl, _⟩ := h; rfl
  · obtain ⟨S, rfl, hS, h⟩ := h
    refine ⟨_, (pss_cons (ps_set (i := 1) sc_law_near_name.nd rfl (.inl rfl) (pe_callH H_law_take hr (by rfl) (pa_cons (pv 0) (pa_cons pe_int pa_nil))))
 (pss_cons (ps_if (pt_cmpR op_eq (pv 1) pe_int (nomark _)) (pss_one (ps_ret (pe_callH H_law_bad_name hr (by rfl) (pa_cons (pv 0) pa_nil)))) pss_nil)
 (pss_cons (ps_if (pt_cmpR op_eq (pv 1) pe_int (nomark _)) (pss_one (ps_ret (pe_callH H_law_text hr (by rfl) (pa_cons (pv 0) (pa_cons pe_int pa_nil))))) pss_nil)
 (pss_cons (ps_set (i := 2) sc_law_near_name.nd rfl (.inl rfl) (pe_callH H_law_name hr (by rfl) (pa_cons (pv 0) pa_nil)))
 (pss_cons (ps_set (i := 3) sc_law_near_name.nd rfl (.inl rfl) (pe_callH H_law_take hr (by rfl) (pa_cons (pv 0) (pa_cons (pe_callB call_len_str (by rfl) T.len (by decide +kernel) (pa_cons (pv 2) pa_nil)) pa_nil))))
 (pss_cons (ps_if (pt_cmpR op_eq (pv 1) pe_int (nomark _)) (pss_one (ps_ret (pe_op op_add_str (pe_op op_add_str (pe_slice sl_str (pv 2) po_none (po_some (pv 3))) (pe_callH H_law_sign hr (by rfl) (pa_cons (pv 0) pa_nil))) (pe_slice sl_str (pv 2) (po_some (pe_op op_add (pv 3) pe_int)) po_none)))) pss_nil)
 (pss_cons (ps_if (pt_cmpR op_eq (pv 1) pe_int (nomark _)) (pss_one (ps_ret (pe_op op_add_str (pe_op op_add_str (pe_slice sl_str (pv 2) po_none (po_some (pv 3))) (pe_callH H_law_pick hr (by rfl) (pa_cons (pv 0) (pa_cons pe_str pa_nil)))) (pe_slice sl_str (pv 2) (po_some (pv 3)) po_none)))) pss_nil)
 (pss_one (ps_ret (pv 2)))))))))), ?_⟩
    walk_at "rdB"
    refine ⟨S, 6, rfl, by omega, hS, fun r H1 r0 r1 hS1 e1 => ?_⟩
    walk_at "rdB"
    refine if_dec (fun hk => ?_) (fun hk => ?_)
    · walk_at "rdB"
      exact ⟨S, rfl, hS1, fun z H2 hz hS2 e2 => h z H2 hz hS2 (e1.trans e2)⟩
    · walk_at "rdB"
      refine if_dec (fun hk5 => ?_) (fun hk5 => ?_)
      · walk_at "rdB"
        exact ⟨S, 9, rfl, by omega, hS1, fun z H2 hz hS2 e2 => h z H2 (hz.mono (by omega)) hS2 (e1.trans e2)⟩
      · walk_at "rdB"
        refine ⟨S, rfl, hS1, fun z H2 hz hS2 e2 => ?_⟩
        obtain ⟨z1, z8⟩ := isNm_len hz
        have e2' := e1.trans e2
        walk_at "rdB"
        refine ⟨sz (by omega), ?_⟩
        walk_at "rdB"
        refine ⟨S, _, rfl, by omega, hS2, fun r3 H3 r30 r31 hS3 e3 => ?_⟩
        have e3' := e2'.trans e3
        walk_at "rdB"
        refine if_dec (fun hk2 => ?_) (fun hk2 => ?_)
        · walk_at "rdB"
          refine rd_slS (by omega) ?_
          walk_at "rdB"
          refine ⟨S, rfl, hS3, fun c H4 hc hS4 e4 => ?_⟩
          walk_at "rdB"
          have hl := cat3_len (c := c) (a := some r3) (b := some (r3 + 1)) z8
          rw [app_len] at hl
          have hl0 := app_len (cutS z none (some r3)) ⟨#[c]⟩
          have hl1 := one_len c
          refine ⟨sz (by omega), ?_⟩
          walk_at "rdB"
          refine rd_slS (by omega) ?_
          walk_at "rdB"
          exact ⟨sz (by omega), h _ _ ((((OkS.nm hz).cut).app (OkS.one hc) (by omega : 8 + 1 ≤ 9)).app ((OkS.nm hz).cut) (by omega)) hS4 (e3'.trans e4)⟩
        · walk_at "rdB"
          refine if_dec (fun hk3 => ?_) (fun hk3 => ?_)
          · walk_at "rdB"
            refine rd_slS (by omega) ?_
            walk_at "rdB"
            refine ⟨S, _, rfl, hS3, .inr ⟨_, rfl, by decide +kernel, by decide +kernel, fun c H4 hc hS4 e4 => ?_⟩⟩
            walk_at "rdB"
            have hl := cat3_len (c := c) (a := some r3) (b := some r3) z8
            rw [app_len] at hl
            have hl0 := app_len (cutS z none (some r3)) ⟨#[c]⟩
            have hl1 := one_len c
            refine ⟨sz (by omega), ?_⟩
            walk_at "rdB"
            refine rd_slS (by omega) ?_
            walk_at "rdB"
            exact ⟨sz (by omega), h _ _ ((((OkS.nm hz).cut).app (near_ok.sign hc) (by omega : 8 + 1 ≤ 9)).app ((OkS.nm hz).cut) (by omega)) hS4 (e3'.trans e4)⟩
          · walk_at "rdB"
            exact h z H3 ((OkS.nm hz).mono (by omega)) hS3 e3'
/-! ### _law_is_name -/
def spIsName : Sp := fun vs H Q _ => ∃ z : Str, vs = [.str z] ∧ z.length ≤ 1000 ∧ ∀ H', Same H H' → Q (.bl (isNm z)) H'
theorem ok_is_name {k : Nat} {f : Addr} {fd : FuncData} (F : Fun K "_law_is_name" "_law_is_name" s_law_is_name f fd) (T : Blt mg) : FnOk P w K mg base CX0 (k + 1) f fd ["text"] spIsName := by
  refine F.ok sc_law_is_name (fun vs H Q E h => ?_) (fun cdv A outer s H vs Q E hr h => ?_)
  · obtain ⟨z, rfl, _⟩ := h; rfl
  · obtain ⟨z, rfl, hz, h⟩ := h
    have h := h H (Same.refl H)
    refine ⟨_, (pss_cons (ps_if (PW.pt (pw_or (pt_cmpR op_lt (pe_callB call_len_str (by rfl) T.len (by decide +kernel) (pa_cons (pv 0) pa_nil)) pe_int (nomark _)) (pw_or (pt_cmpR op_gt (pe_callB call_len_str (by rfl) T.len (by decide +kernel) (pa_cons (pv 0) pa_nil)) pe_int (nomark _)) (pw_or1 (pt_cmpR op_notIn_sign (pe_ix ix_str (pv 0) pe_int (fun _ _ => rfl)) pe_str (by rfl)))))) (pss_one (ps_ret pe_bl)) pss_nil)
 (pss_cons (ps_for PassesOwn.never rfl (pi_str (pv 0)) (pg_name (i := 1) sc_law_is_name.nd rfl (.inl rfl)) (pss_one (ps_if (pt_cmpR op_notIn_sign (pv 1) pe_str (by rfl)) (pss_one (ps_ret pe_bl)) pss_nil)))
 (pss_one (ps_ret pe_bl)))), ?_⟩
    walk_at "rdB"
    refine ⟨sz (by omega), ?_⟩
    walk_at "rdB"
    refine if_dec (fun h1 => ?_) (fun h1 => ?_)
    · walk_at "rdB"
      rw [isNm_zero (by omega)] at h
      exact h
    · walk_at "rdB"
      refine ⟨sz (by omega), ?_⟩
      obtain ⟨c, l, e⟩ : ∃ c l, z.cps.toList = c :: l := by
        cases e : z.cps.toList with
        | nil => have := len_l z; rw [e] at this; simp at this; omega
        | cons c l => exact ⟨c, l, rfl⟩
      have en := isNm_of e
      rw [en] at h
      walk_at "rdB"
      refine if_dec (fun h8 => ?_) (fun h8 => ?_)
      · walk_at "rdB"
        rw [decide_eq_false (by omega)] at h
        exact h
      · walk_at "rdB"
        refine rd_ixS (c := c) (by omega) (by rw [e]; exact atI_zero) ?_
        walk_at "rdB"
        refine rd_inS ?_
        walk_at "rdB"
        rw [decide_eq_true (by omega : z.length ≤ 8), Bool.true_and] at h
        refine if_ndec (fun hc => ?_) (fun hc => ?_)
        · walk_at "rdB"
          rw [show decide (c ∈ lets.cps.toList) = false from decide_eq_false hc] at h
          exact h
        · walk_at "rdB"
          rw [show decide (c ∈ lets.cps.toList) = true from decide_eq_true hc, Bool.true_and] at h
          refine for_sgn (fun i σ H' => ∃ y, σ = [some (.str z), y] ∧ H' = H ∧ ∀ d ∈ z.cps.toList.take i, d ∈ letsD.cps.toList) ⟨_, rfl, rfl, by simp⟩ ?_ ?_
          · rintro i d σ H1 hd ⟨y, rfl, rfl, ha⟩
            walk_at "rdB"
            refine rd_inS ?_
            walk_at "rdB"
            refine if_ndec (fun hn => ?_) (fun hn => ?_)
            · walk_at "rdB"
              rw [show (z.cps.toList.all fun d => decide (d ∈ letsD.cps.toList)) = false from ?_] at h
              · exact h
              · rw [List.all_eq_false]
                exact ⟨d, List.mem_of_getElem? hd, by rw [show decide (d ∈ letsD.cps.toList) = false from decide_eq_false hn]; simp⟩
            · walk_at "rdB"
              refine ⟨_, rfl, rfl, fun x hx => ?_⟩
              rw [List.take_add_one, hd] at hx
              rcases List.mem_append.mp hx with q | q
              · exact ha x q
              · have : x = d := by simpa using q
                rw [this]; exact hn
          · rintro σ H1 ⟨y, rfl, rfl, ha⟩
            walk_at "rdB"
            rw [← len_l, List.take_length] at ha
            rw [show (z.cps.toList.all fun d => decide (d ∈ letsD.cps.toList)) = true from List.all_eq_true.mpr fun d hd => decide_eq_true (ha d hd)] at h
            exact h
end

abbrev s_law_match : Stmt := topS 24
theorem sc_law_match : FnScope ["left", "right", "strict", "k"] ["left", "right", "strict"] (defScope s_law_match) := ⟨rfl, rfl, rfl, by decide +kernel, rfl, by decide +kernel, by decide +kernel⟩
abbrev s_law_same : Stmt := topS 26
theorem sc_law_same : FnScope ["actual", "expected"] ["actual", "expected"] (defScope s_law_same) := ⟨rfl, rfl, rfl, by decide +kernel, rfl, by decide +kernel, by decide +kernel⟩

section
variable {P : Program} {w : World} {K : PySem.W.Frag} {mg : Str → Option Value} {base : Heap}
/-! ### _law_match, _law_same -/
def spMatch (n : Nat) : Sp := fun vs H Q _ => ∃ x y st, vs = [x, y, .bl st] ∧ ((Sc x ∧ Sc y ∧ ∀ H', Same H H' → Q (.bl (decide (x = y))) H') ∨ (Alike H n x y ∧ ∀ H', Same H H' → Q (.bl true) H'))
theorem ok_match0 {k : Nat} {f : Addr} {fd : FuncData} (F : Fun K "_law_match" "_law_match" s_law_match f fd) (T : Blt mg) : FnOk P w K mg base CX0 (k + 1) f fd ["left", "right", "strict"] (spMatch 0) := by
  refine F.ok sc_law_match (fun vs H Q E h => ?_) (fun cdv A outer s H vs Q E hr h => ?_)
  · obtain ⟨x, y, st, rfl, _⟩ := h; rfl
  · obtain ⟨x, y, st, rfl, h⟩ := h
    have h : Sc x ∧ Sc y ∧ ∀ H', Same H H' → Q (.bl (decide (x = y))) H' := by
      rcases h with h | ⟨⟨h1, rfl⟩, h⟩
      · exact h
      · exact ⟨h1, h1, fun H' e => by rw [decide_eq_true rfl]; exact h H' e⟩
    refine ⟨_, (pss_cons (ps_if (PW.pt (pw_or (pt_cmpR op_isN (pv 0) pe_non (nomark _)) (pw_or1 (pt_cmpR op_isN (pv 1) pe_non (nomark _))))) (pss_one (ps_ret (pe_and (pe_cmpR op_isN (pv 0) pe_non (nomark _)) (pe_one (pe_cmpR op_isN (pv 1) pe_non (nomark _)))))) pss_nil)
 (pss_cons (ps_if (PW.pt (pw_or (pt_val (pe_callB call_isi (by rfl) T.isinstance (by decide +kernel) (pa_cons (pv 0) (pa_cons (pe_bltn (v := .ty "bool") rfl T.bool (by decide +kernel) rfl) pa_nil)))) (pw_or1 (pt_val (pe_callB call_isi (by rfl) T.isinstance (by decide +kernel) (pa_cons (pv 1) (pa_cons (pe_bltn (v := .ty "bool") rfl T.bool (by decide +kernel) rfl) pa_nil))))))) (pss_one (ps_ret (pe_and (pe_callB call_isi (by rfl) T.isinstance (by decide +kernel) (pa_cons (pv 0) (pa_cons (pe_bltn (v := .ty "bool") rfl T.bool (by decide +kernel) rfl) pa_nil))) (pe_and (pe_callB call_isi (by rfl) T.isinstance (by decide +kernel) (pa_cons (pv 1) (pa_cons (pe_bltn (v := .ty "bool") rfl T.bool (by decide +kernel) rfl) pa_nil))) (pe_one (pe_cmpR op_eq (pv 0) (pv 1) (nomark _))))))) pss_nil)
 (pss_cons (ps_if (PW.pt (pw_or (pt_val (pe_callB call_isi (by rfl) T.isinstance (by decide +kernel) (pa_cons (pv 0) (pa_cons (pe_bltn (v := .ty "int") rfl T.int (by decide +kernel) rfl) pa_nil)))) (pw_or1 (pt_val (pe_callB call_isi (by rfl) T.isinstance (by decide +kernel) (pa_cons (pv 1) (pa_cons (pe_bltn (v := .ty "int") rfl T.int (by decide +kernel) rfl) pa_nil))))))) (pss_one (ps_ret (pe_and (pe_callB call_isi (by rfl) T.isinstance (by decide +kernel) (pa_cons (pv 0) (pa_cons (pe_bltn (v := .ty "int") rfl T.int (by decide +kernel) rfl) pa_nil))) (pe_and (pe_callB call_isi (by rfl) T.isinstance (by decide +kernel) (pa_cons (pv 1) (pa_cons (pe_bltn (v := .ty "int") rfl T.int (by decide +kernel) rfl) pa_nil))) (pe_one (pe_cmpR op_eq (pv 0) (pv 1) (nomark _))))))) pss_nil)
 (pss_cons (ps_if (PW.pt (pw_or (pt_val (pe_callB call_isi (by rfl) T.isinstance (by decide +kernel) (pa_cons (pv 0) (pa_cons (pe_bltn (v := .ty "str") rfl T.str (by decide +kernel) rfl) pa_nil)))) (pw_or1 (pt_val (pe_callB call_isi (by rfl) T.isinstance (by decide +kernel) (pa_cons (pv 1) (pa_cons (pe_bltn (v := .ty "str") rfl T.str (by decide +kernel) rfl) pa_nil))))))) (pss_one (ps_ret (pe_and (pe_callB call_isi (by rfl) T.isinstance (by decide +kernel) (pa_cons (pv 0) (pa_cons (pe_bltn (v := .ty "str") rfl T.str (by decide +kernel) rfl) pa_nil))) (pe_and (pe_callB call_isi (by rfl) T.isinstance (by decide +kernel) (pa_cons (pv 1) (pa_cons (pe_bltn (v := .ty "str") rfl T.str (by decide +kernel) rfl) pa_nil))) (pe_one (pe_cmpR op_eq (pv 0) (pv 1) (nomark _))))))) pss_nil)
 (pss_cons (ps_if (PW.pt (pw_or (pt_val (pe_callB call_isi (by rfl) T.isinstance (by decide +kernel) (pa_cons (pv 0) (pa_cons (pe_bltn (v := .ty "dict") rfl T.dict (by decide +kernel) rfl) pa_nil)))) (pw_or1 (pt_val (pe_callB call_isi (by rfl) T.isinstance (by decide +kernel) (pa_cons (pv 1) (pa_cons (pe_bltn (v := .ty "dict") rfl T.dict (by decide +kernel) rfl) pa_nil))))))) (pss_one ps_never) pss_nil)
 (pss_cons (ps_if (PW.pt (pw_or (pt_not (pt_val (pe_callB call_isiT (by rfl) T.isinstance (by decide +kernel) (pa_cons (pv 0) (pa_cons (pe_tup (pa_cons (pe_bltn (v := .ty "list") rfl T.list' (by decide +kernel) rfl) (pa_cons (pe_bltn (v := .ty "tuple") rfl T.tuple (by decide +kernel) rfl) pa_nil))) pa_nil))))) (pw_or1 (pt_not (pt_val (pe_callB call_isiT (by rfl) T.isinstance (by decide +kernel) (pa_cons (pv 1) (pa_cons (pe_tup (pa_cons (pe_bltn (v := .ty "list") rfl T.list' (by decide +kernel) rfl) (pa_cons (pe_bltn (v := .ty "tuple") rfl T.tuple (by decide +kernel) rfl) pa_nil))) pa_nil)))))))) (pss_one (ps_ret pe_bl)) pss_nil)
 (pss_cons (ps_if (PW.pt (pw_or (pt_cmpR op_ne (pe_callB call_len_seq (by rfl) T.len (by decide +kernel) (pa_cons (pv 0) pa_nil)) (pe_callB call_len_seq (by rfl) T.len (by decide +kernel) (pa_cons (pv 1) pa_nil)) (nomark _)) (pw_or1 (PW.pt (pw_and (pt_val (pv 2)) (pw_and1 (pt_cmpR op_ne (pe_callB call_isi (by rfl) T.isinstance (by decide +kernel) (pa_cons (pv 0) (pa_cons (pe_bltn (v := .ty "list") rfl T.list' (by decide +kernel) rfl) pa_nil))) (pe_callB call_isi (by rfl) T.isinstance (by decide +kernel) (pa_cons (pv 1) (pa_cons (pe_bltn (v := .ty "list") rfl T.list' (by decide +kernel) rfl) pa_nil))) (nomark _)))))))) (pss_one (ps_ret pe_bl)) pss_nil)
 (pss_cons ps_never
 (pss_one (ps_ret pe_bl)))))))))), ?_⟩
    obtain ⟨hx, hy, h⟩ := h
    have h := h H (Same.refl H)
    cases x <;> first | exact hx.elim | skip
    all_goals cases y <;> first | exact hy.elim | skip
    all_goals walk_at "rdB"
    all_goals first | exact h | (have e := h; simp at e ⊢; exact e)
theorem ok_matchS {n : Nat} {k : Nat} {f : Addr} {fd : FuncData} (F : Fun K "_law_match" "_law_match" s_law_match f fd) (T : Blt mg) (H_law_match : Has P w K mg base "_law_match" k ["left", "right", "strict"] (spMatch n)) : FnOk P w K mg base CX0 (k + 1) f fd ["left", "right", "strict"] (spMatch (n + 1)) := by
  refine F.ok sc_law_match (fun vs H Q E h => ?_) (fun cdv A outer s H vs Q E hr h => ?_)
  · obtain ⟨x, y, st, rfl, _⟩ := h; rfl
  · obtain ⟨x, y, st, rfl, h⟩ := h
    have h : (Sc x ∧ Sc y ∧ ∀ H', Same H H' → Q (.bl (decide (x = y))) H') ∨ ((∃ (a b : Addr) (xs ys : List V), x = .ref a ∧ y = .ref b ∧ ((H a = some (.lst xs) ∧ H b = some (.lst ys)) ∨ (H a = some (.tup xs) ∧ H b = some (.tup ys))) ∧ xs.length = ys.length ∧ xs.length ≤ 100000 ∧ ∀ (i : Nat) (u v : V), xs[i]? = some u → ys[i]? = some v → Alike H n u v) ∧ ∀ H', Same H H' → Q (.bl true) H') := by
      rcases h with h | ⟨⟨h1, rfl⟩ | h1, h⟩
      · exact .inl h
      · exact .inl ⟨h1, h1, fun H' e => by rw [decide_eq_true rfl]; exact h H' e⟩
      · exact .inr ⟨h1, h⟩
    refine ⟨_, (pss_cons (ps_if (PW.pt (pw_or (pt_cmpR op_isN (pv 0) pe_non (nomark _)) (pw_or1 (pt_cmpR op_isN (pv 1) pe_non (nomark _))))) (pss_one (ps_ret (pe_and (pe_cmpR op_isN (pv 0) pe_non (nomark _)) (pe_one (pe_cmpR op_isN (pv 1) pe_non (nomark _)))))) pss_nil)
 (pss_cons (ps_if (PW.pt (pw_or (pt_val (pe_callB call_isi (by rfl) T.isinstance (by decide +kernel) (pa_cons (pv 0) (pa_cons (pe_bltn (v := .ty "bool") rfl T.bool (by decide +kernel) rfl) pa_nil)))) (pw_or1 (pt_val (pe_callB call_isi (by rfl) T.isinstance (by decide +kernel) (pa_cons (pv 1) (pa_cons (pe_bltn (v := .ty "bool") rfl T.bool (by decide +kernel) rfl) pa_nil))))))) (pss_one (ps_ret (pe_and (pe_callB call_isi (by rfl) T.isinstance (by decide +kernel) (pa_cons (pv 0) (pa_cons (pe_bltn (v := .ty "bool") rfl T.bool (by decide +kernel) rfl) pa_nil))) (pe_and (pe_callB call_isi (by rfl) T.isinstance (by decide +kernel) (pa_cons (pv 1) (pa_cons (pe_bltn (v := .ty "bool") rfl T.bool (by decide +kernel) rfl) pa_nil))) (pe_one (pe_cmpR op_eq (pv 0) (pv 1) (nomark _))))))) pss_nil)
 (pss_cons (ps_if (PW.pt (pw_or (pt_val (pe_callB call_isi (by rfl) T.isinstance (by decide +kernel) (pa_cons (pv 0) (pa_cons (pe_bltn (v := .ty "int") rfl T.int (by decide +kernel) rfl) pa_nil)))) (pw_or1 (pt_val (pe_callB call_isi (by rfl) T.isinstance (by decide +kernel) (pa_cons (pv 1) (pa_cons (pe_bltn (v := .ty "int") rfl T.int (by decide +kernel) rfl) pa_nil))))))) (pss_one (ps_ret (pe_and (pe_callB call_isi (by rfl) T.isinstance (by decide +kernel) (pa_cons (pv 0) (pa_cons (pe_bltn (v := .ty "int") rfl T.int (by decide +kernel) rfl) pa_nil))) (pe_and (pe_callB call_isi (by rfl) T.isinstance (by decide +kernel) (pa_cons (pv 1) (pa_cons (pe_bltn (v := .ty "int") rfl T.int (by decide +kernel) rfl) pa_nil))) (pe_one (pe_cmpR op_eq (pv 0) (pv 1) (nomark _))))))) pss_nil)
 (pss_cons (ps_if (PW.pt (pw_or (pt_val (pe_callB call_isi (by rfl) T.isinstance (by decide +kernel) (pa_cons (pv 0) (pa_cons (pe_bltn (v := .ty "str") rfl T.str (by decide +kernel) rfl) pa_nil)))) (pw_or1 (pt_val (pe_callB call_isi (by rfl) T.isinstance (by decide +kernel) (pa_cons (pv 1) (pa_cons (pe_bltn (v := .ty "str") rfl T.str (by decide +kernel) rfl) pa_nil))))))) (pss_one (ps_ret (pe_and (pe_callB call_isi (by rfl) T.isinstance (by decide +kernel) (pa_cons (pv 0) (pa_cons (pe_bltn (v := .ty "str") rfl T.str (by decide +kernel) rfl) pa_nil))) (pe_and (pe_callB call_isi (by rfl) T.isinstance (by decide +kernel) (pa_cons (pv 1) (pa_cons (pe_bltn (v := .ty "str") rfl T.str (by decide +kernel) rfl) pa_nil))) (pe_one (pe_cmpR op_eq (pv 0) (pv 1) (nomark _))))))) pss_nil)
 (pss_cons (ps_if (PW.pt (pw_or (pt_val (pe_callB call_isi (by rfl) T.isinstance (by decide +kernel) (pa_cons (pv 0) (pa_cons (pe_bltn (v := .ty "dict") rfl T.dict (by decide +kernel) rfl) pa_nil)))) (pw_or1 (pt_val (pe_callB call_isi (by rfl) T.isinstance (by decide +kernel) (pa_cons (pv 1) (pa_cons (pe_bltn (v := .ty "dict") rfl T.dict (by decide +kernel) rfl) pa_nil))))))) (pss_one ps_never) pss_nil)
 (pss_cons (ps_if (PW.pt (pw_or (pt_not (pt_val (pe_callB call_isiT (by rfl) T.isinstance (by decide +kernel) (pa_cons (pv 0) (pa_cons (pe_tup (pa_cons (pe_bltn (v := .ty "list") rfl T.list' (by decide +kernel) rfl) (pa_cons (pe_bltn (v := .ty "tuple") rfl T.tuple (by decide +kernel) rfl) pa_nil))) pa_nil))))) (pw_or1 (pt_not (pt_val (pe_callB call_isiT (by rfl) T.isinstance (by decide +kernel) (pa_cons (pv 1) (pa_cons (pe_tup (pa_cons (pe_bltn (v := .ty "list") rfl T.list' (by decide +kernel) rfl) (pa_cons (pe_bltn (v := .ty "tuple") rfl T.tuple (by decide +kernel) rfl) pa_nil))) pa_nil)))))))) (pss_one (ps_ret pe_bl)) pss_nil)
 (C8.pss_cut (ps_if (PW.pt (pw_or (pt_cmpR op_ne (pe_callB call_len_seq (by rfl) T.len (by decide +kernel) (pa_cons (pv 0) pa_nil)) (pe_callB call_len_seq (by rfl) T.len (by decide +kernel) (pa_cons (pv 1) pa_nil)) (nomark _)) (pw_or1 (PW.pt (pw_and (pt_val (pv 2)) (pw_and1 (pt_cmpR op_ne (pe_callB call_isi (by rfl) T.isinstance (by decide +kernel) (pa_cons (pv 0) (pa_cons (pe_bltn (v := .ty "list") rfl T.list' (by decide +kernel) rfl) pa_nil))) (pe_callB call_isi (by rfl) T.isinstance (by decide +kernel) (pa_cons (pv 1) (pa_cons (pe_bltn (v := .ty "list") rfl T.list' (by decide +kernel) rfl) pa_nil))) (nomark _)))))))) (pss_one (ps_ret pe_bl)) pss_nil)
 (pss_cons (ps_for PassesOwn.never rfl (pi_range1 rfl T.range (pa_cons (pe_callB call_len_seq (by rfl) T.len (by decide +kernel) (pa_cons (pv 0) pa_nil)) pa_nil)) (pg_name (i := 3) sc_law_match.nd rfl (.inl rfl)) (pss_one (ps_if (pt_not (pt_val (pe_callH H_law_match hr (by rfl) (pa_cons (pe_ix ix_seq (pv 0) (pv 3) (fun _ _ => rfl)) (pa_cons (pe_ix ix_seq (pv 1) (pv 3) (fun _ _ => rfl)) (pa_cons (pv 2) pa_nil)))))) (pss_one (ps_ret pe_bl)) pss_nil)))
 (pss_one (ps_ret pe_bl)))))))))), ?_⟩
    rcases h with ⟨hx, hy, h⟩ | ⟨⟨a, b, xs, ys, rfl, rfl, hab, hl, h100, hi⟩, hq⟩
    · have h := h H (Same.refl H)
      cases x <;> first | exact hx.elim | skip
      all_goals cases y <;> first | exact hy.elim | skip
      all_goals walk_at "rdB"
      all_goals first | exact h | (have e := h; simp at e ⊢; exact e)
    · rcases hab with ⟨ha, hb⟩ | ⟨ha, hb⟩
      · walk_at "rdB"
        refine ⟨sz (by simp), fun p np => ?_⟩
        walk_at "rdB"
        have ha1 := same_new (o := .tup [V.ty "list", V.ty "tuple"]) np _ _ ha
        have hb1 := same_new (o := .tup [V.ty "list", V.ty "tuple"]) np _ _ hb
        refine rd_isiLT upd_same (.lst ha1) ka_list ?_
        walk_at "rdB"
        refine ⟨sz (by simp), fun p2 np2 => ?_⟩
        walk_at "rdB"
        have s2 := (same_new (o := .tup [V.ty "list", V.ty "tuple"]) np).trans (same_new (o := .tup [V.ty "list", V.ty "tuple"]) np2)
        have ha2 := s2 _ _ ha
        have hb2 := s2 _ _ hb
        refine rd_isiLT upd_same (.lst hb2) ka_list ?_
        walk_at "rdB"
        refine rd_cut (fun σ' H' => σ' = [some (.ref a), some (.ref b), some (.bl st), none] ∧ Same H H') ?_ ?_
        · walk_at "rdB"
          refine rd_seqL ha2 ?_
          walk_at "rdB"
          refine rd_seqL hb2 ?_
          walk_at "rdB"
          refine if_ndec (fun hne => absurd (by rw [hl]) hne) (fun _ => ?_)
          walk_at "rdB"
          refine if_bool (fun hst => ?_) (fun hst => ?_)
          · walk_at "rdB"
            first | rw [decTF] | rw [show decide (false = false) = true from rfl]
            walk_at "rdB"
            exact ⟨rfl, s2⟩
          · walk_at "rdB"
            exact ⟨rfl, s2⟩
        · rintro σ' H3 ⟨rfl, s3⟩
          have ha3 := s3 _ _ ha
          have hb3 := s3 _ _ hb
          walk_at "rdB"
          refine rd_seqL ha3 ?_
          walk_at "rdB"
          refine ⟨by omega, ?_, for_rng (fun i σ H' => ∃ y, σ = [some (.ref a), some (.ref b), some (.bl st), y] ∧ Same H H') ⟨none, rfl, s3⟩ ?_ ?_⟩
          · omega
          · rintro i σ H4 hi4 ⟨y, rfl, s4⟩
            have ha4 := s4 _ _ ha
            have hb4 := s4 _ _ hb
            obtain ⟨c1, e1⟩ := atI_get (xs := xs) (i := (i : Int)) (by omega) (by omega)
            obtain ⟨c2, e2⟩ := atI_get (xs := ys) (i := (i : Int)) (by omega) (by omega)
            walk_at "rdB"
            refine rd_ixQL ha4 e1 ?_
            walk_at "rdB"
            refine rd_ixQL hb4 e2 ?_
            walk_at "rdB"
            refine ⟨_, _, _, rfl, .inr ⟨(hi i _ _ (by simp) (by simp)).same s4, fun H5 s5 => ?_⟩⟩
            walk_at "rdB"
            exact ⟨_, rfl, s4.trans s5⟩
          · rintro σ H4 ⟨y, rfl, s4⟩
            walk_at "rdB"
            exact hq H4 s4
      · walk_at "rdB"
        refine ⟨sz (by simp), fun p np => ?_⟩
        walk_at "rdB"
        have ha1 := same_new (o := .tup [V.ty "list", V.ty "tuple"]) np _ _ ha
        have hb1 := same_new (o := .tup [V.ty "list", V.ty "tuple"]) np _ _ hb
        refine rd_isiLT upd_same (.tup ha1) ka_tuple ?_
        walk_at "rdB"
        refine ⟨sz (by simp), fun p2 np2 => ?_⟩
        walk_at "rdB"
        have s2 := (same_new (o := .tup [V.ty "list", V.ty "tuple"]) np).trans (same_new (o := .tup [V.ty "list", V.ty "tuple"]) np2)
        have ha2 := s2 _ _ ha
        have hb2 := s2 _ _ hb
        refine rd_isiLT upd_same (.tup hb2) ka_tuple ?_
        walk_at "rdB"
        refine rd_cut (fun σ' H' => σ' = [some (.ref a), some (.ref b), some (.bl st), none] ∧ Same H H') ?_ ?_
        · walk_at "rdB"
          refine rd_seqT ha2 ?_
          walk_at "rdB"
          refine rd_seqT hb2 ?_
          walk_at "rdB"
          refine if_ndec (fun hne => absurd (by rw [hl]) hne) (fun _ => ?_)
          walk_at "rdB"
          refine if_bool (fun hst => ?_) (fun hst => ?_)
          · walk_at "rdB"
            first | rw [decTF] | rw [show decide (false = false) = true from rfl]
            walk_at "rdB"
            exact ⟨rfl, s2⟩
          · walk_at "rdB"
            exact ⟨rfl, s2⟩
        · rintro σ' H3 ⟨rfl, s3⟩
          have ha3 := s3 _ _ ha
          have hb3 := s3 _ _ hb
          walk_at "rdB"
          refine rd_seqT ha3 ?_
          walk_at "rdB"
          refine ⟨by omega, ?_, for_rng (fun i σ H' => ∃ y, σ = [some (.ref a), some (.ref b), some (.bl st), y] ∧ Same H H') ⟨none, rfl, s3⟩ ?_ ?_⟩
          · omega
          · rintro i σ H4 hi4 ⟨y, rfl, s4⟩
            have ha4 := s4 _ _ ha
            have hb4 := s4 _ _ hb
            obtain ⟨c1, e1⟩ := atI_get (xs := xs) (i := (i : Int)) (by omega) (by omega)
            obtain ⟨c2, e2⟩ := atI_get (xs := ys) (i := (i : Int)) (by omega) (by omega)
            walk_at "rdB"
            refine rd_ixQT ha4 e1 ?_
            walk_at "rdB"
            refine rd_ixQT hb4 e2 ?_
            walk_at "rdB"
            refine ⟨_, _, _, rfl, .inr ⟨(hi i _ _ (by simp) (by simp)).same s4, fun H5 s5 => ?_⟩⟩
            walk_at "rdB"
            exact ⟨_, rfl, s4.trans s5⟩
          · rintro σ H4 ⟨y, rfl, s4⟩
            walk_at "rdB"
            exact hq H4 s4
def spSame (n : Nat) : Sp := fun vs H Q _ => ∃ x y, vs = [x, y] ∧ ((Sc x ∧ Sc y ∧ ∀ H', Same H H' → Q (.bl (decide (x = y))) H') ∨ (Alike H n x y ∧ ∀ H', Same H H' → Q (.bl true) H'))
theorem ok_same {n : Nat} {k : Nat} {f : Addr} {fd : FuncData} (F : Fun K "_law_same" "_law_same" s_law_same f fd) (T : Blt mg) (H_law_match : Has P w K mg base "_law_match" k ["left", "right", "strict"] (spMatch n)) : FnOk P w K mg base CX0 (k + 1) f fd ["actual", "expected"] (spSame n) := by
  refine F.ok sc_law_same (fun vs H Q E h => ?_) (fun cdv A outer s H vs Q E hr h => ?_)
  · obtain ⟨x, y, rfl, _⟩ := h; rfl
  · obtain ⟨x, y, rfl, h⟩ := h
    refine ⟨_, (pss_one (ps_ret (pe_callH H_law_match hr (by rfl) (pa_cons (pv 0) (pa_cons (pv 1) (pa_cons pe_bl pa_nil)))))), ?_⟩
    walk_at "rdB"
    exact ⟨_, _, _, rfl, h⟩
end

abbrev sBadName___init__ : Stmt := inClass (topS 2) 0
theorem scBadName___init__ : FnScope ["self", "name"] ["self", "name"] (defScope sBadName___init__) := ⟨rfl, rfl, rfl, by decide +kernel, rfl, by decide +kernel, by decide +kernel⟩
abbrev sis_name : Stmt := topS 10
theorem scis_name : FnScope ["text", "sign"] ["text"] (defScope sis_name) := ⟨rfl, rfl, rfl, by decide +kernel, rfl, by decide +kernel, by decide +kernel⟩
abbrev sfresh_name : Stmt := topS 11
theorem scfresh_name : FnScope ["names", "prefix", "number"] ["names", "prefix"] (defScope sfresh_name) := ⟨rfl, rfl, rfl, by decide +kernel, rfl, by decide +kernel, by decide +kernel⟩

section
variable {P : Program} {w : World} {K : PySem.W.Frag} {mg : Str → Option Value} {base : Heap} {C : Addr}
/-! ### the error -/
theorem ok_BadName_init {k : Nat} {f : Addr} {fd : FuncData} (F : Fun K "__init__" "BadName.__init__" sBadName___init__ f fd) : FnOk P w K mg base CX0 (k + 1) f fd ["self", "name"] (spInit1 K "name") := by
  refine F.ok scBadName___init__ (fun vs H Q E h => ?_) (fun cdv A outer s H vs Q E hr h => ?_)
  · obtain ⟨a, C, v, rfl, _⟩ := h; rfl
  · obtain ⟨a, C, v, rfl, ox, nf, ha, h⟩ := h
    refine ⟨_, (pss_one (ps_ost (pv 0) (pv 1))), ?_⟩
    exact ⟨v, rfl, .ref a, rfl, a, C, rfl, ox, nf, .inl ⟨ha, h⟩⟩
/-! ### is_name -/
theorem ok_p_is_name {k : Nat} {f : Addr} {fd : FuncData} (F : Fun K "is_name" "is_name" sis_name f fd) (T : Blt mg) : FnOk P w K mg base CX0 (k + 1) f fd ["text"] spIsName := by
  refine F.ok scis_name (fun vs H Q E h => ?_) (fun cdv A outer s H vs Q E hr h => ?_)
  · obtain ⟨z, rfl, _⟩ := h; rfl
  · obtain ⟨z, rfl, hz, h⟩ := h
    have h0 := h H (Same.refl H)
    refine ⟨_, (pss_cons (ps_if (PW.pt (pw_or (pt_cmpR op_lt (pe_callB call_len_str (by rfl) T.len (by decide +kernel) (pa_cons (pv 0) pa_nil)) pe_int (nomark _)) (pw_or1 (pt_cmpR op_gt (pe_callB call_len_str (by rfl) T.len (by decide +kernel) (pa_cons (pv 0) pa_nil)) (pe_globI rfl T.g_LONGEST_NAME) (nomark _))))) (pss_one (ps_ret pe_bl)) pss_nil)
 (pss_one (ps_ret (pe_and (pe_cmpR op_in_sign (pe_ix ix_str (pv 0) pe_int (fun _ _ => rfl)) (pe_globS rfl T.g_LETTERS) (by rfl)) (pe_one (pe_callB (cr_all rfl) (by rfl) T.all (by decide +kernel) (pa_cons (pe_lc (own := [("sign", 1)]) (g := gName 1) (by rfl) scis_name.nd (pi_str (pv 0)) (blkOk_by (own := [("sign", 1)]) (N := ["text", "sign"]) (sc := defScope sis_name) (by decide +kernel)) (fun _ _ _ _ _ => pg_name (i := 1) scis_name.nd rfl (Or.inl rfl)) (fun _ _ _ _ _ => pts_nil) (fun _ _ _ _ _ => (pe_cmpR op_in_sign (pv 1) (pe_globS rfl T.g_LETTERS_AND_DIGITS) (by rfl)))) pa_nil))))))), ?_⟩
    walk_at "rdB"
    refine ⟨sz (by omega), ?_⟩
    walk_at "rdB"
    refine if_dec (fun h1 => ?_) (fun h1 => ?_)
    · walk_at "rdB"
      rw [isNm_zero (by omega)] at h0
      exact h0
    · walk_at "rdB"
      refine ⟨sz (by omega), ?_⟩
      obtain ⟨c, l, e⟩ : ∃ c l, z.cps.toList = c :: l := by
        cases e : z.cps.toList with
        | nil => have := len_l z; rw [e] at this; simp at this; omega
        | cons c l => exact ⟨c, l, rfl⟩
      have en := isNm_of e
      rw [en] at h h0
      walk_at "rdB"
      refine if_dec (fun h8 => ?_) (fun h8 => ?_)
      · walk_at "rdB"
        rw [decide_eq_false (by omega)] at h0
        exact h0
      · rw [decide_eq_true (by omega : z.length ≤ 8), Bool.true_and] at h h0
        walk_at "rdB"
        refine rd_ixS (c := c) (by omega) (by rw [e]; exact atI_zero) ?_
        walk_at "rdB"
        refine rd_inS ?_
        walk_at "rdB"
        refine if_dec (fun hc => ?_) (fun hc => ?_)
        · walk_at "rdB"
          rw [show decide (c ∈ lets.cps.toList) = true from decide_eq_true hc, Bool.true_and] at h
          refine fun D nD => lc_sgn (fun i H' => H' = upd H D (.lst ((z.cps.toList.take i).map fun d => V.bl (decide (d ∈ letsD.cps.toList))))) rfl ?_ ?_
          · rintro i d H1 hd rfl
            refine ⟨rfl, ?_⟩
            walk_at "rdB"
            refine rd_inS ?_
            walk_at "rdB"
            refine ⟨_, upd_same, ?_, ?_⟩
            · rw [List.length_map, List.length_take, len_l]
              exact Nat.lt_of_le_of_lt (by omega : _ ≤ 1000) (by decide)
            · rw [upd_upd, List.take_add_one, hd, List.map_append]; rfl
          · rintro H1 rfl
            refine ⟨D, z.cps.toList.map fun d => decide (d ∈ letsD.cps.toList), rfl, sl_of ?_, ?_⟩
            · rw [upd_same, ← len_l, List.take_length, List.map_map]; rfl
            · rw [List.all_map]
              exact h _ (same_new nD)
        · walk_at "rdB"
          rw [show decide (c ∈ lets.cps.toList) = false from decide_eq_false hc] at h0
          exact h0
/-! ### fresh_name -/
def ErrN (E : XK) (C : Addr) (H : Hp) (v : V) : Prop := ∀ d H', Same H H' → H' d = some (.xd [("name", v)]) → E (.ref C) (some d) H'
def okP (z : Str) : Prop := isNm z = true ∧ z.length ≤ 4
def Strs (H : Hp) (a : Addr) (ns : List Str) : Prop := H a = some (.lst (ns.map V.str)) ∨ H a = some (.tup (ns.map V.str))
theorem Strs.same {H H' : Hp} {a : Addr} {ns : List Str} (h : Strs H a ns) (s : Same H H') : Strs H' a ns := h.elim (fun h => .inl (s _ _ h)) fun h => .inr (s _ _ h)
theorem Strs.seq {K : PySem.W.Frag} {H : Hp} {a : Addr} {ns : List Str} (h : Strs H a ns) : SqL K H a (ns.map V.str) ∨ SqT K H a (ns.map V.str) := h.elim (fun h => .inl (sl_of h)) fun h => .inr (st_of h)
def spFresh (C : Addr) : Sp := fun vs H Q E => ∃ a, ∃ ns : List Str, ∃ z : Str, vs = [.ref a, .str z] ∧ Strs H a ns ∧ ns.length ≤ 2000 ∧ z.length ≤ 1000 ∧ (okP z → ∀ n H', Least z ns n → n ≤ 2000 → Same H H' → Q (.str (z ++ numS n)) H') ∧ (¬ okP z → ErrN E C H (.str z))
theorem ok_fresh_name {k : Nat} {f : Addr} {fd : FuncData} (F : FunD K "fresh_name" "fresh_name" (defArgs sfresh_name) (defBody sfresh_name) (defScope sfresh_name) [] [("prefix", .str "x")] f fd) (T : Blt mg) (E_BadName : ErrC K mg "BadName" C) (I_BadName : HasI P w K mg base C 1 ["self", "name"] (spInit1 K "name")) (N_BadName_name : PySem.W.findIn K (.ref C) "name" = some none)
    (His_name : Has P w K mg base "is_name" k ["text"] spIsName) (hk : 2 ≤ k) : FnOk P w K mg base (L2.CX P w) (k + 1) f fd ["names", "prefix"] (spFresh C) := by
  refine F.ok scfresh_name (fun vs H Q E h => ?_) (fun cdv A outer s H vs Q E hr h => ?_)
  · obtain ⟨a, ns, z, rfl, _⟩ := h; rfl
  · obtain ⟨a, ns, z, rfl, hA, hl, hz, hq, hx⟩ := h
    refine ⟨_, (pss_cons (ps_if (PW.pt (pw_or (pt_not (pt_val (pe_callH His_name hr (by rfl) (pa_cons (pv 1) pa_nil)))) (pw_or1 (pt_cmpR op_gt (pe_callB call_len_str (by rfl) T.len (by decide +kernel) (pa_cons (pv 1) pa_nil)) (pe_globI rfl T.g_LONGEST_PREFIX) (nomark _))))) (pss_one (ps_raiseC rfl (takes_of rfl rfl rfl rfl) E_BadName I_BadName hr (by omega) (by rfl) (pa_cons (pv 1) pa_nil))) pss_nil)
 (pss_cons (ps_set (i := 2) scfresh_name.nd rfl (.inl rfl) pe_int)
 (pss_cons (ps_while (passes_of rfl) (pt_cmpR op_in_seq (pe_joined (.cons (pe_fmt (pv 1)) (.cons (pe_fmt (pv 2)) .nil))) (pv 0) (by rfl)) (pss_one (ps_aug (i := 2) scfresh_name.nd rfl (.inl rfl) pe_int ip_add)))
 (pss_one (ps_ret (pe_joined (.cons (pe_fmt (pv 1)) (.cons (pe_fmt (pv 2)) .nil)))))))), ?_⟩
    walk_at "rdB"
    refine ⟨z, rfl, hz, fun H1 s1 => ?_⟩
    walk_at "rdB"
    refine if_nbool (fun hn => ?_) (fun hn => ?_)
    · walk_at "rdB"
      exact rd_mk1 E_BadName.ox N_BadName_name fun d H' nd sm e => hx (fun o => by rw [o.1] at hn; cases hn) d H' (s1.trans sm) e
    · walk_at "rdB"
      refine ⟨sz (by omega), ?_⟩
      walk_at "rdB"
      refine if_dec (fun h4 => ?_) (fun h4 => ?_)
      · walk_at "rdB"
        exact rd_mk1 E_BadName.ox N_BadName_name fun d H' nd sm e => hx (fun o => by have := o.2; omega) d H' (s1.trans sm) e
      · walk_at "rdB"
        have ok : okP z := ⟨hn, by omega⟩
        refine ⟨fun m σ H' => ∃ n : Nat, σ = [some (.ref a), some (.str z), some (.int n)] ∧ H' = H1 ∧ (∀ j, j < n → z ++ numS j ∈ ns) ∧ m = 5000 - n, ⟨_, 0, rfl, rfl, fun j hj => absurd hj (Nat.not_lt_zero j), rfl⟩, ?_⟩
        rintro m σ H' ⟨n, rfl, rfl, hall, rfl⟩
        have hnl := free_le hall
        walk_at "rdB"
        refine rd_fs2 (n := n) rfl rfl hz (by omega) ?_
        walk_at "rdB"
        refine ⟨a, _, rfl, (hA.same s1).seq, rfl, flat_strs _, ?_⟩
        refine ⟨inV (.str (z ++ numS n)) (ns.map V.str), rfl, ?_⟩
        rw [inV_strs]
        refine if_dec (fun hin => ⟨fun σ' H2 => σ' = [some (.ref a), some (.str z), some (.int ((n + 1 : Nat) : Int))] ∧ H2 = H', ?_, ?_⟩) (fun hout => ?_)
        · rintro σ' H2 ⟨rfl, rfl⟩
          refine ⟨5000 - (n + 1), by omega, n + 1, rfl, rfl, fun j hj => ?_, rfl⟩
          rcases Nat.lt_succ_iff_lt_or_eq.mp hj with h | rfl
          · exact hall j h
          · exact hin
        · exact ⟨_, rfl, _, _, rfl, rfl, rfl, rfl⟩
        · walk_at "rdB"
          refine rd_fs2 (n := n) rfl rfl hz (by omega) ?_
          exact hq ok n H' ⟨hall, hout⟩ (by omega) s1
end

abbrev s_law_numbered : Stmt := topS 27
theorem sc_law_numbered : FnScope ["store", "stem", "many", "used", "at", "k"] ["store", "stem", "many"] (defScope s_law_numbered) := ⟨rfl, rfl, rfl, by decide +kernel, rfl, by decide +kernel, by decide +kernel⟩
abbrev s_law_is_least : Stmt := topS 29
theorem sc_law_is_least : FnScope ["told", "stem", "used", "among", "word", "k"] ["told", "stem", "used"] (defScope s_law_is_least) := ⟨rfl, rfl, rfl, by decide +kernel, rfl, by decide +kernel, by decide +kernel⟩
abbrev s_law_refused : Stmt := topS 30
theorem sc_law_refused : FnScope ["used", "stem", "told", "e"] ["used", "stem"] (defScope s_law_refused) := ⟨rfl, rfl, rfl, by decide +kernel, rfl, by decide +kernel, by decide +kernel⟩

section
variable {P : Program} {w : World} {K : PySem.W.Frag} {mg : Str → Option Value} {base : Heap} {C : Addr}
/-! ### _law_numbered -/
def spNumbered : Sp := fun vs H Q _ => ∃ S : Sto, ∃ z : Str, ∃ m : Nat, vs = [.ref S.1, .str z, .int m] ∧ OkS 100 z ∧ m ≤ 1000 ∧ StoreOk S H ∧
  ∀ p, ∀ ns : List Str, ∀ H', (∀ s ∈ ns, OkS 200 s) → ns.length ≤ m → H p = none → At S H' p (.lst (ns.map V.str)) → StoreOk S H' → ExS S H H' → Q (.ref p) H'
theorem ok_numbered {k : Nat} {f : Addr} {fd : FuncData} (F : Fun K "_law_numbered" "_law_numbered" s_law_numbered f fd) (T : Blt mg) (H_law_take : Has P w K mg base "_law_take" k ["store", "many"] spTake) : FnOk P w K mg base CX0 (k + 1) f fd ["store", "stem", "many"] spNumbered := by
  refine F.ok sc_law_numbered (fun vs H Q E h => ?_) (fun cdv A outer s H vs Q E hr h => ?_)
  · obtain ⟨S, z, m, rfl, _⟩ := h; rfl
  · obtain ⟨S, z, m, rfl, hzk, hm, hS, h⟩ := h
    have hz := hzk.len
    refine ⟨_, (pss_cons (ps_setLc (i := 3) (own := [("k", 5)]) (g := gName 5) (by rfl) sc_law_numbered.nd rfl rfl (sw_true rfl rfl rfl (by decide +kernel)) (pi_range1 rfl T.range (pa_cons (pv 2) pa_nil)) (blkOk_by (own := [("k", 5)]) (N := ["store", "stem", "many", "used", "at", "k"]) (sc := defScope s_law_numbered) (by decide +kernel)) (fun _ _ _ _ _ => pg_name (i := 5) sc_law_numbered.nd rfl (Or.inl rfl)) (fun _ _ _ _ _ => pts_nil) (fun _ _ _ _ _ => (pe_op op_add_str (pv 1) (pe_callTy call_str_int (by rfl) T.str (by decide +kernel) (pa_cons (pv 5) pa_nil)))))
 (C8.pss_cut (ps_if (PW.pt (pw_and (pt_cmpR op_gt (pv 2) pe_int (nomark _)) (pw_and1 (pt_cmpR op_eq (pe_callH H_law_take hr (by rfl) (pa_cons (pv 0) (pa_cons pe_int pa_nil))) pe_int (nomark _))))) (pss_cons (ps_set (i := 4) sc_law_numbered.nd rfl (.inl rfl) (pe_callH H_law_take hr (by rfl) (pa_cons (pv 0) (pa_cons (pv 2) pa_nil))))
 (pss_one (ps_set (i := 3) sc_law_numbered.nd rfl (.inl rfl) (pe_op op_cat (pe_slice sl_list (pv 3) po_none (po_some (pv 4))) (pe_slice sl_list (pv 3) (po_some (pe_op op_add (pv 4) pe_int)) po_none))))) pss_nil)
 (pss_one (ps_ret (pv 3))))), ?_⟩
    walk_at "rdB"
    refine ⟨by omega, by omega, fun D nD => lc_rng (fun i H' => H' = upd H D (.lst (((List.range i).map fun j => z ++ numS j).map V.str))) rfl ?_ ?_⟩
    · rintro i H1 hi rfl
      have hi' : i < m := by simpa using hi
      have hl := numS_len (n := i) (by omega)
      refine ⟨rfl, ?_⟩
      walk_at "rdB"
      refine ⟨log_ok (by omega), ?_⟩
      walk_at "rdB"
      refine ⟨sz (by show z.length + (numS i).length ≤ 100000; omega), _, upd_same, ?_, ?_⟩
      · rw [List.length_map, List.length_map, List.length_range]
        exact Nat.lt_of_le_of_lt (by omega : i ≤ 1000) (by decide)
      · rw [upd_upd, List.range_succ, List.map_append, List.map_append]; rfl
    · rintro H1 rfl
      walk_at "rdB"
      have hmm : ((m : Int)).toNat = m := Int.toNat_natCast m
      rw [hmm]
      have hU : ∀ s ∈ (List.range m).map (fun j => z ++ numS j), OkS 200 s := by
        intro s hs
        obtain ⟨j, hj, rfl⟩ := List.mem_map.mp hs
        exact hzk.app (OkS.num (n := j) (by have := List.mem_range.mp hj; omega)) (by omega)
      have hUl : ((List.range m).map (fun j => z ++ numS j)).length = m := by rw [List.length_map, List.length_range]
      generalize (List.range m).map (fun j => z ++ numS j) = U at hU hUl ⊢
      refine rd_cut (fun σ' H' => ∃ p y, ∃ ns : List Str, σ' = [some (.ref S.1), some (.str z), some (.int m), some (.ref p), y, none] ∧ (∀ s ∈ ns, OkS 200 s) ∧ ns.length ≤ m ∧ H p = none ∧ At S H' p (.lst (ns.map V.str)) ∧ StoreOk S H' ∧ ExS S H H') ?_ ?_
      · have bas : ∃ p y, ∃ ns : List Str, ([some (.ref S.1), some (.str z), some (.int m), some (.ref D), none, none] : L2.St) = [some (.ref S.1), some (.str z), some (.int m), some (.ref p), y, none] ∧ (∀ s ∈ ns, OkS 200 s) ∧ ns.length ≤ m ∧ H p = none ∧ At S (upd H D (.lst (U.map V.str))) p (.lst (ns.map V.str)) ∧ StoreOk S (upd H D (.lst (U.map V.str))) ∧ ExS S H (upd H D (.lst (U.map V.str))) :=
          ⟨D, _, U, rfl, hU, by omega, nD, .new hS nD, hS.new nD, .new nD⟩
        walk_at "rdB"
        refine if_dec (fun h0 => ?_) (fun h0 => ?_)
        · walk_at "rdB"
          refine ⟨S, 2, rfl, by omega, hS.new nD, fun r H1 r0 r1 hS1 e1 => ?_⟩
          have hA1 := (At.new (o := .lst (U.map V.str)) hS nD).back e1
          have e1' := (ExS.new nD).trans e1
          walk_at "rdB"
          refine if_dec (fun hr0 => ?_) (fun hr0 => ?_)
          · walk_at "rdB"
            refine ⟨S, _, rfl, by omega, hS1, fun r2 H2 r20 r21 hS2 e2 => ?_⟩
            have hA2 := hA1.back e2
            have e2' := e1'.trans e2
            walk_at "rdB"
            refine ⟨D, _, rfl, sl_of hA2.2, fun p np => ?_⟩
            walk_at "rdB"
            have hA3 := hA2.back (ExS.new (o := .lst (cutV (U.map V.str) none (some r2))) np)
            refine ⟨D, _, rfl, sl_of hA3.2, fun q nq => ?_⟩
            have hp := (same_new (o := .lst (cutV (U.map V.str) (some (r2 + 1)) none)) nq) p _ (upd_same (H := H2) (o := .lst (cutV (U.map V.str) none (some r2))))
            obtain ⟨n2, rfl⟩ : ∃ n2 : Nat, r2 = n2 := ⟨r2.toNat, by omega⟩
            have l1 := cut_to_len (xs := U.map V.str) (k := n2)
            have l2 := cut_from_len (xs := U.map V.str) (k := n2 + 1)
            rw [show ((n2 + 1 : Nat) : Int) = (n2 : Int) + 1 from rfl] at l2
            obtain ⟨U1, eU1, hU1⟩ := cut_strs U none (some (n2 : Int))
            obtain ⟨U2, eU2, hU2⟩ := cut_strs U (some ((n2 : Int) + 1)) none
            have m1 := map_str_len eU1
            have m2 := map_str_len eU2
            rw [List.length_map, hUl] at l2
            rw [eU1] at l1 hp nq ⊢
            rw [eU2] at l2 hp ⊢
            simp only [List.length_map] at l1 l2
            refine ⟨p, q, _, _, rfl, rfl, hp, upd_same, sz (by simp only [List.length_map]; omega), fun u nu => ?_⟩
            have eF := (((ExS.new (S := S) (o := .lst (U1.map V.str)) np).trans (ExS.new (S := S) (o := .lst (U2.map V.str)) nq)))
            have hSF := (hS2.new (o := .lst (U1.map V.str)) np).new (o := .lst (U2.map V.str)) nq
            walk_at "rdB"
            refine ⟨u, _, U1 ++ U2, rfl, fun s hs => ?_, ?_, (e2'.trans eF).free hSF nu, ?_, hSF.new nu, (e2'.trans eF).trans (ExS.new nu)⟩
            · exact (List.mem_append.mp hs).elim (fun q => hU s (hU1 s q)) fun q => hU s (hU2 s q)
            · rw [List.length_append]
              omega
            · rw [List.map_append]; exact .new hSF nu
          · walk_at "rdB"
            exact ⟨D, _, U, rfl, hU, by omega, nD, hA1, hS1, e1'⟩
        · walk_at "rdB"
          exact bas
      · rintro σ' H' ⟨p, y, ns, rfl, h1, h2, h3, h4, h5, h6⟩
        walk_at "rdB"
        exact h p ns H' h1 h2 h3 h4 h5 h6
/-! ### _law_is_least -/
def spIsLeast : Sp := fun vs H Q _ => ∃ z : Str, ∃ n : Nat, ∃ a, ∃ ns : List Str, vs = [.str (z ++ numS n), .str z, .ref a] ∧ z.length ≤ 1000 ∧ ns.length ≤ 2000 ∧ H a = some (.lst (ns.map V.str)) ∧ Least z ns n ∧ ∀ H', Same H H' → Q (.bl true) H'
theorem ok_is_least {k : Nat} {f : Addr} {fd : FuncData} (F : Fun K "_law_is_least" "_law_is_least" s_law_is_least f fd) (T : Blt mg) (H_law_same : Has P w K mg base "_law_same" k ["actual", "expected"] (spSame 2)) : FnOk P w K mg base CX0 (k + 1) f fd ["told", "stem", "used"] spIsLeast := by
  refine F.ok sc_law_is_least (fun vs H Q E h => ?_) (fun cdv A outer s H vs Q E hr h => ?_)
  · obtain ⟨z, n, a, ns, rfl, _⟩ := h; rfl
  · obtain ⟨z, n, a, ns, rfl, hz, hl, ha, hL, h⟩ := h
    have hn := free_le hL.1
    refine ⟨_, (pss_cons (ps_set (i := 3) sc_law_is_least.nd rfl (.inl rfl) pe_dnewK)
 (pss_cons (ps_for PassesOwn.never rfl (pi_list (pv 2)) (pg_name (i := 4) sc_law_is_least.nd rfl (.inl rfl)) (pss_one (ps_dput (hu_of hr) (pv 3) (pv 4) pe_bl rfl)))
 (pss_cons (ps_for PassesOwn.never rfl (pi_range1 rfl T.range (pa_cons (pe_op op_add (pe_callB call_len_seq (by rfl) T.len (by decide +kernel) (pa_cons (pv 2) pa_nil)) pe_int) pa_nil)) (pg_name (i := 5) sc_law_is_least.nd rfl (.inl rfl)) (pss_one (ps_if (pt_cmp (pc_dnotin (hu_of hr) (pe_op op_add_str (pv 1) (pe_callTy call_str_int (by rfl) T.str (by decide +kernel) (pa_cons (pv 5) pa_nil))) (pv 3)) (by rfl)) (pss_one (ps_ret (pe_callH H_law_same hr (by rfl) (pa_cons (pv 0) (pa_cons (pe_op op_add_str (pv 1) (pe_callTy call_str_int (by rfl) T.str (by decide +kernel) (pa_cons (pv 5) pa_nil))) pa_nil))))) pss_nil)))
 (pss_one (ps_ret pe_bl))))), ?_⟩
    walk_at "rdB"
    refine fun D nD => ?_
    walk_at "rdB"
    have hDa : D ≠ a := (ne_of_none ha nD).symm
    refine ⟨a, rfl, ⟨_, sl_of (same_new nD _ _ ha)⟩, for_lst (xs := ns.map V.str) (fun i σ H' => ∃ y, ∃ kvs : List (Key × V), σ = [some (.str (z ++ numS n)), some (.str z), some (.ref a), some (.ref D), y, none] ∧ KeysAre kvs (ns.take i) ∧ kvs.length ≤ i ∧ H' D = some (.dK kvs) ∧ Same H H') ⟨_, [], rfl, keys_nil, Nat.zero_le _, upd_same, same_new nD⟩ ?_ ?_ ?_⟩
    · rintro i σ H' ⟨y, kvs, rfl, _, _, _, sm⟩
      exact sm _ _ ha
    · rintro i x σ H' hi ⟨y, kvs, rfl, hk, hkl, hD, sm⟩
      obtain ⟨wd, hw, rfl⟩ : ∃ wd, ns[i]? = some wd ∧ x = V.str wd := by
        rw [List.getElem?_map] at hi
        cases e : ns[i]? with
        | none => rw [e] at hi; cases hi
        | some wd => rw [e] at hi; exact ⟨wd, rfl, (Option.some.inj hi).symm⟩
      have hil : i < ns.length := (List.getElem?_eq_some_iff.mp hw).1
      walk_at "rdB"
      refine ⟨D, _, rfl, DPut.k (k := Sum.inr wd) hD (Nat.lt_of_le_of_lt (by omega : kvs.length ≤ 2000) (by decide)), _, _, rfl, ?_, ?_, upd_same, same_mut sm nD⟩
      · rw [List.take_add_one, hw]; exact hk.put
      · have := length_putK kvs (Sum.inr wd : Key) (.bl true); omega
    · rintro σ H' ⟨y, kvs, rfl, hk, hkl, hD, sm⟩
      rw [List.length_map, List.take_length] at hk
      walk_at "rdB"
      refine ⟨a, _, rfl, .inl (sl_of (sm _ _ ha)), ?_⟩
      walk_at "rdB"
      rw [List.length_map]
      refine ⟨by omega, by omega, for_rng (fun i σ H2 => ∃ y5, σ = [some (.str (z ++ numS n)), some (.str z), some (.ref a), some (.ref D), y, y5] ∧ H2 = H' ∧ ∀ j, j < i → z ++ numS j ∈ ns) ⟨_, rfl, rfl, fun j hj => absurd hj (Nat.not_lt_zero j)⟩ ?_ ?_⟩
      · rintro i σ H2 hi ⟨y5, rfl, rfl, hall⟩
        have hi' : i < ns.length + 1 := by omega
        have hni := numS_len (n := i) (by omega)
        walk_at "rdB"
        refine ⟨log_ok (by omega), ?_⟩
        walk_at "rdB"
        refine ⟨sz (by show z.length + (numS i).length ≤ 100000; omega), ?_⟩
        walk_at "rdB"
        refine ⟨D, _, rfl, DGet.k (k := Sum.inr (z ++ numS i)) hD, ?_⟩
        rw [hk]
        walk_at "rdB"
        refine if_ndec (fun hno => ?_) (fun hin => ?_)
        · have ei : i = n := Least.unique ⟨hall, hno⟩ hL
          subst ei
          walk_at "rdB"
          refine ⟨log_ok (by omega), ?_⟩
          walk_at "rdB"
          refine ⟨sz (by show z.length + (numS i).length ≤ 100000; omega), ?_⟩
          exact ⟨_, _, rfl, .inr ⟨.inl ⟨trivial, rfl⟩, fun H3 s3 => h H3 (sm.trans s3)⟩⟩
        · walk_at "rdB"
          refine ⟨_, rfl, rfl, fun j hj => ?_⟩
          rcases Nat.lt_succ_iff_lt_or_eq.mp hj with q | rfl
          · exact hall j q
          · exact hin
      · rintro σ H2 ⟨y5, rfl, rfl, hall⟩
        have := free_le hall
        omega
end

abbrev s_law_used : Stmt := topS 28
theorem sc_law_used : FnScope ["store", "stem", "many", "other", "large", "used", "k", "menu"] ["store", "stem"] (defScope s_law_used) := ⟨rfl, rfl, rfl, by decide +kernel, rfl, by decide +kernel, by decide +kernel⟩

theorem strs_of {ns : List Str} : ∀ {ys : List V}, (∀ y ∈ ys, y ∈ ns.map V.str) → ∃ ms : List Str, ys = ms.map V.str ∧ ∀ m ∈ ms, m ∈ ns
  | [], _ => ⟨[], rfl, fun _ h => by cases h⟩
  | y :: ys, h => by
    obtain ⟨ms, e, hm⟩ := strs_of (ys := ys) fun z hz => h z (List.mem_cons_of_mem _ hz)
    obtain ⟨n, hn, rfl⟩ := List.mem_map.mp (h y List.mem_cons_self)
    refine ⟨n :: ms, by rw [e]; rfl, fun m hm' => ?_⟩
    rcases List.mem_cons.mp hm' with h1 | h1
    · rw [h1]; exact hn
    · exact hm m h1
theorem menu_le {z nn tt : Str} (hz : OkS 100 z) (hn : OkS 200 nn) (ht : OkS 200 tt) : ∀ s ∈ [z ++ "00", "x01", z, "", nn, tt, z ++ "1", "x0", "x10"], OkS 200 s := by
  intro s hs
  have h2 : OkS 2 ("00" : Str) := by decide +kernel
  have h1 : OkS 1 ("1" : Str) := by decide +kernel
  simp only [List.mem_cons, List.not_mem_nil, or_false] at hs
  rcases hs with rfl | rfl | rfl | rfl | rfl | rfl | rfl | rfl | rfl
  · exact hz.app h2 (by omega)
  · decide +kernel
  · exact hz.mono (by omega)
  · decide +kernel
  · exact hn
  · exact ht
  · exact hz.app h1 (by omega)
  · decide +kernel
  · decide +kernel
section
variable {P : Program} {w : World} {K : PySem.W.Frag} {mg : Str → Option Value} {base : Heap} {C : Addr}
/-! ### _law_used -/
def spUsed : Sp := fun vs H Q _ => ∃ S : Sto, ∃ z : Str, vs = [.ref S.1, .str z] ∧ OkS 100 z ∧ StoreOk S H ∧
  ∀ p, ∀ ns : List Str, ∀ H', (∀ s ∈ ns, OkS 200 s) → ns.length ≤ 1500 → H p = none → At S H' p (.lst (ns.map V.str)) → StoreOk S H' → ExS S H H' → Q (.ref p) H'
theorem ok_used {k : Nat} {f : Addr} {fd : FuncData} (F : Fun K "_law_used" "_law_used" s_law_used f fd) (T : Blt mg) (H_law_take : Has P w K mg base "_law_take" k ["store", "many"] spTake) (H_law_pick : Has P w K mg base "_law_pick" k ["store", "items"] spPick) (H_law_numbered : Has P w K mg base "_law_numbered" k ["store", "stem", "many"] spNumbered) (H_law_near_name : Has P w K mg base "_law_near_name" k ["store"] spBad) (H_law_text : Has P w K mg base "_law_text" k ["store", "longest"] spText) (H_law_shuffled : Has P w K mg base "_law_shuffled" k ["store", "items"] spShuffled) : FnOk P w K mg base CX0 (k + 1) f fd ["store", "stem"] spUsed := by
  refine F.ok sc_law_used (fun vs H Q E h => ?_) (fun cdv A outer s H vs Q E hr h => ?_)
  · obtain ⟨S, z, rfl, _⟩ := h; rfl
  · obtain ⟨S, z, rfl, hzk, hS, h⟩ := h
    have hz := hzk.len
    refine ⟨_, (pss_cons (ps_set (i := 2) sc_law_used.nd rfl (.inl rfl) (pe_callH H_law_take hr (by rfl) (pa_cons (pv 0) (pa_cons pe_int pa_nil))))
 (pss_cons (ps_set (i := 3) sc_law_used.nd rfl (.inl rfl) (pe_callH H_law_take hr (by rfl) (pa_cons (pv 0) (pa_cons pe_int pa_nil))))
 (pss_cons (ps_set (i := 4) sc_law_used.nd rfl (.inl rfl) (pe_cmpR op_eq (pe_callH H_law_take hr (by rfl) (pa_cons (pv 0) (pa_cons pe_int pa_nil))) pe_int (nomark _)))
 (C8.pss_cut (ps_if (pt_val (pv 4)) (pss_cons (ps_set (i := 2) sc_law_used.nd rfl (.inl rfl) (pe_ix ix_list (pe_lst (pa_cons pe_int (pa_cons pe_int (pa_cons pe_int (pa_cons pe_int pa_nil))))) (pe_callH H_law_take hr (by rfl) (pa_cons (pv 0) (pa_cons pe_int pa_nil))) (fun _ _ => rfl)))
 (pss_one (ps_set (i := 3) sc_law_used.nd rfl (.inl rfl) (pe_ix ix_list (pe_lst (pa_cons pe_int (pa_cons pe_int pa_nil))) (pe_callTy call_int1 (by rfl) T.int (by decide +kernel) (pa_cons (pe_cmpR op_eq (pv 2) pe_int (nomark _)) pa_nil)) (fun _ _ => rfl))))) pss_nil)
 (pss_cons (ps_set (i := 5) sc_law_used.nd rfl (.inl rfl) (pe_op op_cat (pe_callH H_law_numbered hr (by rfl) (pa_cons (pv 0) (pa_cons (pv 1) (pa_cons (pv 2) pa_nil)))) (pe_callH H_law_numbered hr (by rfl) (pa_cons (pv 0) (pa_cons pe_str (pa_cons (pv 3) pa_nil))))))
 (pss_cons (ps_for PassesOwn.never rfl (pi_range1 rfl T.range (pa_cons (pe_callH H_law_take hr (by rfl) (pa_cons (pv 0) (pa_cons pe_int pa_nil))) pa_nil)) (pg_name (i := 6) sc_law_used.nd rfl (.inl rfl)) (pss_cons (ps_set (i := 7) sc_law_used.nd rfl (.inl rfl) (pe_lst (pa_cons (pe_op op_add_str (pv 1) pe_str) (pa_cons pe_str (pa_cons (pv 1) (pa_cons pe_str (pa_cons (pe_callH H_law_near_name hr (by rfl) (pa_cons (pv 0) pa_nil)) (pa_cons (pe_callH H_law_text hr (by rfl) (pa_cons (pv 0) (pa_cons pe_int pa_nil))) (pa_cons (pe_op op_add_str (pv 1) pe_str) (pa_cons pe_str (pa_cons pe_str pa_nil)))))))))))
 (pss_one (ps_expr (pe_bm PySem.F.plainAttrs_list PySem.F.slot_list_append PySem.F.type_list_append mt_append (pv 5) (pa_cons (pe_callH H_law_pick hr (by rfl) (pa_cons (pv 0) (pa_cons (pv 7) pa_nil))) pa_nil))))))
 (C8.pss_cut (ps_if (pt_val (pv 4)) (pss_one (ps_ret (pe_lstRev rfl (by rfl) T.list' (by rfl) T.reversed (pe_slice sl_list (pv 5) po_none (po_some pe_int))))) pss_nil)
 (pss_one (ps_ret (pe_callH H_law_shuffled hr (by rfl) (pa_cons (pv 0) (pa_cons (pv 5) pa_nil)))))))))))), ?_⟩
    walk_at "rdB"
    refine ⟨S, 12, rfl, by omega, hS, fun m0 H1 m00 m01 hS1 e1 => ?_⟩
    walk_at "rdB"
    refine ⟨S, 12, rfl, by omega, hS1, fun o0 H2 o00 o01 hS2 e2 => ?_⟩
    walk_at "rdB"
    refine ⟨S, 32, rfl, by omega, hS2, fun r H3 r0 r1 hS3 e3 => ?_⟩
    have e3' := e1.trans (e2.trans e3)
    walk_at "rdB"
    refine rd_cut (fun σ' H' => ∃ many other : Nat, σ' = [some (.ref S.1), some (.str z), some (.int many), some (.int other), some (.bl (decide (r = 31))), none, none, none] ∧ many ≤ 999 ∧ other ≤ 480 ∧ StoreOk S H' ∧ ExS S H H') ?_ ?_
    · walk_at "rdB"
      refine if_dec (fun hk => ?_) (fun hk => ?_)
      · walk_at "rdB"
        refine ⟨sz (by simp), fun p np => ?_⟩
        walk_at "rdB"
        refine ⟨S, 4, rfl, by omega, hS3.new np, fun r4 H4 r40 r41 hS4 e4 => ?_⟩
        have hp4 := e4 _ _ (hS3.ne1 np) upd_same
        have e4' := e3'.trans ((ExS.new np).trans e4)
        obtain rfl | rfl | rfl | rfl : r4 = 0 ∨ r4 = 1 ∨ r4 = 2 ∨ r4 = 3 := by omega
        all_goals refine rd_ixL hp4 rfl ?_
        all_goals walk_at "rdB"
        all_goals refine ⟨sz (by simp), fun p2 np2 => ?_⟩
        all_goals walk_at "rdB"
        all_goals refine .inr ⟨_, rfl, ?_⟩
        all_goals walk_at "rdB"
        · exact ⟨100, 480, rfl, by decide, by decide, hS4.new np2, e4'.trans (ExS.new np2)⟩
        · exact ⟨480, 480, rfl, by decide, by decide, hS4.new np2, e4'.trans (ExS.new np2)⟩
        · exact ⟨999, 0, rfl, by decide, by decide, hS4.new np2, e4'.trans (ExS.new np2)⟩
        · exact ⟨999, 0, rfl, by decide, by decide, hS4.new np2, e4'.trans (ExS.new np2)⟩
      · walk_at "rdB"
        obtain ⟨m, rfl⟩ : ∃ m : Nat, m0 = m := ⟨m0.toNat, by omega⟩
        obtain ⟨o, rfl⟩ : ∃ o : Nat, o0 = o := ⟨o0.toNat, by omega⟩
        exact ⟨m, o, rfl, by omega, by omega, hS3, e3'⟩
    · rintro σ' H4 ⟨many, other, rfl, hm, ho, hS4, e4⟩
      walk_at "rdB"
      refine ⟨S, z, many, rfl, hzk, by omega, hS4, fun p ns H5 hns hnl np hA hS5 e5 => ?_⟩
      walk_at "rdB"
      refine ⟨S, "x", other, rfl, by decide +kernel, by omega, hS5, fun p2 ns2 H6 hns2 hnl2 np2 hA2 hS6 e6 => ?_⟩
      refine ⟨p, p2, _, _, rfl, rfl, (hA.back e6).2, hA2.2, sz (by simp only [List.length_map]; omega), fun q nq => ?_⟩
      have e6' := e4.trans (e5.trans e6)
      have nqH := e6'.free hS6 nq
      have qS := hS6.ne1 nq
      have qS2 := hS6.ne2 nq
      walk_at "rdB"
      refine ⟨S, 5, rfl, by omega, hS6.new nq, fun r7 H7 r70 r71 hS7 e7 => ?_⟩
      have hq7 := e7 _ _ qS upd_same
      rw [← List.map_append] at hq7
      walk_at "rdB"
      refine ⟨by omega, by omega, for_rng (fun i σ H' => ∃ U : List Str, ∃ y6 y7, σ = [some (.ref S.1), some (.str z), some (.int many), some (.int other), some (.bl (decide (r = 31))), some (.ref q), y6, y7] ∧ (∀ s ∈ U, OkS 200 s) ∧ U.length ≤ 1479 + i ∧ H' q = some (.lst (U.map V.str)) ∧ StoreOk S H' ∧ ExS S H H') ⟨ns ++ ns2, _, _, rfl, fun s hs => (List.mem_append.mp hs).elim (hns s) (hns2 s), by rw [List.length_append]; omega, hq7, hS7, e6'.trans ((ExS.new nq).trans e7)⟩ ?_ ?_⟩
      · rintro i σ H8 hi ⟨U, y6, y7, rfl, hU, hUl, hq, hS8, e8⟩
        have h2 : ("00" : Str).length = 2 := by decide +kernel
        have h1 : ("1" : Str).length = 1 := by decide +kernel
        walk_at "rdB"
        refine ⟨sz (by omega), ?_⟩
        walk_at "rdB"
        refine ⟨S, rfl, hS8, fun nn H9 hnn hS9 e9 => ?_⟩
        walk_at "rdB"
        refine ⟨S, 9, rfl, by omega, hS9, fun tt H10 htt hS10 e10 => ?_⟩
        walk_at "rdB"
        refine ⟨sz (by omega), ?_⟩
        walk_at "rdB"
        refine ⟨sz (by simp), fun mp nmp => ?_⟩
        have e10' := e8.trans (e9.trans e10)
        have hq10 := (ExS.new (S := S) (o := .lst (([z ++ "00", "x01", z, "", nn, tt, z ++ "1", "x0", "x10"] : List Str).map V.str)) nmp) q _ qS ((e9.trans e10) q _ qS hq)
        walk_at "rdB"
        refine ⟨.inl ⟨rfl, _, .inl (.inl hq10)⟩, ?_⟩
        walk_at "rdB"
        refine ⟨S, _, rfl, hS10.new nmp, .inl ⟨mp, ([z ++ "00", "x01", z, "", nn, tt, z ++ "1", "x0", "x10"] : List Str).map V.str, rfl, .new hS10 nmp, by simp, by simp, fun v H11 hv hS11 e11 => ?_⟩⟩
        obtain ⟨s, hs, rfl⟩ := List.mem_map.mp hv
        have hs200 := menu_le hzk (hnn.mono (by omega)) (htt.mono (by omega)) s hs
        have hq11 := e11 q _ qS hq10
        walk_at "rdB"
        refine ⟨q, _, _, rfl, rfl, hq11, ?_, ?_⟩
        · rw [List.length_map]; exact Nat.lt_of_le_of_lt (by omega : U.length ≤ 1500) (by decide)
        · walk_at "rdB"
          refine ⟨U ++ [s], _, _, rfl, fun x hx => ?_, by rw [List.length_append]; simp; omega, by rw [upd_same, List.map_append]; rfl, store_upd hS11 qS qS2, (e10'.trans ((ExS.new nmp).trans e11)).mut nqH⟩
          rcases List.mem_append.mp hx with q1 | q1
          · exact hU x q1
          · rw [List.mem_singleton.mp q1]; exact hs200
      · rintro σ H8 ⟨U, y6, y7, rfl, hU, hUl, hq, hS8, e8⟩
        have hUl : U.length ≤ 1500 := by omega
        refine rd_cut (fun σ' H' => σ' = [some (.ref S.1), some (.str z), some (.int many), some (.int other), some (.bl (decide (r = 31))), some (.ref q), y6, y7] ∧ H' = H8) ?_ ?_
        · walk_at "rdB"
          refine if_dec (fun hk => ?_) (fun hk => ?_)
          · walk_at "rdB"
            refine ⟨q, _, rfl, sl_of hq, fun p3 np3 => ?_⟩
            obtain ⟨U', eU, hU'⟩ := cut_strs U none (some 999)
            have l1 := cut_to_len (xs := U.map V.str) (k := 999)
            rw [show ((999 : Nat) : Int) = 999 from rfl, eU, List.length_map] at l1
            rw [eU]
            refine ⟨p3, _, rfl, sl_of upd_same, fun u nu => ?_⟩
            rw [← List.map_reverse]
            have eF := e8.trans (ExS.new (S := S) (o := .lst (U'.map V.str)) np3)
            have hSF := hS8.new (o := .lst (U'.map V.str)) np3
            exact h u U'.reverse _ (fun s hs => hU s (hU' s (List.mem_reverse.mp hs))) (by rw [List.length_reverse]; omega) (eF.free hSF nu) (.new hSF nu) (hSF.new nu) (eF.trans (ExS.new nu))
          · walk_at "rdB"
            exact ⟨rfl, rfl⟩
        · rintro σ' H' ⟨rfl, rfl⟩
          walk_at "rdB"
          refine ⟨S, q, _, rfl, hS8, ⟨qS, hq⟩, by rw [List.length_map]; omega, fun p4 ys H9 hperm np4 hA9 hS9 e9 => ?_⟩
          obtain ⟨ms, rfl, hms⟩ := strs_of (ns := U) (ys := ys) fun y hy => hperm.mem_iff.mp hy
          have hml := hperm.length_eq
          rw [List.length_map, List.length_map] at hml
          exact h p4 ms H9 (fun s hs => hU s (hms s hs)) (by omega) (e8.free hS8 np4) hA9 hS9 (e8.trans e9)
end


theorem pe_globC {X : Cx} {x : Str} {C : Addr} {pos : Pos} (hg : Gl X x) (hm : X.mg x = some (.ref C)) (hd : (x == ("__debug__" : Str)) = false := by decide) : PE X (.Name x pos) (tC (.ref C)) := pe_glob hg hm rfl hd
structure Errs (K : PySem.W.Frag) (mg : Str → Option Value) (C cO cB cD : Addr) : Prop where
  g_OutshinerError : mg "OutshinerError" = some (.ref cO)
  g_BadNumber : mg "BadNumber" = some (.ref cB)
  g_Doubled : mg "Doubled" = some (.ref cD)
  isO : PySem.W.kitOne K (.ref C) (.ref cO) = some true
  isB : PySem.W.kitOne K (.ref C) (.ref cB) = some false
  isD : PySem.W.kitOne K (.ref C) (.ref cD) = some false
section
variable {P : Program} {w : World} {K : PySem.W.Frag} {mg : Str → Option Value} {base : Heap} {C : Addr}
def errT (z : Str) : HO := .tup [.str "BadName", .str z, .bl true, .bl false]
def spRefused : Sp := fun vs H Q _ => ∃ a, ∃ ns : List Str, ∃ z : Str, vs = [.ref a, .str z] ∧ H a = some (.lst (ns.map V.str)) ∧ ns.length ≤ 2000 ∧ z.length ≤ 1000 ∧ (okP z → ∀ n H', Least z ns n → Same H H' → Q (.str (z ++ numS n)) H') ∧ (¬ okP z → ∀ p H', Same H H' → H p = none → H' p = some (errT z) → Q (.ref p) H')
def gNP : List V → List V → List V := fun vs zs => vs ++ zs
theorem ok_refused {k : Nat} {f cO cB cD : Addr} {fd : FuncData} (F : Fun K "_law_refused" "_law_refused" s_law_refused f fd) (T : Blt mg) (TE : Errs K mg C cO cB cD) (E_BadName : ErrC K mg "BadName" C) (N_BadName_name : PySem.W.findIn K (.ref C) "name" = some none)
    (HNfresh_name_prefix : HasN P w K mg base (L2.CX P w) "fresh_name" k 1 ["names", "prefix"] ["prefix"] gNP (spFresh C)) : FnOk P w K mg base CX0 (k + 1) f fd ["used", "stem"] spRefused := by
  refine F.ok sc_law_refused (fun vs H Q E h => ?_) (fun cdv A outer s H vs Q E hr h => ?_)
  · obtain ⟨a, ns, z, rfl, _⟩ := h; rfl
  · obtain ⟨a, ns, z, rfl, ha, hl, hz, hv, he⟩ := h
    refine ⟨_, (pss_cons (ps_try_as (i := 3) (Wout := fun _ _ _ _ => False) rfl rfl sc_law_refused.nd rfl rfl ⟨rfl, by decide, Or.inl E_BadName.gC⟩ takes0 (fun W pn xe tk _ => (pss_one (ps_set (i := 2) sc_law_refused.nd rfl (.inl rfl) (pe_callNS (ks := ["prefix"]) HNfresh_name_prefix hr (by rfl) (fun σ => passAt tk σ) (pa_cons (pv 0) pa_nil) (pk_cons (pv 1) pk_nil))))) (fun a oe cls d pn hz hf => (pss_one (ps_ret (pe_tup (pa_cons pe_str (pa_cons (pe_xf E_BadName.xf N_BadName_name hz hf (pv 3)) (pa_cons (pe_callB (call_isX (K := K) rfl hz hf) (by rfl) T.isinstance (by decide +kernel) (pa_cons (pv 3) (pa_cons (pe_globC rfl TE.g_OutshinerError) pa_nil))) (pa_cons (pe_callB (call_isXT (K := K) rfl hz hf) (by rfl) T.isinstance (by decide +kernel) (pa_cons (pv 3) (pa_cons (pe_tup (pa_cons (pe_globC rfl TE.g_BadNumber) (pa_cons (pe_globC rfl TE.g_Doubled) pa_nil))) pa_nil))) pa_nil)))))))))
 (pss_one (ps_ret (pv 2)))), ?_⟩
    have kany : PySem.W.kitAny K (.ref C) [.ref cB, .ref cD] = some false := kitAny_cons TE.isB (fun _ => kitAny_cons TE.isD (fun _ => rfl) (fun h => by cases h)) (fun h => by cases h)
    walk_at "rdB"
    refine ⟨rfl, rfl, a, ns, z, rfl, .inl ha, hl, hz, fun ok n H' hL _ sm => ?_, fun nok d H' sm e => ?_⟩
    · walk_at "rdB"
      exact hv ok n H' hL sm
    · refine ⟨true, E_BadName.self, fun _ a na => ?_, fun q => Bool.noConfusion q⟩
      walk_at "rdB"
      refine ⟨rfl, rfl, d, _, .str z, rfl, e, (by simp [List.lookup]), ?_⟩
      walk_at "rdB"
      refine ⟨C, d, _, .ref cO, .ref cO, true, rfl, rfl, e, E_BadName.ec, rfl, fun _ r => r, TE.isO, ?_⟩
      walk_at "rdB"
      refine ⟨sz (by simp), fun tp ntp => ?_⟩
      walk_at "rdB"
      refine ⟨C, d, _, tp, _, _, false, rfl, rfl, same_new ntp _ _ e, E_BadName.ec, rfl, upd_same, .cons (.own _) (.cons (.own _) .nil), kany, ?_⟩
      walk_at "rdB"
      refine ⟨sz (by simp), fun p np => ?_⟩
      exact he nok p _ (sm.trans ((same_new ntp).trans (same_new np))) (sm.free ((same_new ntp).free np)) upd_same
/-! ### the law -/
theorem okP_cut {z : Str} {k : Nat} (h : isNm z = true) (k1 : 1 ≤ k) (k4 : k ≤ 4) : okP (cutS z none (some (k : Int))) := by
  have hl := isNm_len h
  have e := cutS_to z k
  have hlen : (cutS z none (some (k : Int))).length = min k z.length := by rw [← len_l, e, List.length_take, len_l]
  refine ⟨?_, by omega⟩
  cases q : z.cps.toList with
  | nil => have := len_l z; rw [q] at this; simp at this; omega
  | cons c l =>
    rw [isNm_of q, Bool.and_eq_true, Bool.and_eq_true] at h
    obtain ⟨m, rfl⟩ : ∃ m, k = m + 1 := ⟨k - 1, by omega⟩
    have e2 : (cutS z none (some ((m + 1 : Nat) : Int))).cps.toList = c :: l.take m := by rw [e, q, List.take_succ_cons]
    rw [isNm_of e2, Bool.and_eq_true, Bool.and_eq_true]
    refine ⟨⟨decide_eq_true (by omega), h.1.2⟩, ?_⟩
    rw [e2, List.all_eq_true]
    intro d hd
    have h2 := h.2
    rw [q, List.all_eq_true] at h2
    refine h2 d ?_
    rcases List.mem_cons.mp hd with rfl | hd
    · exact List.mem_cons_self
    · exact List.mem_cons_of_mem _ (List.mem_of_mem_take hd)
theorem okP_x : okP "x" := ⟨by decide +kernel, by decide +kernel⟩
end

abbrev slaw : Stmt := topS 31
theorem sclaw : FnScope ["script", "store", "stem", "used", "handed", "told", "again", "other", "menu", "odd", "due"] ["script"] (defScope slaw) := ⟨rfl, rfl, rfl, by decide +kernel, rfl, by decide +kernel, by decide +kernel⟩

theorem alike_tup {H : Hp} {p q : Addr} {xs : List V} {n : Nat} (hp : H p = some (.tup xs)) (hq : H q = some (.tup xs)) (hl : xs.length ≤ 100000) (sc : ∀ x ∈ xs, Sc x) : Alike H (n + 2) (.ref p) (.ref q) :=
  .inr ⟨p, q, xs, xs, rfl, rfl, .inr ⟨hp, hq⟩, rfl, hl, fun i u v h1 h2 => by
    have e : u = v := Option.some.inj (h1.symm.trans h2)
    subst e
    exact .inl ⟨sc u (List.mem_of_getElem? h1), rfl⟩⟩
section
variable {P : Program} {w : World} {K : PySem.W.Frag} {mg : Str → Option Value} {base : Heap} {C : Addr}
def spLaw (K : PySem.W.Frag) : Sp := fun vs H Q _ => ∃ (a : Addr) (ns : List Int), vs = [.ref a] ∧ SqL K H a (ns.map V.int) ∧ ns.length ≤ 63 ∧ ∀ H', Q (.bl true) H'
theorem ok_law {k : Nat} {f : Addr} {fd : FuncData} (F : Fun K "law" "law" slaw f fd) (T : Blt mg) (H_law_store : Has P w K mg base "_law_store" k ["script"] (spStore K)) (H_law_name : Has P w K mg base "_law_name" k ["store"] spName) (H_law_used : Has P w K mg base "_law_used" k ["store", "stem"] spUsed) (H_law_is_least : Has P w K mg base "_law_is_least" k ["told", "stem", "used"] spIsLeast)
    (H_law_take : Has P w K mg base "_law_take" k ["store", "many"] spTake) (H_law_bad_name : Has P w K mg base "_law_bad_name" k ["store"] spBad) (H_law_near_name : Has P w K mg base "_law_near_name" k ["store"] spBad) (H_law_pick : Has P w K mg base "_law_pick" k ["store", "items"] spPick)
    (H_law_is_name : Has P w K mg base "_law_is_name" k ["text"] spIsName) (H_law_refused : Has P w K mg base "_law_refused" k ["used", "stem"] spRefused) (H_law_same : Has P w K mg base "_law_same" k ["actual", "expected"] (spSame 2))
    (HNfresh_name_prefix : HasN P w K mg base (L2.CX P w) "fresh_name" k 1 ["names", "prefix"] ["prefix"] gNP (spFresh C)) (HDfresh_name : HasD P w K mg base (L2.CX P w) "fresh_name" k ["names", "prefix"] [.str "x"] (spFresh C))
    (HKfresh_name_prefix_names : HasK P w K mg base (L2.CX P w) "fresh_name" k ["names", "prefix"] ["prefix", "names"] List.reverse (spFresh C)) : FnOk P w K mg base CX0 (k + 1) f fd ["script"] (spLaw K) := by
  refine F.ok sclaw (fun vs H Q E h => ?_) (fun cdv A outer s H vs Q E hr h => ?_)
  · obtain ⟨a, ns, rfl, _⟩ := h; rfl
  · obtain ⟨a, ns, rfl, hL, _, h⟩ := h
    refine ⟨_, (pss_cons (ps_set (i := 1) sclaw.nd rfl (.inl rfl) (pe_callH H_law_store hr (by rfl) (pa_cons (pv 0) pa_nil)))
 (pss_cons (ps_set (i := 2) sclaw.nd rfl (.inl rfl) (pe_slice sl_str (pe_callH H_law_name hr (by rfl) (pa_cons (pv 1) pa_nil)) po_none (po_some pe_int)))
 (pss_cons (ps_set (i := 3) sclaw.nd rfl (.inl rfl) (pe_callH H_law_used hr (by rfl) (pa_cons (pv 1) (pa_cons (pv 2) pa_nil))))
 (pss_cons (ps_set (i := 4) sclaw.nd rfl (.inl rfl) (pe_callTy call_list_of (by rfl) T.list' (by decide +kernel) (pa_cons (pv 3) pa_nil)))
 (pss_cons (ps_set (i := 5) sclaw.nd rfl (.inl rfl) (pe_callNS (ks := ["prefix"]) HNfresh_name_prefix hr (by rfl) (fun σ => passAt takes0 σ) (pa_cons (pv 4) pa_nil) (pk_cons (pv 2) pk_nil)))
 (pss_cons (ps_if (PW.pt (pw_or (pt_not (pt_val (pe_callH H_law_is_least hr (by rfl) (pa_cons (pv 5) (pa_cons (pv 2) (pa_cons (pv 3) pa_nil)))))) (pw_or1 (pt_cmpR (op_neD hr.units) (pv 4) (pv 3) (nomark _))))) (pss_one (ps_ret pe_bl)) pss_nil)
 (pss_cons (ps_for PassesOwn.never rfl (pi_list (pe_lst (pa_cons (pe_callDS HDfresh_name hr (by rfl) (fun σ => passAt takes0 σ) (pa_cons (pv 4) pa_nil)) (pa_cons (pe_callKS (ks := ["prefix", "names"]) HKfresh_name_prefix_names hr (by rfl) (fun σ => passAt takes0 σ) (pk_cons pe_str (pk_cons (pv 3) pk_nil))) pa_nil)))) (pg_name (i := 6) sclaw.nd rfl (.inl rfl)) (pss_one (ps_if (pt_not (pt_val (pe_callH H_law_is_least hr (by rfl) (pa_cons (pv 6) (pa_cons pe_str (pa_cons (pv 3) pa_nil)))))) (pss_one (ps_ret pe_bl)) pss_nil)))
 (pss_cons (ps_expr (pe_bm PySem.F.plainAttrs_list PySem.F.slot_list_append PySem.F.type_list_append mt_append (pv 4) (pa_cons (pv 5) pa_nil)))
 (pss_cons (ps_if (pt_not (pt_val (pe_callH H_law_is_least hr (by rfl) (pa_cons (pe_callNS (ks := ["prefix"]) HNfresh_name_prefix hr (by rfl) (fun σ => passAt takes0 σ) (pa_cons (pv 4) pa_nil) (pk_cons (pv 2) pk_nil)) (pa_cons (pv 2) (pa_cons (pe_op op_cat (pv 3) (pe_lst (pa_cons (pv 5) pa_nil))) pa_nil)))))) (pss_one (ps_ret pe_bl)) pss_nil)
 (pss_cons (ps_set (i := 7) sclaw.nd rfl (.inl rfl) (pe_slice sl_str (pe_callH H_law_name hr (by rfl) (pa_cons (pv 1) pa_nil)) po_none (po_some (pe_op op_add pe_int (pe_callH H_law_take hr (by rfl) (pa_cons (pv 1) (pa_cons pe_int pa_nil)))))))
 (pss_cons (ps_if (pt_not (pt_val (pe_callH H_law_is_least hr (by rfl) (pa_cons (pe_callNS (ks := ["prefix"]) HNfresh_name_prefix hr (by rfl) (fun σ => passAt takes0 σ) (pa_cons (pe_callTy call_tuple_of (by rfl) T.tuple (by decide +kernel) (pa_cons (pv 4) pa_nil)) pa_nil) (pk_cons (pv 7) pk_nil)) (pa_cons (pv 7) (pa_cons (pv 4) pa_nil)))))) (pss_one (ps_ret pe_bl)) pss_nil)
 (pss_cons (ps_if (pt_not (pt_val (pe_callH H_law_is_least hr (by rfl) (pa_cons (pe_callNS (ks := ["prefix"]) HNfresh_name_prefix hr (by rfl) (fun σ => passAt takes0 σ) (pa_cons (pe_lst pa_nil) pa_nil) (pk_cons (pv 7) pk_nil)) (pa_cons (pv 7) (pa_cons (pe_lst pa_nil) pa_nil)))))) (pss_one (ps_ret pe_bl)) pss_nil)
 (pss_cons (ps_set (i := 8) sclaw.nd rfl (.inl rfl) (pe_lst (pa_cons (pe_callH H_law_bad_name hr (by rfl) (pa_cons (pv 1) pa_nil)) (pa_cons (pe_callH H_law_near_name hr (by rfl) (pa_cons (pv 1) pa_nil)) (pa_cons (pv 2) (pa_cons (pe_op op_add_str (pv 2) (pe_slice sl_str pe_str po_none (po_some (pe_op op_sub pe_int (pe_callB call_len_str (by rfl) T.len (by decide +kernel) (pa_cons (pv 2) pa_nil)))))) (pa_cons (pe_callH H_law_name hr (by rfl) (pa_cons (pv 1) pa_nil)) pa_nil)))))))
 (pss_cons (ps_set (i := 9) sclaw.nd rfl (.inl rfl) (pe_callH H_law_pick hr (by rfl) (pa_cons (pv 1) (pa_cons (pv 8) pa_nil))))
 (pss_cons (ps_set (i := 10) sclaw.nd rfl (.inl rfl) (pe_tup (pa_cons pe_str (pa_cons (pv 9) (pa_cons pe_bl (pa_cons pe_bl pa_nil))))))
 (pss_cons (ps_if (PW.pt (pw_and (pt_val (pe_callH H_law_is_name hr (by rfl) (pa_cons (pv 9) pa_nil))) (pw_and1 (pt_cmpR op_lt (pe_callB call_len_str (by rfl) T.len (by decide +kernel) (pa_cons (pv 9) pa_nil)) pe_int (nomark _))))) (pss_one (ps_ret (pe_callH H_law_is_least hr (by rfl) (pa_cons (pe_callH H_law_refused hr (by rfl) (pa_cons (pv 3) (pa_cons (pv 9) pa_nil))) (pa_cons (pv 9) (pa_cons (pv 3) pa_nil)))))) pss_nil)
 (pss_one (ps_ret (pe_and (pe_callH H_law_same hr (by rfl) (pa_cons (pe_callH H_law_refused hr (by rfl) (pa_cons (pv 3) (pa_cons (pv 9) pa_nil))) (pa_cons (pv 10) pa_nil))) (pe_one (pe_callH H_law_same hr (by rfl) (pa_cons (pe_callH H_law_refused hr (by rfl) (pa_cons (pe_lst pa_nil) (pa_cons (pv 9) pa_nil))) (pa_cons (pv 10) pa_nil))))))))))))))))))))))), ?_⟩
    walk_at "rdB"
    refine ⟨a, ns, rfl, hL, fun S H1 hS1 s1 => ?_⟩
    walk_at "rdB"
    refine ⟨S, rfl, hS1, fun z0 H2 hz0 hS2 e2 => ?_⟩
    walk_at "rdB"
    refine rd_slS (by have := isNm_len hz0; omega) ?_
    obtain ⟨z, ez⟩ : ∃ z, z = cutS z0 none (some 4) := ⟨_, rfl⟩
    have hz : okP z := by rw [ez]; exact okP_cut (k := 4) hz0 (by omega) (by omega)
    have hzk : OkS 100 z := by rw [ez]; exact (OkS.nm hz0).cut.mono (by omega)
    rw [← ez]
    clear ez
    have hz4 := hz.2
    walk_at "rdB"
    refine ⟨S, z, rfl, hzk, hS2, fun up U H3 hU hUl nup hA3 hS3 e3 => ?_⟩
    walk_at "rdB"
    refine ⟨up, _, rfl, .inl (sl_of hA3.2), fun hp nhp => ?_⟩
    have hS4 := hS3.new (o := .lst (U.map V.str)) nhp
    have hu4 := (same_new (o := .lst (U.map V.str)) nhp) _ _ hA3.2
    have hh4 := upd_same (H := H3) (a := hp) (o := .lst (U.map V.str))
    have hp1 := hS3.ne1 nhp
    have hp2 := hS3.ne2 nhp
    have hpu : up ≠ hp := ne_of_none hA3.2 nhp
    have hus := hA3.1
    obtain ⟨H4, eH4⟩ : ∃ HB, HB = upd H3 hp (.lst (U.map V.str)) := ⟨_, rfl⟩
    rw [← eH4] at hS4 hu4 hh4 ⊢
    clear eH4
    walk_at "rdB"
    refine ⟨rfl, rfl, hp, U, z, rfl, .inl hh4, by omega, by omega, fun _ n H5 hL5 n5 sm5 => ?_, fun no => absurd hz no⟩
    walk_at "rdB"
    refine ⟨z, n, up, U, rfl, by omega, by omega, sm5 _ _ hu4, hL5, fun H6 sm6 => ?_⟩
    have sm6' := sm5.trans sm6
    walk_at "rdB"
    refine ⟨_, _, .lst (sl_of (sm6' _ _ hh4)) (dp_strs U), .lst (sl_of (sm6' _ _ hu4)) (dp_strs U), shaped_strs hU, shaped_strs hU, ?_⟩
    rw [eqv_strs]
    walk_at "rdB"
    refine ⟨hp, U, "x", rfl, .inl (sm6' _ _ hh4), by omega, by decide +kernel, fun _ n1 H7 hL7 _ sm7 => ?_, fun no => absurd okP_x no⟩
    have sm7' := sm6'.trans sm7
    walk_at "rdB"
    refine ⟨rfl, up, U, "x", rfl, .inl (sm7' _ _ hu4), by omega, by decide +kernel, fun _ n2 H8 hL8 _ sm8 => ?_, fun no => absurd okP_x no⟩
    have sm8' := sm7'.trans sm8
    walk_at "rdB"
    refine ⟨sz (by simp), fun lp nlp => ?_⟩
    have sm9 := sm8'.trans (same_new (o := .lst [.str ("x" ++ numS n1), .str ("x" ++ numS n2)]) nlp)
    refine ⟨lp, rfl, ⟨_, sl_of upd_same⟩, for_lst (xs := [.str ("x" ++ numS n1), .str ("x" ++ numS n2)]) (fun i σ H' => ∃ y, σ = [some (.ref a), some (.ref S.1), some (.str z), some (.ref up), some (.ref hp), some (.str (z ++ numS n)), y, none, none, none, none] ∧ H' lp = some (.lst [.str ("x" ++ numS n1), .str ("x" ++ numS n2)]) ∧ Same H4 H') ⟨_, rfl, upd_same, sm9⟩ ?_ ?_ ?_⟩
    · rintro i σ H' ⟨y, rfl, hlp, sm⟩
      exact hlp
    · rintro i x σ H' hi ⟨y, rfl, hlp, sm⟩
      obtain ⟨m, rfl, hLm⟩ : ∃ m, x = .str ("x" ++ numS m) ∧ Least "x" U m := by
        have := List.mem_of_getElem? hi
        simp only [List.mem_cons, List.not_mem_nil, or_false] at this
        rcases this with rfl | rfl
        · exact ⟨_, rfl, hL7⟩
        · exact ⟨_, rfl, hL8⟩
      walk_at "rdB"
      refine ⟨"x", m, up, U, rfl, by decide +kernel, by omega, sm _ _ hu4, hLm, fun H9 sm9 => ?_⟩
      walk_at "rdB"
      exact ⟨_, rfl, sm9 _ _ hlp, sm.trans sm9⟩
    · rintro σ H9 ⟨y, rfl, hlp, sm9⟩
      have hu9 := sm9 _ _ hu4
      have hh9 := sm9 _ _ hh4
      have hS9 := hS4.same sm9
      walk_at "rdB"
      refine ⟨.inl ⟨rfl, _, .inl (.inl hh9)⟩, ?_⟩
      walk_at "rdB"
      refine ⟨hp, _, _, rfl, rfl, hh9, by rw [List.length_map]; exact Nat.lt_of_le_of_lt (by omega : U.length ≤ 1500) (by decide), ?_⟩
      rw [show U.map V.str ++ [V.str (z ++ numS n)] = (U ++ [z ++ numS n]).map V.str from by rw [List.map_append]; rfl]
      obtain ⟨U2, eU2⟩ : ∃ U2, U2 = U ++ [z ++ numS n] := ⟨_, rfl⟩
      have hl2 : U2.length ≤ 1501 := by rw [eU2, List.length_append]; simp; omega
      have hu10 : (upd H9 hp (.lst ((U ++ [z ++ numS n]).map V.str))) up = some (.lst (U.map V.str)) := by rw [upd_ne hpu]; exact hu9
      have hh10 : (upd H9 hp (.lst ((U ++ [z ++ numS n]).map V.str))) hp = some (.lst (U2.map V.str)) := by rw [eU2]; exact upd_same
      have hS10 := store_upd (o := .lst ((U ++ [z ++ numS n]).map V.str)) hS9 hp1 hp2
      obtain ⟨H10, eH10⟩ : ∃ HB, HB = upd H9 hp (.lst ((U ++ [z ++ numS n]).map V.str)) := ⟨_, rfl⟩
      rw [← eH10] at hu10 hh10 hS10 ⊢
      clear eH10
      walk_at "rdB"
      refine ⟨rfl, rfl, hp, U2, z, rfl, .inl hh10, by omega, by omega, fun _ n3 H11 hL11 _ sm11 => ?_, fun no => absurd hz no⟩
      walk_at "rdB"
      refine ⟨sz (by simp), fun tl1 ntl1 => ?_⟩
      have sm12 := sm11.trans (same_new (o := .lst [.str (z ++ numS n)]) ntl1)
      refine ⟨up, tl1, _, _, rfl, rfl, sm12 _ _ hu10, upd_same, sz (by simp only [List.length_map]; simp; omega), fun tl2 ntl2 => ?_⟩
      rw [show U.map V.str ++ [V.str (z ++ numS n)] = U2.map V.str from by rw [eU2, List.map_append]; rfl]
      have sm13 := sm12.trans (same_new (o := .lst (U2.map V.str)) ntl2)
      refine ⟨z, n3, tl2, U2, rfl, by omega, by omega, upd_same, hL11, fun H14 sm14 => ?_⟩
      have sm14' := sm13.trans sm14
      have hS14 := hS10.same sm14'
      have hu14 := sm14' _ _ hu10
      have hh14 := sm14' _ _ hh10
      walk_at "rdB"
      refine ⟨S, rfl, hS14, fun o0 H15 ho0 hS15 e15 => ?_⟩
      walk_at "rdB"
      refine ⟨S, 4, rfl, by omega, hS15, fun r H16 r0 r1 hS16 e16 => ?_⟩
      walk_at "rdB"
      refine rd_slS (by have := isNm_len ho0; omega) ?_
      obtain ⟨kk, rfl⟩ : ∃ kk : Nat, r = kk := ⟨r.toNat, by omega⟩
      rw [show (1 : Int) + (kk : Int) = ((kk + 1 : Nat) : Int) from by omega]
      obtain ⟨o, eo⟩ : ∃ o, o = cutS o0 none (some ((kk + 1 : Nat) : Int)) := ⟨_, rfl⟩
      have hok : okP o := by rw [eo]; exact okP_cut ho0 (by omega) (by omega)
      rw [← eo]
      clear eo
      have ho4 := hok.2
      have hu16 := (e15.trans e16) _ _ hus hu14
      have hh16 := (e15.trans e16) _ _ hp1 hh14
      walk_at "rdB"
      refine ⟨hp, _, rfl, .inl ⟨sl_of hh16, fun tp ntp => ?_⟩⟩
      have sm17 := same_new (o := .tup (U2.map V.str)) ntp
      walk_at "rdB"
      refine ⟨rfl, rfl, tp, U2, o, rfl, .inr upd_same, by omega, by omega, fun _ n4 H18 hL18 _ sm18 => ?_, fun no => absurd hok no⟩
      have sm18' := sm17.trans sm18
      walk_at "rdB"
      refine ⟨o, n4, hp, U2, rfl, by omega, by omega, sm18' _ _ hh16, hL18, fun H19 sm19 => ?_⟩
      have sm19' := sm18'.trans sm19
      walk_at "rdB"
      refine ⟨sz (by simp), fun ep nep => ?_⟩
      have sm20 := sm19'.trans (same_new (o := .lst []) nep)
      walk_at "rdB"
      refine ⟨rfl, rfl, ep, [], o, rfl, .inl upd_same, by simp, by omega, fun _ n5 H21 hL21 _ sm21 => ?_, fun no => absurd hok no⟩
      have sm21' := sm20.trans sm21
      walk_at "rdB"
      refine ⟨sz (by simp), fun ep2 nep2 => ?_⟩
      have sm22 := sm21'.trans (same_new (o := .lst []) nep2)
      refine ⟨o, n5, ep2, [], rfl, by omega, by simp, upd_same, hL21, fun H23 sm23 => ?_⟩
      have sm23' := sm22.trans sm23
      have hS23 := hS16.same sm23'
      have hu23 := sm23' _ _ hu16
      walk_at "rdB"
      refine ⟨S, rfl, hS23, fun b1 H24 hb1 hS24 e24 => ?_⟩
      walk_at "rdB"
      refine ⟨S, rfl, hS24, fun b2 H25 hb2 hS25 e25 => ?_⟩
      walk_at "rdB"
      refine ⟨sz (by omega), ?_⟩
      walk_at "rdB"
      have h4 : OkS 4 ("abcd" : Str) := by decide +kernel
      refine rd_slS (by have := h4.len; omega) ?_
      have hcat := hzk.app (h4.cut (lo := none) (hi := some (5 - (z.length : Int)))) (by omega : 100 + 4 ≤ 104)
      have hcl := hcat.len
      rw [app_len] at hcl
      walk_at "rdB"
      refine ⟨sz (by omega), ?_⟩
      walk_at "rdB"
      refine ⟨S, rfl, hS25, fun b3 H26 hb3 hS26 e26 => ?_⟩
      walk_at "rdB"
      refine ⟨sz (by simp), fun mp nmp => ?_⟩
      walk_at "rdB"
      refine ⟨S, _, rfl, hS26.new nmp, .inl ⟨mp, ([b1, b2, z, z ++ cutS "abcd" none (some (5 - (z.length : Int))), b3] : List Str).map V.str, rfl, .new hS26 nmp, by simp, by simp, fun v H27 hv hS27 e27 => ?_⟩⟩
      have hu27 := e27 _ _ hus ((ExS.new nmp) _ _ hus ((e24.trans (e25.trans e26)) _ _ hus hu23))
      obtain ⟨odd, hodd, rfl⟩ := List.mem_map.mp hv
      have hol : odd.length ≤ 200 := by
        simp only [List.mem_cons, List.not_mem_nil, or_false] at hodd
        rcases hodd with rfl | rfl | rfl | rfl | rfl
        · have := hb1.len; omega
        · have := hb2.len; omega
        · omega
        · rw [app_len]; omega
        · have := isNm_len hb3; omega
      walk_at "rdB"
      refine ⟨sz (by simp), fun dp ndp => ?_⟩
      have hu28 := (same_new (o := errT odd) ndp) _ _ hu27
      have hd28 := upd_same (H := H27) (a := dp) (o := errT odd)
      obtain ⟨H28, eH28⟩ : ∃ HB, HB = upd H27 dp (errT odd) := ⟨_, rfl⟩
      rw [show (HO.tup [V.str "BadName", V.str odd, V.bl true, V.bl false]) = errT odd from rfl]
      rw [← eH28] at hu28 hd28 ⊢
      clear eH28
      walk_at "rdB"
      refine ⟨odd, rfl, by omega, fun H29 sm29 => ?_⟩
      have bad : ¬ okP odd → ∀ H', Same H28 H' → (tAndV (tCall (spSame 2) [] E0 (tCons (tCall spRefused [] E0 (tCons (tVar 3) (tCons (tVar 9) tNil))) (tCons (tVar 10) tNil))) (tCall (spSame 2) [] E0 (tCons (tCall spRefused [] E0 (tCons (tLst tNil) (tCons (tVar 9) tNil))) (tCons (tVar 10) tNil))))
          [some (.ref a), some (.ref S.1), some (.str z), some (.ref up), some (.ref hp), some (.str (z ++ numS n)), y, some (.str o), some (.ref mp), some (.str odd), some (.ref dp)] H' Q := fun nok H' sm => by
        walk_at "rdB"
        refine ⟨up, U, odd, rfl, sm _ _ hu28, by omega, by omega, fun ok => absurd ok nok, fun _ p H30 sm30 hn hp30 => ?_⟩
        walk_at "rdB"
        refine ⟨_, _, rfl, .inr ⟨alike_tup (n := 0) hp30 ((sm.trans sm30) _ _ hd28) (by simp) (by simp [Sc]), fun H31 sm31 => ?_⟩⟩
        have sm31' := (sm.trans sm30).trans sm31
        walk_at "rdB"
        refine ⟨sz (by simp), fun ep3 nep3 => ?_⟩
        walk_at "rdB"
        refine ⟨ep3, [], odd, rfl, upd_same, by simp, by omega, fun ok => absurd ok nok, fun _ p2 H32 sm32 hn2 hp32 => ?_⟩
        walk_at "rdB"
        exact ⟨_, _, rfl, .inr ⟨alike_tup (n := 0) hp32 ((sm31'.trans ((same_new nep3).trans sm32)) _ _ hd28) (by simp) (by simp [Sc]), fun H33 sm33 => h H33⟩⟩
      walk_at "rdB"
      refine if_bool (fun hnm => ?_) (fun hnm => ?_)
      · walk_at "rdB"
        refine ⟨sz (by omega), ?_⟩
        walk_at "rdB"
        refine if_dec (fun h5 => ?_) (fun h5 => ?_)
        · have ok : okP odd := ⟨hnm, by omega⟩
          walk_at "rdB"
          refine ⟨up, U, odd, rfl, sm29 _ _ hu28, by omega, by omega, fun _ n6 H30 hL30 sm30 => ?_, fun no => absurd ok no⟩
          walk_at "rdB"
          exact ⟨odd, n6, up, U, rfl, by omega, by omega, (sm29.trans sm30) _ _ hu28, hL30, fun H31 sm31 => h H31⟩
        · refine rd_next ?_
          exact bad (fun ok => h5 (by have := ok.2; omega)) H29 sm29
      · refine iteF ?_
        refine rd_next ?_
        exact bad (fun ok => by rw [ok.1] at hnm; cases hnm) H29 sm29
end

section
variable {K : PySem.W.Frag} {f D : Addr} {fd : FuncData}
abbrev FreshD (K : PySem.W.Frag) (f : Addr) (fd : FuncData) : Prop := FunD K "fresh_name" "fresh_name" (defArgs sfresh_name) (defBody sfresh_name) (defScope sfresh_name) [] [("prefix", .str "x")] f fd
theorem fresh_kbn (F : FreshD K f fd) : ∃ g, KBn K fd ["names", "prefix"] 1 ["prefix"] g gNP := by
  obtain ⟨mv, h⟩ := F.kbinds0 (ps := ["names", "prefix"]) 1 ["prefix"] [] (fun us _ ws => us ++ ws) (by simp) (by simp) (fun r1 _ r2 => r1.append r2) (fun D doc pm an cdv ct us mv ws l1 l2 l3 => match us, l1, ws, l3 with | [_], _, [_], _ => rfl)
  exact ⟨_, h⟩
theorem fresh_hd (F : FreshD K f fd) : ∃ ds, Vals [V.str "x"] ds ∧ Binds K fd ["names", "prefix"] ds := by
  exact F.binds0 (ps := ["names", "prefix"]) 1 (by simp) rfl (fun D doc pm an cdv ct us ks l1 l2 => match us, l1, ks, l2 with | [_], _, [_], _ => ⟨_, _, _, _, _, _, rfl, rfl, rfl⟩)
theorem fresh_kbs (F : FreshD K f fd) : ∀ (s : Shared) (ws : List Value), ws.length = 2 → BindsTo s fd ⟨[], (["prefix", "names"] : List Str).zip ws⟩ ((["names", "prefix"] : List Str).zip ws.reverse) := by
  obtain ⟨oc, od, dV, kV, doc, pm, an, cdv, ct, osl, rfl, lk, hcd, hD, hK⟩ := F.ex
  rcases hD with ⟨_, rfl⟩ | ⟨e, _⟩
  · exact fun s ws hl => .of_eq (match ws, hl with | [_, _], _ => rfl)
  · exact absurd rfl e
theorem fresh_mk {oc : Value} {od an : Option Addr} {osl : Array (Option Value)} {doc pm cdv ct : Value} (l : K.lookup f = some ⟨oc, od, .func (PySem.W.fnOf "fresh_name" "fresh_name" (defArgs sfresh_name) (defBody sfresh_name) (defScope sfresh_name) .none (.ref D) doc pm an cdv ct), osl⟩)
    (c : PySem.W.codeIn K cdv "fresh_name" = true) (kp : PySem.W.keepIn K (.ref f) = true) (z : ∃ t, PySem.W.nsIn K D "prefix" = some (some (.str "x" t))) :
    FreshD K f (PySem.W.fnOf "fresh_name" "fresh_name" (defArgs sfresh_name) (defBody sfresh_name) (defScope sfresh_name) .none (.ref D) doc pm an cdv ct) :=
  ⟨⟨oc, od, .none, .ref D, doc, pm, an, cdv, ct, osl, rfl, l, c, .inl ⟨rfl, rfl⟩, .inr ⟨D, rfl, fun q hq => by
    rw [List.mem_singleton.mp hq]
    obtain ⟨t, e⟩ := z
    exact ⟨_, e, t, rfl⟩⟩⟩, kp⟩
end

theorem kb_of {K : PySem.W.Frag} {x qual : Str} {st : Stmt} {f : Addr} {fd : FuncData} {ps ks : List Str} {g : List Value → List Value} (F : Fun K x qual st f fd)
    (h : ∀ (kV doc pm : Value) (an : Option Addr) (cdv ct : Value) (ws : List Value), ws.length = ks.length → bindArgs (PySem.W.fnOf x qual (defArgs st) (defBody st) (defScope st) .none kV doc pm an cdv ct) ⟨[], ks.zip ws⟩ = pure (ps.zip (g ws))) : ∀ (s : Shared) (ws : List Value), ws.length = ks.length → BindsTo s fd ⟨[], ks.zip ws⟩ (ps.zip (g ws)) := by
  obtain ⟨oc, od, kV, doc, pm, an, cdv, ct, osl, rfl, lk, hcd⟩ := F.ex
  exact fun s ws hl => .of_eq (h kV doc pm an cdv ct ws hl)
theorem vals_id {vs : List V} {ws : List Value} (r : Vals vs ws) : Vals (id vs) (id ws) := r
theorem vals_rev2 : ∀ (vs : List V) (ws : List Value), vs.length = 2 → Vals vs ws → Vals vs.reverse ws.reverse
  | [_, _], _, _, .cons a (.cons b .nil) => .cons b (.cons a .nil)
set_option maxHeartbeats 0 in
theorem all_mk {l : PySem.W.OpenLaw} {w : World} {K : PySem.W.Frag} {h : Heap} {mg : Str → Option Value} {fa : Addr} {C fC : Addr} {nmC qC : Str} {NC : Addr} {bsC bmC : List Value} {snC : List Str} {subC : List Value} {abC : Bool} {colC : Option Bool} {ddC : Option Addr} {m0C m1C m2C m3C m5C : Option Value} {odC anC : Option Addr} {slC : Array (Option Value)} {ocC kVC dcC pmC cdC ctC : Value} {cO : Addr} {cB : Addr} {cD : Addr} {f0 : Addr} {od0 an0 : Option Addr} {sl0 : Array (Option Value)} {oc0 kV0 dc0 pm0 cd0 ct0 : Value} {f1 : Addr} {od1 an1 : Option Addr} {sl1 : Array (Option Value)} {oc1 dc1 pm1 cd1 ct1 : Value} {D1 : Addr} {f2 : Addr} {od2 an2 : Option Addr} {sl2 : Array (Option Value)} {oc2 kV2 dc2 pm2 cd2 ct2 : Value} {f3 : Addr} {od3 an3 : Option Addr} {sl3 : Array (Option Value)} {oc3 kV3 dc3 pm3 cd3 ct3 : Value} {f4 : Addr} {od4 an4 : Option Addr} {sl4 : Array (Option Value)} {oc4 kV4 dc4 pm4 cd4 ct4 : Value} {f5 : Addr} {od5 an5 : Option Addr} {sl5 : Array (Option Value)} {oc5 kV5 dc5 pm5 cd5 ct5 : Value} {f6 : Addr} {od6 an6 : Option Addr} {sl6 : Array (Option Value)} {oc6 kV6 dc6 pm6 cd6 ct6 : Value} {f7 : Addr} {od7 an7 : Option Addr} {sl7 : Array (Option Value)} {oc7 kV7 dc7 pm7 cd7 ct7 : Value} {f8 : Addr} {od8 an8 : Option Addr} {sl8 : Array (Option Value)} {oc8 kV8 dc8 pm8 cd8 ct8 : Value} {f9 : Addr} {od9 an9 : Option Addr} {sl9 : Array (Option Value)} {oc9 kV9 dc9 pm9 cd9 ct9 : Value} {f10 : Addr} {od10 an10 : Option Addr} {sl10 : Array (Option Value)} {oc10 kV10 dc10 pm10 cd10 ct10 : Value} {f11 : Addr} {od11 an11 : Option Addr} {sl11 : Array (Option Value)} {oc11 kV11 dc11 pm11 cd11 ct11 : Value} {f12 : Addr} {od12 an12 : Option Addr} {sl12 : Array (Option Value)} {oc12 kV12 dc12 pm12 cd12 ct12 : Value} {f13 : Addr} {od13 an13 : Option Addr} {sl13 : Array (Option Value)} {oc13 kV13 dc13 pm13 cd13 ct13 : Value} {f14 : Addr} {od14 an14 : Option Addr} {sl14 : Array (Option Value)} {oc14 kV14 dc14 pm14 cd14 ct14 : Value} {f15 : Addr} {od15 an15 : Option Addr} {sl15 : Array (Option Value)} {oc15 kV15 dc15 pm15 cd15 ct15 : Value} {f16 : Addr} {od16 an16 : Option Addr} {sl16 : Array (Option Value)} {oc16 kV16 dc16 pm16 cd16 ct16 : Value} {f17 : Addr} {od17 an17 : Option Addr} {sl17 : Array (Option Value)} {oc17 kV17 dc17 pm17 cd17 ct17 : Value} {f18 : Addr} {od18 an18 : Option Addr} {sl18 : Array (Option Value)} {oc18 kV18 dc18 pm18 cd18 ct18 : Value} {f19 : Addr} {od19 an19 : Option Addr} {sl19 : Array (Option Value)} {oc19 kV19 dc19 pm19 cd19 ct19 : Value}
    (X : K.In h) (G : h.Ns mainGlobals mg) (hfa : mg "law" = some (.ref fa))
    (gC : PySem.W.nsIn K mainGlobals "BadName" = some (some (.ref C)))
    (xC : K.lookup C = some (excClassObj nmC qC C NC bsC bmC true snC subC abC colC ddC m0C m1C m2C m3C m5C "ValueError.__new__"))
    (rC : PySem.HandSPX.refsVE bmC = true)
    (saC : PySem.W.findIn K (.ref C) "__setattr__" = some (some (.builtin "object.__setattr__")))
    (gaC : PySem.W.findIn K (.ref C) "__getattribute__" = some (some (.builtin "BaseException.__getattribute__")))
    (ggC : PySem.W.findIn K (.ref C) "__getattr__" = some none)
    (nfCname : PySem.W.findIn K (.ref C) "name" = some none)
    (kpC : PySem.W.keepIn K (.ref C) = true)
    (exC : PySem.W.subIn K (.ref C) (.type "BaseException") = some true)
    (tyC : PySem.W.typeIn K (.ref C) = some (.type "type"))
    (hdC : PySem.W.hasDictIn K C = true)
    (haC : PySem.W.findIn K (.ref C) "__class__" = some (some (.builtin "object.__class__")))
    (hnC : PySem.W.specialIn K (.builtin "object.__class__") "__get__" = some (some (.builtin "getset_descriptor.__get__")))
    (htC : PySem.W.takesIn K (.builtin "object.__class__") = some true)
    (hmC : PySem.W.mroIn K C (.type "object") = some true)
    (suC : PySem.W.subIn K (.ref C) (.ref C) = some true)
    (iC : PySem.W.findIn K (.ref C) "__init__" = some (some (.ref fC)))
    (tiC : PySem.W.typeIn K (.ref fC) = some (.type "function"))
    (lC : K.lookup fC = some ⟨ocC, odC, .func (PySem.W.fnOf "__init__" "BadName.__init__" (defArgs sBadName___init__) (defBody sBadName___init__) (defScope sBadName___init__) .none kVC dcC pmC anC cdC ctC), slC⟩)
    (cC : PySem.W.codeIn K cdC "BadName.__init__" = true)
    (kC : PySem.W.keepIn K (.ref fC) = true)
    (gcO : PySem.W.nsIn K mainGlobals "OutshinerError" = some (some (.ref cO)))
    (gcB : PySem.W.nsIn K mainGlobals "BadNumber" = some (some (.ref cB)))
    (gcD : PySem.W.nsIn K mainGlobals "Doubled" = some (some (.ref cD)))
    (isO : PySem.W.kitOne K (.ref C) (.ref cO) = some true)
    (isB : PySem.W.kitOne K (.ref C) (.ref cB) = some false)
    (isD : PySem.W.kitOne K (.ref C) (.ref cD) = some false)
    (a0 : PySem.W.nsIn K mainGlobals "is_name" = some (some (.ref f0)))
    (l0 : K.lookup f0 = some ⟨oc0, od0, .func (PySem.W.fnOf "is_name" "is_name" (defArgs sis_name) (defBody sis_name) (defScope sis_name) .none kV0 dc0 pm0 an0 cd0 ct0), sl0⟩)
    (c0 : PySem.W.codeIn K cd0 "is_name" = true)
    (k0 : PySem.W.keepIn K (.ref f0) = true)
    (a1 : PySem.W.nsIn K mainGlobals "fresh_name" = some (some (.ref f1)))
    (l1 : K.lookup f1 = some ⟨oc1, od1, .func (PySem.W.fnOf "fresh_name" "fresh_name" (defArgs sfresh_name) (defBody sfresh_name) (defScope sfresh_name) .none (.ref D1) dc1 pm1 an1 cd1 ct1), sl1⟩)
    (c1 : PySem.W.codeIn K cd1 "fresh_name" = true)
    (k1 : PySem.W.keepIn K (.ref f1) = true)
    (zd1_prefix : ∃ t, PySem.W.nsIn K D1 "prefix" = some (some (.str "x" t)))
    (a2 : PySem.W.nsIn K mainGlobals "_law_store" = some (some (.ref f2)))
    (l2 : K.lookup f2 = some ⟨oc2, od2, .func (PySem.W.fnOf "_law_store" "_law_store" (defArgs s_law_store) (defBody s_law_store) (defScope s_law_store) .none kV2 dc2 pm2 an2 cd2 ct2), sl2⟩)
    (c2 : PySem.W.codeIn K cd2 "_law_store" = true)
    (k2 : PySem.W.keepIn K (.ref f2) = true)
    (a3 : PySem.W.nsIn K mainGlobals "_law_stir" = some (some (.ref f3)))
    (l3 : K.lookup f3 = some ⟨oc3, od3, .func (PySem.W.fnOf "_law_stir" "_law_stir" (defArgs s_law_stir) (defBody s_law_stir) (defScope s_law_stir) .none kV3 dc3 pm3 an3 cd3 ct3), sl3⟩)
    (c3 : PySem.W.codeIn K cd3 "_law_stir" = true)
    (k3 : PySem.W.keepIn K (.ref f3) = true)
    (a4 : PySem.W.nsIn K mainGlobals "_law_take" = some (some (.ref f4)))
    (l4 : K.lookup f4 = some ⟨oc4, od4, .func (PySem.W.fnOf "_law_take" "_law_take" (defArgs s_law_take) (defBody s_law_take) (defScope s_law_take) .none kV4 dc4 pm4 an4 cd4 ct4), sl4⟩)
    (c4 : PySem.W.codeIn K cd4 "_law_take" = true)
    (k4 : PySem.W.keepIn K (.ref f4) = true)
    (a5 : PySem.W.nsIn K mainGlobals "_law_pick" = some (some (.ref f5)))
    (l5 : K.lookup f5 = some ⟨oc5, od5, .func (PySem.W.fnOf "_law_pick" "_law_pick" (defArgs s_law_pick) (defBody s_law_pick) (defScope s_law_pick) .none kV5 dc5 pm5 an5 cd5 ct5), sl5⟩)
    (c5 : PySem.W.codeIn K cd5 "_law_pick" = true)
    (k5 : PySem.W.keepIn K (.ref f5) = true)
    (a6 : PySem.W.nsIn K mainGlobals "_law_shuffled" = some (some (.ref f6)))
    (l6 : K.lookup f6 = some ⟨oc6, od6, .func (PySem.W.fnOf "_law_shuffled" "_law_shuffled" (defArgs s_law_shuffled) (defBody s_law_shuffled) (defScope s_law_shuffled) .none kV6 dc6 pm6 an6 cd6 ct6), sl6⟩)
    (c6 : PySem.W.codeIn K cd6 "_law_shuffled" = true)
    (k6 : PySem.W.keepIn K (.ref f6) = true)
    (a7 : PySem.W.nsIn K mainGlobals "_law_name" = some (some (.ref f7)))
    (l7 : K.lookup f7 = some ⟨oc7, od7, .func (PySem.W.fnOf "_law_name" "_law_name" (defArgs s_law_name) (defBody s_law_name) (defScope s_law_name) .none kV7 dc7 pm7 an7 cd7 ct7), sl7⟩)
    (c7 : PySem.W.codeIn K cd7 "_law_name" = true)
    (k7 : PySem.W.keepIn K (.ref f7) = true)
    (a8 : PySem.W.nsIn K mainGlobals "_law_bad_name" = some (some (.ref f8)))
    (l8 : K.lookup f8 = some ⟨oc8, od8, .func (PySem.W.fnOf "_law_bad_name" "_law_bad_name" (defArgs s_law_bad_name) (defBody s_law_bad_name) (defScope s_law_bad_name) .none kV8 dc8 pm8 an8 cd8 ct8), sl8⟩)
    (c8 : PySem.W.codeIn K cd8 "_law_bad_name" = true)
    (k8 : PySem.W.keepIn K (.ref f8) = true)
    (a9 : PySem.W.nsIn K mainGlobals "_law_sign" = some (some (.ref f9)))
    (l9 : K.lookup f9 = some ⟨oc9, od9, .func (PySem.W.fnOf "_law_sign" "_law_sign" (defArgs s_law_sign) (defBody s_law_sign) (defScope s_law_sign) .none kV9 dc9 pm9 an9 cd9 ct9), sl9⟩)
    (c9 : PySem.W.codeIn K cd9 "_law_sign" = true)
    (k9 : PySem.W.keepIn K (.ref f9) = true)
    (a10 : PySem.W.nsIn K mainGlobals "_law_text" = some (some (.ref f10)))
    (l10 : K.lookup f10 = some ⟨oc10, od10, .func (PySem.W.fnOf "_law_text" "_law_text" (defArgs s_law_text) (defBody s_law_text) (defScope s_law_text) .none kV10 dc10 pm10 an10 cd10 ct10), sl10⟩)
    (c10 : PySem.W.codeIn K cd10 "_law_text" = true)
    (k10 : PySem.W.keepIn K (.ref f10) = true)
    (a11 : PySem.W.nsIn K mainGlobals "_law_near_name" = some (some (.ref f11)))
    (l11 : K.lookup f11 = some ⟨oc11, od11, .func (PySem.W.fnOf "_law_near_name" "_law_near_name" (defArgs s_law_near_name) (defBody s_law_near_name) (defScope s_law_near_name) .none kV11 dc11 pm11 an11 cd11 ct11), sl11⟩)
    (c11 : PySem.W.codeIn K cd11 "_law_near_name" = true)
    (k11 : PySem.W.keepIn K (.ref f11) = true)
    (a12 : PySem.W.nsIn K mainGlobals "_law_is_name" = some (some (.ref f12)))
    (l12 : K.lookup f12 = some ⟨oc12, od12, .func (PySem.W.fnOf "_law_is_name" "_law_is_name" (defArgs s_law_is_name) (defBody s_law_is_name) (defScope s_law_is_name) .none kV12 dc12 pm12 an12 cd12 ct12), sl12⟩)
    (c12 : PySem.W.codeIn K cd12 "_law_is_name" = true)
    (k12 : PySem.W.keepIn K (.ref f12) = true)
    (a13 : PySem.W.nsIn K mainGlobals "_law_match" = some (some (.ref f13)))
    (l13 : K.lookup f13 = some ⟨oc13, od13, .func (PySem.W.fnOf "_law_match" "_law_match" (defArgs s_law_match) (defBody s_law_match) (defScope s_law_match) .none kV13 dc13 pm13 an13 cd13 ct13), sl13⟩)
    (c13 : PySem.W.codeIn K cd13 "_law_match" = true)
    (k13 : PySem.W.keepIn K (.ref f13) = true)
    (a14 : PySem.W.nsIn K mainGlobals "_law_same" = some (some (.ref f14)))
    (l14 : K.lookup f14 = some ⟨oc14, od14, .func (PySem.W.fnOf "_law_same" "_law_same" (defArgs s_law_same) (defBody s_law_same) (defScope s_law_same) .none kV14 dc14 pm14 an14 cd14 ct14), sl14⟩)
    (c14 : PySem.W.codeIn K cd14 "_law_same" = true)
    (k14 : PySem.W.keepIn K (.ref f14) = true)
    (a15 : PySem.W.nsIn K mainGlobals "_law_numbered" = some (some (.ref f15)))
    (l15 : K.lookup f15 = some ⟨oc15, od15, .func (PySem.W.fnOf "_law_numbered" "_law_numbered" (defArgs s_law_numbered) (defBody s_law_numbered) (defScope s_law_numbered) .none kV15 dc15 pm15 an15 cd15 ct15), sl15⟩)
    (c15 : PySem.W.codeIn K cd15 "_law_numbered" = true)
    (k15 : PySem.W.keepIn K (.ref f15) = true)
    (a16 : PySem.W.nsIn K mainGlobals "_law_used" = some (some (.ref f16)))
    (l16 : K.lookup f16 = some ⟨oc16, od16, .func (PySem.W.fnOf "_law_used" "_law_used" (defArgs s_law_used) (defBody s_law_used) (defScope s_law_used) .none kV16 dc16 pm16 an16 cd16 ct16), sl16⟩)
    (c16 : PySem.W.codeIn K cd16 "_law_used" = true)
    (k16 : PySem.W.keepIn K (.ref f16) = true)
    (a17 : PySem.W.nsIn K mainGlobals "_law_is_least" = some (some (.ref f17)))
    (l17 : K.lookup f17 = some ⟨oc17, od17, .func (PySem.W.fnOf "_law_is_least" "_law_is_least" (defArgs s_law_is_least) (defBody s_law_is_least) (defScope s_law_is_least) .none kV17 dc17 pm17 an17 cd17 ct17), sl17⟩)
    (c17 : PySem.W.codeIn K cd17 "_law_is_least" = true)
    (k17 : PySem.W.keepIn K (.ref f17) = true)
    (a18 : PySem.W.nsIn K mainGlobals "_law_refused" = some (some (.ref f18)))
    (l18 : K.lookup f18 = some ⟨oc18, od18, .func (PySem.W.fnOf "_law_refused" "_law_refused" (defArgs s_law_refused) (defBody s_law_refused) (defScope s_law_refused) .none kV18 dc18 pm18 an18 cd18 ct18), sl18⟩)
    (c18 : PySem.W.codeIn K cd18 "_law_refused" = true)
    (k18 : PySem.W.keepIn K (.ref f18) = true)
    (a19 : PySem.W.nsIn K mainGlobals "law" = some (some (.ref f19)))
    (l19 : K.lookup f19 = some ⟨oc19, od19, .func (PySem.W.fnOf "law" "law" (defArgs slaw) (defBody slaw) (defScope slaw) .none kV19 dc19 pm19 an19 cd19 ct19), sl19⟩)
    (c19 : PySem.W.codeIn K cd19 "law" = true)
    (k19 : PySem.W.keepIn K (.ref f19) = true)
    (z_len : PySem.W.nsIn K mainGlobals "len" = some none)
    (z_int : PySem.W.nsIn K mainGlobals "int" = some none)
    (z_max : PySem.W.nsIn K mainGlobals "max" = some none)
    (z_range : PySem.W.nsIn K mainGlobals "range" = some none)
    (z_list : PySem.W.nsIn K mainGlobals "list" = some none)
    (z_tuple : PySem.W.nsIn K mainGlobals "tuple" = some none)
    (z_bool : PySem.W.nsIn K mainGlobals "bool" = some none)
    (z_isinstance : PySem.W.nsIn K mainGlobals "isinstance" = some none)
    (z_str : PySem.W.nsIn K mainGlobals "str" = some none)
    (z_dict : PySem.W.nsIn K mainGlobals "dict" = some none)
    (z_all : PySem.W.nsIn K mainGlobals "all" = some none)
    (z_reversed : PySem.W.nsIn K mainGlobals "reversed" = some none)
    (zc_LETTERS : ∃ t, PySem.W.nsIn K mainGlobals "LETTERS" = some (some (.str "abcdefghijklmnopqrstuvwxyz" t)))
    (zc_LETTERS_AND_DIGITS : ∃ t, PySem.W.nsIn K mainGlobals "LETTERS_AND_DIGITS" = some (some (.str "abcdefghijklmnopqrstuvwxyz0123456789" t)))
    (zc_LONGEST_NAME : ∃ t, PySem.W.nsIn K mainGlobals "LONGEST_NAME" = some (some (.int 8 t)))
    (zc_LONGEST_PREFIX : ∃ t, PySem.W.nsIn K mainGlobals "LONGEST_PREFIX" = some (some (.int 4 t)))
    : ∃ fd : FuncData, (∀ (s : Shared) (v : Value), BindsTo s fd ⟨[v], []⟩ [("script", v)]) ∧ ∀ base : Heap, K.In base → base.Ns mainGlobals mg → FnOk l.prog w K mg base CX0 8 fa fd ["script"] (spLaw K) := by
  have e := hfa.symm.trans (PySem.W.mg_of X G a19)
  cases e
  have T : Blt mg := { len := PySem.W.mg_none_of X G z_len, int := PySem.W.mg_none_of X G z_int, max := PySem.W.mg_none_of X G z_max, range := PySem.W.mg_none_of X G z_range, list' := PySem.W.mg_none_of X G z_list, tuple := PySem.W.mg_none_of X G z_tuple, bool := PySem.W.mg_none_of X G z_bool, isinstance := PySem.W.mg_none_of X G z_isinstance, str := PySem.W.mg_none_of X G z_str, dict := PySem.W.mg_none_of X G z_dict, all := PySem.W.mg_none_of X G z_all, reversed := PySem.W.mg_none_of X G z_reversed, g_LETTERS := by obtain ⟨t, e⟩ := zc_LETTERS; exact ⟨t, PySem.W.mg_of X G e⟩, g_LETTERS_AND_DIGITS := by obtain ⟨t, e⟩ := zc_LETTERS_AND_DIGITS; exact ⟨t, PySem.W.mg_of X G e⟩, g_LONGEST_NAME := by obtain ⟨t, e⟩ := zc_LONGEST_NAME; exact ⟨t, PySem.W.mg_of X G e⟩, g_LONGEST_PREFIX := by obtain ⟨t, e⟩ := zc_LONGEST_PREFIX; exact ⟨t, PySem.W.mg_of X G e⟩ }
  have oxC : OexC K C := ⟨⟨nmC, qC, NC, bsC, bmC, snC, subC, abC, colC, ddC, m0C, m1C, m2C, m3C, m5C, xC, rC⟩, saC, exC, tyC, kpC⟩
  have E_BadName : ErrC K mg "BadName" C := ⟨PySem.W.mg_of X G gC, oxC, ⟨gaC, ggC, exC, hdC⟩, ⟨gaC, ggC, exC, hdC, haC, hnC, htC, hmC⟩, PySem.W.exm_ref exC hdC tyC suC⟩
  have FIC := fun_mk (st := sBadName___init__) lC cC kC
  have bIC := FIC.binds (ps := ["self", "name"]) fun _ _ _ _ _ _ us hl => match us, hl with | [_, _], _ => rfl
  have F0 := fun_mk (st := sis_name) l0 c0 k0
  have b0 := F0.binds (ps := ["text"]) fun _ _ _ _ _ _ us hl => match us, hl with | [_], _ => rfl
  have F1 := fresh_mk l1 c1 k1 zd1_prefix
  have F2 := fun_mk (st := s_law_store) l2 c2 k2
  have b2 := F2.binds (ps := ["script"]) fun _ _ _ _ _ _ us hl => match us, hl with | [_], _ => rfl
  have F3 := fun_mk (st := s_law_stir) l3 c3 k3
  have b3 := F3.binds (ps := ["store", "cell"]) fun _ _ _ _ _ _ us hl => match us, hl with | [_, _], _ => rfl
  have F4 := fun_mk (st := s_law_take) l4 c4 k4
  have b4 := F4.binds (ps := ["store", "many"]) fun _ _ _ _ _ _ us hl => match us, hl with | [_, _], _ => rfl
  have F5 := fun_mk (st := s_law_pick) l5 c5 k5
  have b5 := F5.binds (ps := ["store", "items"]) fun _ _ _ _ _ _ us hl => match us, hl with | [_, _], _ => rfl
  have F6 := fun_mk (st := s_law_shuffled) l6 c6 k6
  have b6 := F6.binds (ps := ["store", "items"]) fun _ _ _ _ _ _ us hl => match us, hl with | [_, _], _ => rfl
  have F7 := fun_mk (st := s_law_name) l7 c7 k7
  have b7 := F7.binds (ps := ["store"]) fun _ _ _ _ _ _ us hl => match us, hl with | [_], _ => rfl
  have F8 := fun_mk (st := s_law_bad_name) l8 c8 k8
  have b8 := F8.binds (ps := ["store"]) fun _ _ _ _ _ _ us hl => match us, hl with | [_], _ => rfl
  have F9 := fun_mk (st := s_law_sign) l9 c9 k9
  have b9 := F9.binds (ps := ["store"]) fun _ _ _ _ _ _ us hl => match us, hl with | [_], _ => rfl
  have F10 := fun_mk (st := s_law_text) l10 c10 k10
  have b10 := F10.binds (ps := ["store", "longest"]) fun _ _ _ _ _ _ us hl => match us, hl with | [_, _], _ => rfl
  have F11 := fun_mk (st := s_law_near_name) l11 c11 k11
  have b11 := F11.binds (ps := ["store"]) fun _ _ _ _ _ _ us hl => match us, hl with | [_], _ => rfl
  have F12 := fun_mk (st := s_law_is_name) l12 c12 k12
  have b12 := F12.binds (ps := ["text"]) fun _ _ _ _ _ _ us hl => match us, hl with | [_], _ => rfl
  have F13 := fun_mk (st := s_law_match) l13 c13 k13
  have b13 := F13.binds (ps := ["left", "right", "strict"]) fun _ _ _ _ _ _ us hl => match us, hl with | [_, _, _], _ => rfl
  have F14 := fun_mk (st := s_law_same) l14 c14 k14
  have b14 := F14.binds (ps := ["actual", "expected"]) fun _ _ _ _ _ _ us hl => match us, hl with | [_, _], _ => rfl
  have F15 := fun_mk (st := s_law_numbered) l15 c15 k15
  have b15 := F15.binds (ps := ["store", "stem", "many"]) fun _ _ _ _ _ _ us hl => match us, hl with | [_, _, _], _ => rfl
  have F16 := fun_mk (st := s_law_used) l16 c16 k16
  have b16 := F16.binds (ps := ["store", "stem"]) fun _ _ _ _ _ _ us hl => match us, hl with | [_, _], _ => rfl
  have F17 := fun_mk (st := s_law_is_least) l17 c17 k17
  have b17 := F17.binds (ps := ["told", "stem", "used"]) fun _ _ _ _ _ _ us hl => match us, hl with | [_, _, _], _ => rfl
  have F18 := fun_mk (st := s_law_refused) l18 c18 k18
  have b18 := F18.binds (ps := ["used", "stem"]) fun _ _ _ _ _ _ us hl => match us, hl with | [_, _], _ => rfl
  have F19 := fun_mk (st := slaw) l19 c19 k19
  have b19 := F19.binds (ps := ["script"]) fun _ _ _ _ _ _ us hl => match us, hl with | [_], _ => rfl
  refine ⟨PySem.W.fnOf "law" "law" (defArgs slaw) (defBody slaw) (defScope slaw) .none kV19 dc19 pm19 an19 cd19 ct19, fun s v => .of_eq rfl, fun base _ _ => ?_⟩
  have I_BadName : HasI l.prog w K mg base C 1 ["self", "name"] (spInit1 K "name") := ⟨fC, _, ok_BadName_init FIC, iC, tiC, bIC⟩
  have H_p_is_name : Has l.prog w K mg base "is_name" 1 ["text"] (spIsName) := ⟨f0, _, ok_p_is_name (k := 0) F0 T, PySem.W.mg_of X G a0, k0, b0⟩
  have O1 := ok_fresh_name (k := 2) F1 T E_BadName I_BadName nfCname (H_p_is_name.mono (by decide)) (by decide)
  have HN_fresh_name : HasN l.prog w K mg base (L2.CX l.prog w) "fresh_name" 3 1 ["names", "prefix"] ["prefix"] gNP (spFresh C) := ⟨f1, _, O1, PySem.W.mg_of X G a1, k1, fresh_kbn F1⟩
  have HD_fresh_name : HasD l.prog w K mg base (L2.CX l.prog w) "fresh_name" 3 ["names", "prefix"] [.str "x"] (spFresh C) := ⟨f1, _, O1, PySem.W.mg_of X G a1, k1, fresh_hd F1⟩
  have HK_fresh_name : HasK l.prog w K mg base (L2.CX l.prog w) "fresh_name" 3 ["names", "prefix"] ["prefix", "names"] List.reverse (spFresh C) := ⟨f1, _, O1, PySem.W.mg_of X G a1, k1, fresh_kbs F1, vals_rev2⟩
  have H_store : Has l.prog w K mg base "_law_store" 1 ["script"] (spStore K) := ⟨f2, _, ok_store (k := 0) F2 T, PySem.W.mg_of X G a2, k2, b2⟩
  have H_stir : Has l.prog w K mg base "_law_stir" 1 ["store", "cell"] (spStir) := ⟨f3, _, ok_stir (k := 0) F3 T, PySem.W.mg_of X G a3, k3, b3⟩
  have H_take : Has l.prog w K mg base "_law_take" 2 ["store", "many"] (spTake) := ⟨f4, _, ok_take (k := 1) F4 T (H_stir.mono (by decide)), PySem.W.mg_of X G a4, k4, b4⟩
  have H_pick : Has l.prog w K mg base "_law_pick" 3 ["store", "items"] (spPick) := ⟨f5, _, ok_pick (k := 2) F5 T (H_take.mono (by decide)), PySem.W.mg_of X G a5, k5, b5⟩
  have H_shuffled : Has l.prog w K mg base "_law_shuffled" 3 ["store", "items"] (spShuffled) := ⟨f6, _, ok_shuffled (k := 2) F6 T (H_take.mono (by decide)), PySem.W.mg_of X G a6, k6, b6⟩
  have H_name : Has l.prog w K mg base "_law_name" 3 ["store"] (spName) := ⟨f7, _, ok_name (k := 2) F7 T (H_take.mono (by decide)), PySem.W.mg_of X G a7, k7, b7⟩
  have H_bad_name : Has l.prog w K mg base "_law_bad_name" 4 ["store"] (spBad) := ⟨f8, _, ok_bad_name (k := 3) F8 T (H_take.mono (by decide)) (H_pick.mono (by decide)) (H_name.mono (by decide)), PySem.W.mg_of X G a8, k8, b8⟩
  have H_sign : Has l.prog w K mg base "_law_sign" 4 ["store"] (spSign) := ⟨f9, _, ok_sign (k := 3) F9 T (H_pick.mono (by decide)), PySem.W.mg_of X G a9, k9, b9⟩
  have H_text : Has l.prog w K mg base "_law_text" 5 ["store", "longest"] (spText) := ⟨f10, _, ok_text (k := 4) F10 T (H_take.mono (by decide)) (H_sign.mono (by decide)), PySem.W.mg_of X G a10, k10, b10⟩
  have H_near_name : Has l.prog w K mg base "_law_near_name" 6 ["store"] (spBad) := ⟨f11, _, ok_near_name (k := 5) F11 T (H_take.mono (by decide)) (H_pick.mono (by decide)) (H_name.mono (by decide)) (H_bad_name.mono (by decide)) (H_sign.mono (by decide)) (H_text.mono (by decide)), PySem.W.mg_of X G a11, k11, b11⟩
  have H_is_name : Has l.prog w K mg base "_law_is_name" 1 ["text"] (spIsName) := ⟨f12, _, ok_is_name (k := 0) F12 T, PySem.W.mg_of X G a12, k12, b12⟩
  have H_match0 : Has l.prog w K mg base "_law_match" 1 ["left", "right", "strict"] (spMatch 0) := ⟨f13, _, ok_match0 (k := 0) F13 T, PySem.W.mg_of X G a13, k13, b13⟩
  have H_match1 : Has l.prog w K mg base "_law_match" 2 ["left", "right", "strict"] (spMatch 1) := ⟨f13, _, ok_matchS (k := 1) F13 T H_match0, PySem.W.mg_of X G a13, k13, b13⟩
  have H_match2 : Has l.prog w K mg base "_law_match" 3 ["left", "right", "strict"] (spMatch 2) := ⟨f13, _, ok_matchS (k := 2) F13 T H_match1, PySem.W.mg_of X G a13, k13, b13⟩
  have H_same : Has l.prog w K mg base "_law_same" 4 ["actual", "expected"] (spSame 2) := ⟨f14, _, ok_same (k := 3) F14 T (H_match2.mono (by decide)), PySem.W.mg_of X G a14, k14, b14⟩
  have H_numbered : Has l.prog w K mg base "_law_numbered" 3 ["store", "stem", "many"] (spNumbered) := ⟨f15, _, ok_numbered (k := 2) F15 T (H_take.mono (by decide)), PySem.W.mg_of X G a15, k15, b15⟩
  have H_used : Has l.prog w K mg base "_law_used" 7 ["store", "stem"] (spUsed) := ⟨f16, _, ok_used (k := 6) F16 T (H_take.mono (by decide)) (H_pick.mono (by decide)) (H_numbered.mono (by decide)) (H_near_name.mono (by decide)) (H_text.mono (by decide)) (H_shuffled.mono (by decide)), PySem.W.mg_of X G a16, k16, b16⟩
  have H_is_least : Has l.prog w K mg base "_law_is_least" 5 ["told", "stem", "used"] (spIsLeast) := ⟨f17, _, ok_is_least (k := 4) F17 T (H_same.mono (by decide)), PySem.W.mg_of X G a17, k17, b17⟩
  have TE : Errs K mg C cO cB cD := ⟨PySem.W.mg_of X G gcO, PySem.W.mg_of X G gcB, PySem.W.mg_of X G gcD, isO, isB, isD⟩
  have H_refused : Has l.prog w K mg base "_law_refused" 4 ["used", "stem"] (spRefused) := ⟨f18, _, ok_refused (k := 3) F18 T TE E_BadName nfCname HN_fresh_name, PySem.W.mg_of X G a18, k18, b18⟩
  exact ok_law (k := 7) F19 T (H_store.mono (by decide)) (H_name.mono (by decide)) (H_used.mono (by decide)) (H_is_least.mono (by decide)) (H_take.mono (by decide)) (H_bad_name.mono (by decide)) (H_near_name.mono (by decide)) (H_pick.mono (by decide)) (H_is_name.mono (by decide)) (H_refused.mono (by decide)) (H_same.mono (by decide)) (HN_fresh_name.mono (by decide)) (HD_fresh_name.mono (by decide)) (HK_fresh_name.mono (by decide))

end Z
open PySem PySem.W PyProof.Rows
set_option maxRecDepth 100000 in
set_option maxHeartbeats 0 in
theorem PySem.Challenge.cw_outshiners_k04_fresh_names_holds : PySem.Challenge.rw_outshiners_k04_fresh_names.Holds := by
  w_on; o_law; k_head; (case hw => w_witness2)
  k_fill
  refine L2.walk_of (l := PySem.Challenge.rw_outshiners_k04_fresh_names) (n := 63) (k := 8) (x := "script") (CX := fun _ => L2.CX0) (sp := fun w => Z.spLaw _) rfl (by decide) rfl ⟨rfl, by decide, by decide⟩ (fun w h Y => PySem.W.kIn_of Y) ?F (fun _ _ a ns hl _ hS => ⟨a, ns, rfl, hS, hl, fun _ => rfl⟩) (fun _ _ _ _ _ h => h)
  case F =>
    intro w mg fa h KX G hmg
    refine' Z.all_mk KX G hmg ?gC ?xC ?rC ?saC ?gaC ?ggC ?nfCname ?kpC ?exC ?tyC ?hdC ?haC ?hnC ?htC ?hmC ?suC ?iC ?tiC ?lC ?cC ?kC ?gcO ?gcB ?gcD ?isO ?isB ?isD ?a0 ?l0 ?c0 ?k0 ?a1 ?l1 ?c1 ?k1 ?zd1_prefix ?a2 ?l2 ?c2 ?k2 ?a3 ?l3 ?c3 ?k3 ?a4 ?l4 ?c4 ?k4 ?a5 ?l5 ?c5 ?k5 ?a6 ?l6 ?c6 ?k6 ?a7 ?l7 ?c7 ?k7 ?a8 ?l8 ?c8 ?k8 ?a9 ?l9 ?c9 ?k9 ?a10 ?l10 ?c10 ?k10 ?a11 ?l11 ?c11 ?k11 ?a12 ?l12 ?c12 ?k12 ?a13 ?l13 ?c13 ?k13 ?a14 ?l14 ?c14 ?k14 ?a15 ?l15 ?c15 ?k15 ?a16 ?l16 ?c16 ?k16 ?a17 ?l17 ?c17 ?k17 ?a18 ?l18 ?c18 ?k18 ?a19 ?l19 ?c19 ?k19 ?z_len ?z_int ?z_max ?z_range ?z_list ?z_tuple ?z_bool ?z_isinstance ?z_str ?z_dict ?z_all ?z_reversed ?zc_LETTERS ?zc_LETTERS_AND_DIGITS ?zc_LONGEST_NAME ?zc_LONGEST_PREFIX
    case gC => k_is
    case xC => k_is
    case rC => first | rfl | decide +kernel
    case saC => k_is
    case gaC => k_is
    case ggC => k_is
    case nfCname => k_is
    case kpC => k_is
    case exC => k_is
    case tyC => k_is
    case hdC => k_is
    case haC => k_is
    case hnC => k_is
    case htC => k_is
    case hmC => k_is
    case suC => first | rfl | k_is
    case iC => k_is
    case tiC => k_is
    case lC => k_is
    case cC => k_is
    case kC => k_is
    case gcO => k_is
    case gcB => k_is
    case gcD => k_is
    case isO => first | k_is | kit_is
    case isB => first | k_is | kit_is
    case isD => first | k_is | kit_is
    case a0 => k_is
    case l0 => k_is
    case c0 => k_is
    case k0 => k_is
    case a1 => k_is
    case l1 => k_is
    case c1 => k_is
    case k1 => k_is
    case zd1_prefix => exact ⟨_, by k_is⟩
    case a2 => k_is
    case l2 => k_is
    case c2 => k_is
    case k2 => k_is
    case a3 => k_is
    case l3 => k_is
    case c3 => k_is
    case k3 => k_is
    case a4 => k_is
    case l4 => k_is
    case c4 => k_is
    case k4 => k_is
    case a5 => k_is
    case l5 => k_is
    case c5 => k_is
    case k5 => k_is
    case a6 => k_is
    case l6 => k_is
    case c6 => k_is
    case k6 => k_is
    case a7 => k_is
    case l7 => k_is
    case c7 => k_is
    case k7 => k_is
    case a8 => k_is
    case l8 => k_is
    case c8 => k_is
    case k8 => k_is
    case a9 => k_is
    case l9 => k_is
    case c9 => k_is
    case k9 => k_is
    case a10 => k_is
    case l10 => k_is
    case c10 => k_is
    case k10 => k_is
    case a11 => k_is
    case l11 => k_is
    case c11 => k_is
    case k11 => k_is
    case a12 => k_is
    case l12 => k_is
    case c12 => k_is
    case k12 => k_is
    case a13 => k_is
    case l13 => k_is
    case c13 => k_is
    case k13 => k_is
    case a14 => k_is
    case l14 => k_is
    case c14 => k_is
    case k14 => k_is
    case a15 => k_is
    case l15 => k_is
    case c15 => k_is
    case k15 => k_is
    case a16 => k_is
    case l16 => k_is
    case c16 => k_is
    case k16 => k_is
    case a17 => k_is
    case l17 => k_is
    case c17 => k_is
    case k17 => k_is
    case a18 => k_is
    case l18 => k_is
    case c18 => k_is
    case k18 => k_is
    case a19 => k_is
    case l19 => k_is
    case c19 => k_is
    case k19 => k_is
    case z_len => k_is
    case z_int => k_is
    case z_max => k_is
    case z_range => k_is
    case z_list => k_is
    case z_tuple => k_is
    case z_bool => k_is
    case z_isinstance => k_is
    case z_str => k_is
    case z_dict => k_is
    case z_all => k_is
    case z_reversed => k_is
    case zc_LETTERS => exact ⟨_, by k_is⟩
    case zc_LETTERS_AND_DIGITS => exact ⟨_, by k_is⟩
    case zc_LONGEST_NAME => exact ⟨_, by k_is⟩
    case zc_LONGEST_PREFIX => exact ⟨_, by k_is⟩
