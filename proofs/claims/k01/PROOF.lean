import PyProof.Rows.All
import Wide.All
import OpenK.AllK
import Wide.FinOn
import HandS.ForMost
import HandS.ForExc
import HandS.Wide
import HandS.IsInst
import HandS.SortInts
import HandS.Codes
import HandS.ExcInit
import HandS.ExcField
import HandS.ExcIs
import KE.DatumOrd
import KE.KExcIs
import HandS.SortKw
import HandS.TryMany
import HandS.ExcOwn
import HandS.FStr
import HandS.Text
import HandS.Dict
import HandS.Defaults
import HandS.Rev
import HandS.Conv
import HandS.RaiseMore
import HandS.Walk
import HandS.CallSlots
import HandS.MakeKwOnly
import HandS.OwnEq
import PyProof.Rows.SortStr
import PyProof.Rows.SortKeyStr
import HandS.SetKeys
import HandS.ExcValue
import PySem.Challenge.RW_outshiners_k01_ordered_names
set_option Elab.async false
set_option linter.all false
set_option maxRecDepth 100000
namespace Z
open PySem PySem.Spec PyProof.Rows L2
/-! ### a def that may be called by its name -/
structure Has (P : Program) (w : World) (K : PySem.W.Frag) (mg : Str → Option Value) (base : Heap) (x : Str) (k : Nat) (ps : List Str) (sp : Sp) : Prop where
  ex : ∃ f fd, FnOk P w K mg base CX0 k f fd ps sp ∧ mg x = some (.ref f) ∧ PySem.W.keepIn K (.ref f) = true ∧ Binds K fd ps []
section
variable {P : Program} {w : World} {K : PySem.W.Frag} {mg : Str → Option Value} {base : Heap}
theorem Has.mk' {x : Str} {k : Nat} {ps : List Str} {sp : Sp} {f : Addr} {fd : FuncData} (F : FnOk P w K mg base CX0 k f fd ps sp) (g : mg x = some (.ref f)) (kp : PySem.W.keepIn K (.ref f) = true) (b : Binds K fd ps []) : Has P w K mg base x k ps sp := ⟨f, fd, F, g, kp, b⟩
theorem Has.mono {x : Str} {j k : Nat} {ps : List Str} {sp : Sp} (h : Has P w K mg base x j ps sp) (l : j ≤ k) : Has P w K mg base x k ps sp := by
  obtain ⟨f, fd, F, r⟩ := h.ex
  exact ⟨f, fd, F.mono l, r⟩
end
theorem pe_callH {X : Cx} {x : Str} {k : Nat} {ps : List Str} {sp : Sp} {e : Expr} {es : List Expr} {t : TA} {p pos : Pos} (h : Has X.prog X.w X.K X.mg X.base x k ps sp) (hr : Room k X.A) (hg : Gl X x) (ha : PA X (e :: es) t)
    (hdb : (x == ("__debug__" : Str)) = false := by decide) (he : starEach (e :: es) X.env = (false, eval e X.env) :: starEach es X.env := by rfl) (hpl : (backTo pos (starEach es X.env)).any (·.1) = false := by rfl) :
    PE X (.Call (.Name x p) (e :: es) [] pos) (tCall sp [] E0 t) := by
  obtain ⟨f, fd, F, hm, hk, hb⟩ := h.ex
  exact pe_call F hr hg hm hk hb .nil pass0 ha hdb he hpl
theorem sl_of' {K : PySem.W.Frag} {H : Hp} {a : Addr} {xs : List V} (h : H a = some (.lst xs)) : SqL K H a xs := .inl (.inl h)
/-! ### readings, step by step -/
section
variable {σ : L2.St} {H : Hp} {D : Ends} {t u : TS} {te ta tb : TE} {tt tu : TT} {Q : VK} {i : Nat} {v x : V} {r : R2} {tA tR : TA} {QA : List V → Hp → Prop} {QT : Bool → Hp → Prop}
theorem rd_seq (h : t { D with nx := u D } σ H) : tSeq t u D σ H := h
theorem rd_asg (h : te σ H fun x H1 => D.nx (σ.set i (some x)) H1) : tAsg te (gName i) D σ H := h
theorem rd_asgS {to ti : TE} {ts : TSet} (h : te σ H fun x H1 => to σ H1 fun o H1 => ti σ H1 fun i H2 => ts o i x H2 fun H3 => D.nx σ H3) : tAsg te (gSub to ti ts) D σ H := h
theorem rd_ret (h : te σ H D.rt) : tRet te D σ H := h
theorem rd_ifS (h : tt σ H fun b H1 => if b = true then t D σ H1 else u D σ H1) : tIfS tt t u D σ H := h
theorem rd_next (h : D.nx σ H) : tNext D σ H := h
theorem rd_drop (h : te σ H fun _ H1 => D.nx σ H1) : tDrop te D σ H := h
theorem rd_var (e : σ[i]? = some (some v)) (h : Q v H) : tVar i σ H Q := ⟨v, e, h⟩
theorem rd_c (h : Q v H) : tC v σ H Q := h
theorem rd_op (h : ta σ H fun x H1 => tb σ H1 fun y H2 => r x y H2 Q) : tOp r ta tb σ H Q := h
theorem rd_un {r : V → Hp → VK → Prop} (h : ta σ H fun x H1 => r x H1 Q) : tUn r ta σ H Q := h
theorem rd_nil (h : QA [] H) : tNil σ H QA := h
theorem rd_cons (h : ta σ H fun x H1 => tR σ H1 fun xs H2 => QA (x :: xs) H2) : tCons ta tR σ H QA := h
theorem rd_cb {r : List V → Hp → VK → Prop} (h : tA σ H fun vs H1 => r vs H1 Q) : tCB r tA σ H Q := h
theorem rd_call {sp : Sp} {E : XK} (h : tA σ H fun vs H1 => sp vs H1 Q E) : tCall sp [] E tA σ H Q := by
  show tA σ H fun vs H1 => sp (vs ++ []) H1 Q E
  simp only [List.append_nil]
  exact h
theorem rd_test (h : te σ H fun x H' => ∃ k, x = .bl k ∧ QT k H') : tTest te σ H QT := h
theorem rd_tB (h : te σ H fun x H' => ∃ k, x = .bl k ∧ QT k H') : tB te σ H QT := h
theorem rd_bx {b : Bool} {R : Bool → Prop} (h : R b) : ∃ k, V.bl b = .bl k ∧ R k := ⟨b, rfl, h⟩
theorem rd_nn {R : Prop} (h : R) : V.non = V.non ∧ R := ⟨rfl, h⟩
theorem rd_not (h : tt σ H fun c H1 => QT (!c) H1) : tNot tt σ H QT := h
theorem rd_and (h : tt σ H fun c H1 => if c = true then tu σ H1 QT else QT false H1) : tAnd tt tu σ H QT := h
theorem rd_or (h : tt σ H fun c H1 => if c = true then QT true H1 else tu σ H1 QT) : tOr tt tu σ H QT := h
theorem rd_andV (h : ta σ H fun x H1 => ∃ c, x = .bl c ∧ if c = true then tb σ H1 Q else Q (.bl false) H1) : tAndV ta tb σ H Q := h
theorem rd_orV (h : ta σ H fun x H1 => ∃ c, x = .bl c ∧ if c = true then Q (.bl true) H1 else tb σ H1 Q) : tOrV ta tb σ H Q := h
theorem rd_notV (h : ta σ H fun x H1 => ∃ c, x = .bl c ∧ Q (.bl (!c)) H1) : tNotV ta σ H Q := h
theorem rd_if (h : tt σ H fun c H1 => if c = true then ta σ H1 Q else tb σ H1 Q) : tIf tt ta tb σ H Q := h
theorem rd_I0 {g : Int → Int → V} {i j : Int} (h : Q (g i j) H) : rI0 g (.int i) (.int j) H Q := ⟨i, j, rfl, rfl, h⟩
theorem rd_I {C : Int → Int → Prop} {g : Int → Int → V} {i j : Int} (c : C i j) (h : Q (g i j) H) : rI C g (.int i) (.int j) H Q := ⟨i, j, rfl, rfl, c, h⟩
theorem rd_U {g : Int → V} {i : Int} (h : Q (g i) H) : rU g (.int i) H Q := ⟨i, rfl, h⟩
theorem rd_eqI {i j : Int} (h : Q (.bl (decide (i = j))) H) : rEq (.int i) (.int j) H Q := ⟨rfl, by
  have e : decide (V.int i = V.int j) = decide (i = j) := by simp
  rw [e]; exact h⟩
theorem rd_neI {i j : Int} (h : Q (.bl (!decide (i = j))) H) : rNe (.int i) (.int j) H Q := ⟨rfl, by
  have e : decide (V.int i = V.int j) = decide (i = j) := by simp
  rw [e]; exact h⟩
theorem rd_lst (h : tA σ H fun xs H1 => xs.length ≤ sizeLine ∧ ∀ p, H1 p = none → Q (.ref p) (upd H1 p (.lst xs))) : tLst tA σ H Q := h
theorem rd_tup (h : tA σ H fun xs H1 => xs.length ≤ sizeLine ∧ ∀ p, H1 p = none → Q (.ref p) (upd H1 p (.tup xs))) : tTup tA σ H Q := h
theorem rd_sl {r : V → Option Int → Option Int → Hp → VK → Prop} {tl th : TO} (h : te σ H fun x H1 => tl σ H1 fun l H2 => th σ H2 fun u H3 => r x l u H3 Q) : tSl r te tl th σ H Q := h
theorem rd_bm {K : PySem.W.Frag} {T : String} {r : V → List V → Hp → VK → Prop} (h : te σ H fun x H1 => tyV K T x H1 ∧ tA σ H1 fun xs H2 => r x xs H2 Q) : tBM K T r te tA σ H Q := h
theorem rd_chain {r r' : R2} {tc : TE} (h : ta σ H fun x H1 => tb σ H1 fun y H2 => r x y H2 fun z H3 => ∃ k, z = .bl k ∧ if k = true then tc σ H3 fun z' H4 => r' y z' H4 Q else Q (.bl false) H3) : tChain r r' ta tb tc σ H Q := h
theorem rd_int1 {i : Int} {R : Int → Prop} {R' : Bool → Prop} (h : R i) : (∃ j, [V.int i] = [V.int j] ∧ R j) ∨ (∃ k, [V.int i] = [V.bl k] ∧ R' k) := .inl ⟨i, rfl, h⟩
theorem rd_max2 {i j : Int} {R : Int → Int → Prop} (h : R i j) : ∃ i' j', [V.int i, V.int j] = [V.int i', V.int j'] ∧ R i' j' := ⟨i, j, rfl, h⟩
theorem rd_min2 {i j : Int} {R : Int → Int → Prop} (h : R i j) : ∃ i' j', [V.int i, V.int j] = [V.int i', V.int j'] ∧ R i' j' := ⟨i, j, rfl, h⟩
theorem rd_ixL {K : PySem.W.Frag} {p : Addr} {xs : List V} {i : Int} {v : V} {Q : VK} (h : H p = some (.lst xs)) (e : atI xs i = some v) (q : Q v H) : rIxL K (.ref p) (.int i) H Q := ⟨p, xs, i, v, rfl, rfl, .inl (.inl h), e, q⟩
theorem rd_setL {p : Addr} {xs : List V} {k : Int} {j : Nat} {v : V} {Q : Hp → Prop} (h : H p = some (.lst xs)) (e : ixN xs.length k = some j) (q : Q (upd H p (.lst (xs.set j v)))) : rSetL (.ref p) (.int k) v H Q := ⟨p, xs, k, j, rfl, rfl, h, e, q⟩
theorem rd_part {te : TE} {Q : Option Int → Hp → Prop} (h : te σ H fun x H1 => ∃ i, x = .int i ∧ Q (some i) H1) : tPart te σ H Q := h
theorem rd_nopart {Q : Option Int → Hp → Prop} (h : Q none H) : tNoPart σ H Q := h
theorem rd_cut (Mid : L2.St → Hp → Prop) (h : t { D with nx := Mid } σ H) (h2 : ∀ σ' H', Mid σ' H' → u D σ' H') : C8.tCut t u D σ H := ⟨Mid, h, h2⟩
theorem rd_setS {p : Addr} {xs : List V} {k : Int} {j : Nat} {v : V} {Q : Hp → Prop} (e : ixN xs.length k = some j) (q : Q (upd H p (.lst (xs.set j v)))) : rSetL (.ref p) (.int k) v (upd H p (.lst xs)) Q := ⟨p, xs, k, j, rfl, rfl, upd_same, e, by rw [upd_upd]; exact q⟩
theorem rd_p9 {Q : VK} (h : Q (.int 1000000000) H) : rI CPow (fun i j => .int (i ^ j.toNat)) (.int 10) (.int 9) H Q := ⟨10, 9, rfl, rfl, ⟨by decide, by decide, by decide⟩, h⟩
theorem rd_p11 {Q : VK} (h : Q (.int 100000000000) H) : rI CPow (fun i j => .int (i ^ j.toNat)) (.int 10) (.int 11) H Q := ⟨10, 11, rfl, rfl, ⟨by decide, by decide, by decide⟩, h⟩
theorem rd_p12 {Q : VK} (h : Q (.int 1000000000000) H) : rI CPow (fun i j => .int (i ^ j.toNat)) (.int 10) (.int 12) H Q := ⟨10, 12, rfl, rfl, ⟨by decide, by decide, by decide⟩, h⟩
theorem rd_p13 {Q : VK} (h : Q (.int 10000000000000) H) : rI CPow (fun i j => .int (i ^ j.toNat)) (.int 10) (.int 13) H Q := ⟨10, 13, rfl, rfl, ⟨by decide, by decide, by decide⟩, h⟩
theorem rd_p18 {Q : VK} (h : Q (.int 1000000000000000000) H) : rI CPow (fun i j => .int (i ^ j.toNat)) (.int 10) (.int 18) H Q := ⟨10, 18, rfl, rfl, ⟨by decide, by decide, by decide⟩, h⟩
theorem rd_p30 {Q : VK} (h : Q (.int 1000000000000000000000000000000) H) : rI CPow (fun i j => .int (i ^ j.toNat)) (.int 10) (.int 30) H Q := ⟨10, 30, rfl, rfl, ⟨by decide, by decide, by decide⟩, h⟩
theorem rd_p40 {Q : VK} (h : Q (.int 10000000000000000000000000000000000000000) H) : rI CPow (fun i j => .int (i ^ j.toNat)) (.int 10) (.int 40) H Q := ⟨10, 40, rfl, rfl, ⟨by decide, by decide, by decide⟩, h⟩
theorem rd_seqL {K : PySem.W.Frag} {a : Addr} {xs : List V} {R : List V → Prop} (h : H a = some (.lst xs)) (q : R xs) : ∃ p ys, [V.ref a] = [V.ref p] ∧ (SqL K H p ys ∨ SqT K H p ys) ∧ R ys := ⟨a, xs, rfl, .inl (.inl (.inl h)), q⟩
theorem rd_seqT {K : PySem.W.Frag} {a : Addr} {xs : List V} {R : List V → Prop} (h : H a = some (.tup xs)) (q : R xs) : ∃ p ys, [V.ref a] = [V.ref p] ∧ (SqL K H p ys ∨ SqT K H p ys) ∧ R ys := ⟨a, xs, rfl, .inr (.inl (.inl h)), q⟩
theorem atI_get {xs : List V} {i : Int} (h0 : 0 ≤ i) (h1 : i < xs.length) : ∃ (hb : i.toNat < xs.length), atI xs i = some (xs[i.toNat]'hb) := by
  have hb : i.toNat < xs.length := by omega
  refine ⟨hb, ?_⟩
  unfold atI ixN
  rw [if_pos h0, if_pos h1]
  simp [hb]
theorem atI_ints {xs : List Int} {i : Int} (h0 : 0 ≤ i) (h1 : i < xs.length) : ∃ n, n ∈ xs ∧ xs[i.toNat]? = some n ∧ atI (xs.map V.int) i = some (.int n) := by
  have hb : i.toNat < xs.length := by omega
  refine ⟨xs[i.toNat], List.getElem_mem hb, by simp [hb], ?_⟩
  unfold atI ixN
  rw [if_pos h0, if_pos (by simpa using h1)]
  simp [hb]
/-! loops -/
theorem rd_for {wi : TI} {g : TG} {tb : TS} (h : wi σ H fun J H1 => ∃ W : Nat → Nat → L2.St → Hp → Prop, (∃ m, W 0 m σ H1) ∧ ∀ i m σ H, W i m σ H →
  (J.stop i H ∧ D.nx σ H) ∨ (J.go i H ∧ ∃ N : L2.St → Hp → Prop, (∀ σ' H', N σ' H' → ∃ m', m' < m ∧ W (i + 1) m' σ' H') ∧ ∀ x H', J.yld i H x H' → g x σ H' fun σ2 H2 => tb { D with nx := N, ct := N, bk := D.nx } σ2 H2)) : tFor wi g tb D σ H := h
theorem rd_iRng1 {ta : TA} {R : It → Hp → Prop} (h : ta σ H fun vs H1 => ∃ j : Int, vs = [.int j] ∧ -(2 ^ 62) ≤ j ∧ j < 2 ^ 62 ∧ R (Itr 0 j.toNat) H1) : iRng1 ta σ H R := h
theorem rd_iList {K : PySem.W.Frag} {R : It → Hp → Prop} (h : te σ H fun x H1 => ∃ a, x = .ref a ∧ (∃ xs, SqL K H1 a xs) ∧ R (Itl K a) H1) : iList K te σ H R := h
theorem for_rng {n : Nat} {k : Nat} {tb : TS} (Pv : Nat → L2.St → Hp → Prop) (h0 : Pv 0 σ H)
    (hs : ∀ i σ H, i < n → Pv i σ H → tb { D with nx := Pv (i + 1), ct := Pv (i + 1), bk := D.nx } (σ.set k (some (.int i))) H) (hd : ∀ σ H, Pv n σ H → D.nx σ H) :
    ∃ W : Nat → Nat → L2.St → Hp → Prop, (∃ m, W 0 m σ H) ∧ ∀ i m σ H, W i m σ H →
      ((Itr 0 n).stop i H ∧ D.nx σ H) ∨ ((Itr 0 n).go i H ∧ ∃ N : L2.St → Hp → Prop, (∀ σ' H', N σ' H' → ∃ m', m' < m ∧ W (i + 1) m' σ' H') ∧ ∀ x H', (Itr 0 n).yld i H x H' → gName k x σ H' fun σ2 H2 => tb { D with nx := N, ct := N, bk := D.nx } σ2 H2) := by
  refine for_range (lo := 0) Pv h0 (fun i σ H hi hp => ?_) hd
  have e : (V.int (0 + (i : Int))) = V.int i := by rw [Int.zero_add]
  rw [e]
  exact hs i σ H hi hp
theorem for_lst {K : PySem.W.Frag} {a : Addr} {xs : List V} {k : Nat} {tb : TS} (Pv : Nat → L2.St → Hp → Prop) (h0 : Pv 0 σ H) (hl : ∀ i σ H, Pv i σ H → H a = some (.lst xs))
    (hs : ∀ i x σ H, xs[i]? = some x → Pv i σ H → tb { D with nx := Pv (i + 1), ct := Pv (i + 1), bk := D.nx } (σ.set k (some x)) H) (hd : ∀ σ H, Pv xs.length σ H → D.nx σ H) :
    ∃ W : Nat → Nat → L2.St → Hp → Prop, (∃ m, W 0 m σ H) ∧ ∀ i m σ H, W i m σ H →
      ((Itl K a).stop i H ∧ D.nx σ H) ∨ ((Itl K a).go i H ∧ ∃ N : L2.St → Hp → Prop, (∀ σ' H', N σ' H' → ∃ m', m' < m ∧ W (i + 1) m' σ' H') ∧ ∀ x H', (Itl K a).yld i H x H' → gName k x σ H' fun σ2 H2 => tb { D with nx := N, ct := N, bk := D.nx } σ2 H2) :=
  for_list Pv h0 (fun i σ H _ hp => sl_of' (hl i σ H hp)) hs hd
theorem kb_NoneType_int : kitB "NoneType" "int" = some false := by decide +kernel
theorem kb_NoneType_bool : kitB "NoneType" "bool" = some false := by decide +kernel
theorem kb_NoneType_str : kitB "NoneType" "str" = some false := by decide +kernel
theorem kb_NoneType_list : kitB "NoneType" "list" = some false := by decide +kernel
theorem kb_NoneType_tuple : kitB "NoneType" "tuple" = some false := by decide +kernel
theorem kb_NoneType_dict : kitB "NoneType" "dict" = some false := by decide +kernel
theorem kb_bool_int : kitB "bool" "int" = some true := by decide +kernel
theorem kb_bool_bool : kitB "bool" "bool" = some true := by decide +kernel
theorem kb_bool_str : kitB "bool" "str" = some false := by decide +kernel
theorem kb_bool_list : kitB "bool" "list" = some false := by decide +kernel
theorem kb_bool_tuple : kitB "bool" "tuple" = some false := by decide +kernel
theorem kb_bool_dict : kitB "bool" "dict" = some false := by decide +kernel
theorem kb_int_int : kitB "int" "int" = some true := by decide +kernel
theorem kb_int_bool : kitB "int" "bool" = some false := by decide +kernel
theorem kb_int_str : kitB "int" "str" = some false := by decide +kernel
theorem kb_int_list : kitB "int" "list" = some false := by decide +kernel
theorem kb_int_tuple : kitB "int" "tuple" = some false := by decide +kernel
theorem kb_int_dict : kitB "int" "dict" = some false := by decide +kernel
theorem kb_str_int : kitB "str" "int" = some false := by decide +kernel
theorem kb_str_bool : kitB "str" "bool" = some false := by decide +kernel
theorem kb_str_str : kitB "str" "str" = some true := by decide +kernel
theorem kb_str_list : kitB "str" "list" = some false := by decide +kernel
theorem kb_str_tuple : kitB "str" "tuple" = some false := by decide +kernel
theorem kb_str_dict : kitB "str" "dict" = some false := by decide +kernel
theorem kb_list_int : kitB "list" "int" = some false := by decide +kernel
theorem kb_list_bool : kitB "list" "bool" = some false := by decide +kernel
theorem kb_list_str : kitB "list" "str" = some false := by decide +kernel
theorem kb_list_list : kitB "list" "list" = some true := by decide +kernel
theorem kb_list_tuple : kitB "list" "tuple" = some false := by decide +kernel
theorem kb_list_dict : kitB "list" "dict" = some false := by decide +kernel
theorem kb_tuple_int : kitB "tuple" "int" = some false := by decide +kernel
theorem kb_tuple_bool : kitB "tuple" "bool" = some false := by decide +kernel
theorem kb_tuple_str : kitB "tuple" "str" = some false := by decide +kernel
theorem kb_tuple_list : kitB "tuple" "list" = some false := by decide +kernel
theorem kb_tuple_tuple : kitB "tuple" "tuple" = some true := by decide +kernel
theorem kb_tuple_dict : kitB "tuple" "dict" = some false := by decide +kernel
theorem kb_dict_int : kitB "dict" "int" = some false := by decide +kernel
theorem kb_dict_bool : kitB "dict" "bool" = some false := by decide +kernel
theorem kb_dict_str : kitB "dict" "str" = some false := by decide +kernel
theorem kb_dict_list : kitB "dict" "list" = some false := by decide +kernel
theorem kb_dict_tuple : kitB "dict" "tuple" = some false := by decide +kernel
theorem kb_dict_dict : kitB "dict" "dict" = some true := by decide +kernel
theorem rd_isi {K : PySem.W.Frag} {a n : String} {b : Bool} (ty : TyOf K H x (.type a)) (k : kitB a n = some b) (q : Q (.bl b) H) : rIsi K [x, .ty n] H Q := ⟨x, .ty n, .type a, .type n, b, rfl, .ty n, .base ty, kit_ty k, q⟩
theorem pe_globI {X : Cx} {x : Str} {n : Int} {pos : Pos} (hg : Gl X x) (hm : ∃ t, X.mg x = some (.int n t)) (hd : (x == ("__debug__" : Str)) = false := by decide) : PE X (.Name x pos) (tC (.int n)) := by
  obtain ⟨t, e⟩ := hm
  exact pe_glob hg e ⟨t, rfl⟩ hd
theorem if_nf {A B : Prop} (h : A) : if (!false) = true then A else B := iteT h
theorem if_nt {A B : Prop} (h : B) : if (!true) = true then A else B := iteF h
theorem if_nn {A B : Prop} (h : A) : if decide (V.non = V.non) = true then A else B := by rw [decide_eq_true rfl]; exact iteT h
theorem if_nnN {A B : Prop} (h : B) : if (!decide (V.non = V.non)) = true then A else B := by rw [decide_eq_true rfl]; exact iteF h
theorem if_n_int {i : Int} {A B : Prop} (h : B) : if decide (V.int i = V.non) = true then A else B := by rw [decide_eq_false (fun e => nomatch e)]; exact iteF h
theorem if_nN_int {i : Int} {A B : Prop} (h : A) : if (!decide (V.int i = V.non)) = true then A else B := by rw [decide_eq_false (fun e => nomatch e)]; exact iteT h
theorem if_n_bl {b : Bool} {A B : Prop} (h : B) : if decide (V.bl b = V.non) = true then A else B := by rw [decide_eq_false (fun e => nomatch e)]; exact iteF h
theorem if_nN_bl {b : Bool} {A B : Prop} (h : A) : if (!decide (V.bl b = V.non)) = true then A else B := by rw [decide_eq_false (fun e => nomatch e)]; exact iteT h
theorem if_n_str {x : Str} {A B : Prop} (h : B) : if decide (V.str x = V.non) = true then A else B := by rw [decide_eq_false (fun e => nomatch e)]; exact iteF h
theorem if_nN_str {x : Str} {A B : Prop} (h : A) : if (!decide (V.str x = V.non)) = true then A else B := by rw [decide_eq_false (fun e => nomatch e)]; exact iteT h
theorem if_n_ref {a : Addr} {A B : Prop} (h : B) : if decide (V.ref a = V.non) = true then A else B := by rw [decide_eq_false (fun e => nomatch e)]; exact iteF h
theorem if_nN_ref {a : Addr} {A B : Prop} (h : A) : if (!decide (V.ref a = V.non)) = true then A else B := by rw [decide_eq_false (fun e => nomatch e)]; exact iteT h
theorem rd_eqB {i j : Bool} {Q : VK} (h : Q (.bl (decide (V.bl i = V.bl j))) H) : rEq (.bl i) (.bl j) H Q := ⟨rfl, h⟩
theorem rd_neB {i j : Bool} {Q : VK} (h : Q (.bl (!decide (i = j))) H) : rNe (.bl i) (.bl j) H Q := ⟨rfl, by
  have e : decide (V.bl i = V.bl j) = decide (i = j) := by simp
  rw [e]; exact h⟩
theorem rd_eqS {i j : Str} {Q : VK} (h : Q (.bl (decide (V.str i = V.str j))) H) : rEq (.str i) (.str j) H Q := ⟨rfl, h⟩
theorem if_dec {p : Prop} [Decidable p] {A B : Prop} (h1 : p → A) (h2 : ¬ p → B) : if decide p = true then A else B := by
  by_cases c : p
  · rw [if_pos (decide_eq_true c)]; exact h1 c
  · rw [if_neg (fun e => c (of_decide_eq_true e))]; exact h2 c
theorem if_ndec {p : Prop} [Decidable p] {A B : Prop} (h1 : ¬ p → A) (h2 : p → B) : if (!decide p) = true then A else B := by
  by_cases c : p
  · rw [decide_eq_true c]; exact iteF (h2 c)
  · rw [decide_eq_false c]; exact iteT (h1 c)
theorem if_bool {b : Bool} {A B : Prop} (h1 : b = true → A) (h2 : b = false → B) : if b = true then A else B := by
  cases b with
  | true => exact iteT (h1 rfl)
  | false => exact iteF (h2 rfl)
theorem if_nbool {b : Bool} {A B : Prop} (h1 : b = false → A) (h2 : b = true → B) : if (!b) = true then A else B := by
  cases b with
  | true => exact iteF (h2 rfl)
  | false => exact iteT (h1 rfl)
end
/-! ### the store: a list (at S.1) that holds the script's cells (at S.2) and six ints, the only thing that is changed by a draw -/
abbrev Sto := Addr × Addr
def StoreOk (S : Sto) (H : Hp) : Prop := ∃ (cells : List Int) (a b c d e f : Int), S.2 ≠ S.1 ∧ H S.1 = some (.lst [.ref S.2, .int a, .int b, .int c, .int d, .int e, .int f]) ∧ H S.2 = some (.lst (cells.map V.int)) ∧ 0 ≤ a ∧ 0 ≤ e ∧ e < 2147483647 ∧ 0 ≤ f ∧ f < 2147483647
def At (S : Sto) (H : Hp) (p : Addr) (o : HO) : Prop := p ≠ S.1 ∧ H p = some o
def ExS (S : Sto) (H H' : Hp) : Prop := ∀ p o, p ≠ S.1 → H p = some o → H' p = some o
theorem ExS.refl (S : Sto) (H : Hp) : ExS S H H := fun _ _ _ h => h
theorem ExS.trans {S : Sto} {H H1 H2 : Hp} (a : ExS S H H1) (b : ExS S H1 H2) : ExS S H H2 := fun p o n h => b p o n (a p o n h)
theorem ExS.updS {S : Sto} {H : Hp} {o : HO} : ExS S H (upd H S.1 o) := fun p u n h => by rw [upd_ne n]; exact h
theorem ExS.new {S : Sto} {H : Hp} {p : Addr} {o : HO} (h : H p = none) : ExS S H (upd H p o) := fun a u _ e => by rw [upd_ne (ne_of_none e h)]; exact e
theorem ExS.mut {S : Sto} {H H' : Hp} {p : Addr} {o : HO} (e : ExS S H H') (h : H p = none) : ExS S H (upd H' p o) := fun a u n ha => by rw [upd_ne (ne_of_none ha h)]; exact e a u n ha
theorem At.back {S : Sto} {H H' : Hp} {p : Addr} {o : HO} (e : ExS S H H') (h : At S H p o) : At S H' p o := ⟨h.1, e p o h.1 h.2⟩
theorem StoreOk.ne1 {S : Sto} {H : Hp} {p : Addr} (s : StoreOk S H) (h : H p = none) : p ≠ S.1 := by
  obtain ⟨_, _, _, _, _, _, _, _, hs, _⟩ := s
  exact fun e => (by rw [e, hs] at h; cases h)
theorem StoreOk.ne2 {S : Sto} {H : Hp} {p : Addr} (s : StoreOk S H) (h : H p = none) : p ≠ S.2 := by
  obtain ⟨_, _, _, _, _, _, _, _, _, hs, _⟩ := s
  exact fun e => (by rw [e, hs] at h; cases h)
theorem At.new {S : Sto} {H : Hp} {p : Addr} {o : HO} (s : StoreOk S H) (h : H p = none) : At S (upd H p o) p o := ⟨s.ne1 h, upd_same⟩
theorem store_upd {S : Sto} {p : Addr} {H : Hp} {o : HO} (s : StoreOk S H) (n : p ≠ S.1) (n2 : p ≠ S.2) : StoreOk S (upd H p o) := by
  obtain ⟨cells, a, b, c, d, e, f, n', hs, hq, r⟩ := s
  exact ⟨cells, a, b, c, d, e, f, n', by rw [upd_ne (Ne.symm n)]; exact hs, by rw [upd_ne (Ne.symm n2)]; exact hq, r⟩
theorem StoreOk.new {S : Sto} {H : Hp} {p : Addr} {o : HO} (s : StoreOk S H) (h : H p = none) : StoreOk S (upd H p o) := store_upd s (s.ne1 h) (s.ne2 h)
theorem StoreOk.same {S : Sto} {H H' : Hp} (s : StoreOk S H) (e : Same H H') : StoreOk S H' := by
  obtain ⟨cells, a, b, c, d, e', f, n, hs, hq, r⟩ := s
  exact ⟨cells, a, b, c, d, e', f, n, e _ _ hs, e _ _ hq, r⟩
theorem upd_id {H : Hp} {p : Addr} {o : HO} (h : H p = some o) : upd H p o = H := by
  funext b; unfold upd; split
  · rename_i e; rw [e, h]
  · rfl
theorem same_mut {H H' : Hp} {p : Addr} {o : HO} (e : Same H H') (h : H p = none) : Same H (upd H' p o) := fun b x hb => by rw [upd_ne (ne_of_none hb h)]; exact e b x hb
theorem ixN_nat {n : Nat} {i : Int} (h0 : 0 ≤ i) (h1 : i < n) : ixN n i = some i.toNat := by unfold ixN; rw [if_pos h0, if_pos h1]
theorem get_map {α : Type} {xs : List α} {f : α → V} {i : Nat} {x : V} (h : (xs.map f)[i]? = some x) : ∃ n, xs[i]? = some n ∧ x = f n := by
  rw [List.getElem?_map] at h
  cases e : xs[i]? with
  | none => rw [e] at h; cases h
  | some n => rw [e] at h; exact ⟨n, rfl, (Option.some.inj h).symm⟩
theorem flat_ints (ns : List Int) : (ns.map V.int).all flatV = true := by
  rw [List.all_map]; exact List.all_eq_true.mpr fun _ _ => rfl
theorem swap_perm {xs : List V} {i j : Nat} (hi : i < xs.length) (hj : j < xs.length) : ((xs.set i (xs[j]'hj)).set j (xs[i]'hi)).Perm xs := by
  rw [List.perm_iff_count]
  intro a
  rw [List.count_set (by rw [List.length_set]; exact hj), List.count_set hi]
  have hc : ∀ (k : Nat) (hk : k < xs.length), (xs[k] == a) = true → 0 < xs.count a := fun k hk e => List.count_pos_iff.mpr (by rw [← (beq_iff_eq.mp e)]; exact List.getElem_mem hk)
  have h1 := hc i hi
  have h2 := hc j hj
  by_cases e : i = j
  · subst e
    simp only [List.getElem_set_self]
    by_cases q : (xs[i] == a) = true
    · have := h1 q; simp only [q, if_true]; omega
    · simp only [q]; simp
  · rw [List.getElem_set_ne e]
    by_cases q : (xs[i] == a) = true <;> by_cases r : (xs[j] == a) = true <;> simp only [q, r, if_true] <;> simp <;> (try have := h1 q) <;> (try have := h2 r) <;> omega
def InR (n : Int) : Prop := -1000000000000 ≤ n ∧ n ≤ 1000000000000
instance (n : Int) : Decidable (InR n) := by unfold InR; exact inferInstance
def Sc : V → Prop
  | .non => True
  | .bl _ => True
  | .int _ => True
  | .str _ => True
  | _ => False
def isNum : V → Bool
  | .int n => decide (InR n)
  | _ => false
def Bad (v : V) : Prop := (∃ b, v = .bl b) ∨ ∃ n, v = .int n ∧ ¬ InR n
theorem ints_of {ns : List Int} : ∀ {ys : List V}, (∀ y ∈ ys, y ∈ ns.map V.int) → ∃ ms : List Int, ys = ms.map V.int ∧ ∀ m ∈ ms, m ∈ ns
  | [], _ => ⟨[], rfl, fun _ h => by cases h⟩
  | y :: ys, h => by
    obtain ⟨ms, e, hm⟩ := ints_of (ys := ys) fun z hz => h z (List.mem_cons_of_mem _ hz)
    obtain ⟨n, hn, rfl⟩ := List.mem_map.mp (h y List.mem_cons_self)
    refine ⟨n :: ms, by rw [e]; rfl, fun m hm' => ?_⟩
    rcases List.mem_cons.mp hm' with h1 | h1
    · rw [h1]; exact hn
    · exact hm m h1
theorem cut_mem {xs : List V} {lo hi : Option Int} {v : V} (h : v ∈ cutV xs lo hi) : v ∈ xs := by
  unfold cutV at h
  exact List.mem_of_mem_drop (List.mem_of_mem_take h)
theorem cut_to {xs : List V} {k : Nat} : cutV xs none (some (k : Int)) = xs.take k := by
  unfold cutV
  rw [HT.sIx_none, HT.sIx_nat, List.drop_zero, Nat.sub_zero]
  by_cases h : k ≤ xs.length
  · rw [Nat.min_eq_left h]
  · rw [Nat.min_eq_right (by omega), List.take_length, List.take_of_length_le (by omega)]
/-- the same data, to a depth -/
def Alike (H : Hp) : Nat → V → V → Prop
  | 0, x, y => Sc x ∧ x = y
  | n + 1, x, y => (Sc x ∧ x = y) ∨ ∃ (a b : Addr) (xs ys : List V), x = .ref a ∧ y = .ref b ∧ ((H a = some (.lst xs) ∧ H b = some (.lst ys)) ∨ (H a = some (.tup xs) ∧ H b = some (.tup ys))) ∧ xs.length = ys.length ∧ xs.length ≤ 100000 ∧ ∀ (i : Nat) (u v : V), xs[i]? = some u → ys[i]? = some v → Alike H n u v
theorem Alike.same {H H' : Hp} (e : Same H H') : ∀ {n : Nat} {x y : V}, Alike H n x y → Alike H' n x y
  | 0, _, _, h => h
  | n + 1, _, _, h => by
    rcases h with h | ⟨a, b, xs, ys, e1, e2, h, hl, h100, hi⟩
    · exact .inl h
    · refine .inr ⟨a, b, xs, ys, e1, e2, ?_, hl, h100, fun i u v h1 h2 => (hi i u v h1 h2).same e⟩
      rcases h with ⟨h1, h2⟩ | ⟨h1, h2⟩
      · exact .inl ⟨e _ _ h1, e _ _ h2⟩
      · exact .inr ⟨e _ _ h1, e _ _ h2⟩
theorem rd_isiL {H : Hp} {Q : VK} {K : PySem.W.Frag} {p : Addr} {xs : List V} {n : String} {b : Bool} (h : H p = some (.lst xs)) (k : kitB "list" n = some b) (q : Q (.bl b) H) : rIsi K [.ref p, .ty n] H Q := rd_isi (.lst h) k q
theorem rd_isiT {H : Hp} {Q : VK} {K : PySem.W.Frag} {p : Addr} {xs : List V} {n : String} {b : Bool} (h : H p = some (.tup xs)) (k : kitB "tuple" n = some b) (q : Q (.bl b) H) : rIsi K [.ref p, .ty n] H Q := rd_isi (.tup h) k q
theorem rd_isiLT {H : Hp} {x : V} {Q : VK} {K : PySem.W.Frag} {tp : Addr} {b : Bool} {a : String} (h : H tp = some (.tup [.ty "list", .ty "tuple"])) (ty : TyOf K H x (.type a)) (k : PySem.W.kitAny K (.type a) [.type "list", .type "tuple"] = some b) (q : Q (.bl b) H) : rIsiT K [x, .ref tp] H Q :=
  ⟨x, tp, _, .type a, _, b, rfl, h, .cons (.ty _) (.cons (.ty _) .nil), .base ty, k, q⟩
theorem ka_list {K : PySem.W.Frag} : PySem.W.kitAny K (.type "list") [.type "list", .type "tuple"] = some true := kitAny_cons (kit_ty kb_list_list) (fun h => by cases h) (fun _ => rfl)
theorem ka_tuple {K : PySem.W.Frag} : PySem.W.kitAny K (.type "tuple") [.type "list", .type "tuple"] = some true := kitAny_cons (kit_ty kb_tuple_list) (fun _ => kitAny_cons (kit_ty kb_tuple_tuple) (fun h => by cases h) (fun _ => rfl)) (fun h => by cases h)
theorem decTF : decide (true = true) = true := rfl
theorem rd_ixQL {K : PySem.W.Frag} {H : Hp} {p : Addr} {xs : List V} {i : Int} {v : V} {Q : VK} (h : H p = some (.lst xs)) (e : atI xs i = some v) (q : Q v H) : rIx K (.ref p) (.int i) H Q := .inl (rd_ixL h e q)
theorem rd_ixQT {K : PySem.W.Frag} {H : Hp} {p : Addr} {xs : List V} {i : Int} {v : V} {Q : VK} (h : H p = some (.tup xs)) (e : atI xs i = some v) (q : Q v H) : rIx K (.ref p) (.int i) H Q := .inr (.inl ⟨p, xs, i, v, rfl, rfl, .inl (.inl h), e, q⟩)
theorem same_ex {S : Sto} {H H' : Hp} (e : Same H H') : ExS S H H' := fun p o _ h => e p o h
theorem same_new {H : Hp} {p : Addr} {o : HO} (h : H p = none) : Same H (upd H p o) := fun b x e => by rw [upd_ne (ne_of_none e h)]; exact e
theorem sz {n : Nat} (h : n ≤ 100000) : n ≤ sizeLine := Nat.le_trans h (by decide)
theorem sl_of {K : PySem.W.Frag} {H : Hp} {a : Addr} {xs : List V} (h : H a = some (.lst xs)) : SqL K H a xs := .inl (.inl h)
theorem st_of {K : PySem.W.Frag} {H : Hp} {a : Addr} {xs : List V} (h : H a = some (.tup xs)) : SqT K H a xs := .inl (.inl h)

/-! ### min and max of a list of ints with default= -/
def rMinD (K : PySem.W.Frag) : List V → List V → Hp → VK → Prop := fun vs zs H Q => ∃ (a : Addr) (ns : List Int) (d : V), vs = [.ref a] ∧ zs = [d] ∧ SqL K H a (ns.map V.int) ∧ (ns = [] → Q d H) ∧ ∀ m, m ∈ ns → (∀ y ∈ ns, m ≤ y) → Q (.int m) H
def rMaxD (K : PySem.W.Frag) : List V → List V → Hp → VK → Prop := fun vs zs H Q => ∃ (a : Addr) (ns : List Int) (d : V), vs = [.ref a] ∧ zs = [d] ∧ SqL K H a (ns.map V.int) ∧ (ns = [] → Q d H) ∧ ∀ m, m ∈ ns → (∀ y ∈ ns, y ≤ m) → Q (.int m) H
theorem minOf_int : ∀ (xs : List Int) (x : Int), PySem.W.minOf x xs ∈ x :: xs ∧ ∀ y ∈ x :: xs, PySem.W.minOf x xs ≤ y
  | [], x => ⟨List.mem_cons_self, fun y h => by rw [List.mem_singleton.mp h]; exact Int.le_refl x⟩
  | z :: xs, x => by
    have e : PySem.W.minOf x (z :: xs) = PySem.W.minOf (if z < x then z else x) xs := by
      show List.foldl _ _ xs = List.foldl _ _ xs
      congr 1
      show (if decide (z < x) = true then z else x) = _
      by_cases h : z < x <;> simp [h]
    rw [e]
    obtain ⟨h1, h2⟩ := minOf_int xs (if z < x then z else x)
    by_cases h : z < x
    · rw [if_pos h] at h1 h2 ⊢
      refine ⟨List.mem_cons_of_mem _ h1, fun y hy => ?_⟩
      rcases List.mem_cons.mp hy with rfl | hy
      · exact Int.le_trans (h2 _ List.mem_cons_self) (Int.le_of_lt h)
      · exact h2 _ hy
    · rw [if_neg h] at h1 h2 ⊢
      refine ⟨?_, fun y hy => ?_⟩
      · rcases List.mem_cons.mp h1 with q | q
        · rw [q]; exact List.mem_cons_self
        · exact List.mem_cons_of_mem _ (List.mem_cons_of_mem _ q)
      · rcases List.mem_cons.mp hy with rfl | hy
        · exact h2 _ List.mem_cons_self
        · rcases List.mem_cons.mp hy with rfl | hy
          · exact Int.le_trans (h2 _ List.mem_cons_self) (by omega)
          · exact h2 _ (List.mem_cons_of_mem _ hy)
theorem maxOf_int : ∀ (xs : List Int) (x : Int), PySem.W.maxOf x xs ∈ x :: xs ∧ ∀ y ∈ x :: xs, y ≤ PySem.W.maxOf x xs
  | [], x => ⟨List.mem_cons_self, fun y h => by rw [List.mem_singleton.mp h]; exact Int.le_refl x⟩
  | z :: xs, x => by
    have e : PySem.W.maxOf x (z :: xs) = PySem.W.maxOf (if x < z then z else x) xs := by
      show List.foldl _ _ xs = List.foldl _ _ xs
      congr 1
      show (if decide (x < z) = true then z else x) = _
      by_cases h : x < z <;> simp [h]
    rw [e]
    obtain ⟨h1, h2⟩ := maxOf_int xs (if x < z then z else x)
    by_cases h : x < z
    · rw [if_pos h] at h1 h2 ⊢
      refine ⟨List.mem_cons_of_mem _ h1, fun y hy => ?_⟩
      rcases List.mem_cons.mp hy with rfl | hy
      · exact Int.le_trans (Int.le_of_lt h) (h2 _ List.mem_cons_self)
      · exact h2 _ hy
    · rw [if_neg h] at h1 h2 ⊢
      refine ⟨?_, fun y hy => ?_⟩
      · rcases List.mem_cons.mp h1 with q | q
        · rw [q]; exact List.mem_cons_self
        · exact List.mem_cons_of_mem _ (List.mem_cons_of_mem _ q)
      · rcases List.mem_cons.mp hy with rfl | hy
        · exact h2 _ List.mem_cons_self
        · rcases List.mem_cons.mp hy with rfl | hy
          · exact Int.le_trans (by omega) (h2 _ List.mem_cons_self)
          · exact h2 _ (List.mem_cons_of_mem _ hy)
theorem holds_int {h : Heap} {v : Value} {n : Int} (H : PySem.W.Holds h v n) : ∃ t, v = .int n t := by
  obtain ⟨as, r⟩ := H
  cases r
  exact ⟨_, rfl⟩
theorem hold_all {h : Heap} : ∀ {ns : List Int} {its : List Value}, Vals (ns.map V.int) its → PySem.W.HoldAll h its ns
  | [], _, .nil => PySem.W.HoldAll.nil
  | n :: ns, _, .cons r rs => by
    obtain ⟨t, rfl⟩ := r
    exact .cons ⟨_, .int n t⟩ (hold_all rs)
section
variable {X : Cx}
theorem cr_minD (hc : X.calm = true) (hu : X.A.units + 64 < cLine) : CallRK X (.builtin "min") [Str.ofString "default"] (rMinD X.K) := by
  intro pins s σ H vs zs us ws Q I r rz h
  obtain ⟨a, ns, d, rfl, rfl, hs, h0, h⟩ := h
  obtain rfl := Vals.ref1 r
  obtain ⟨w1, rfl, e1⟩ := vals1 rz
  obtain ⟨its, rv, hl, hz⟩ := I.list hs
  refine PySem.W.min_list_datum_default (I.ok.hd hc) hl.isList (hold_all rv) (by show X.A.units + 1 + 0 < cLine; omega) (fun e h' tk k => ?_) (fun y ys i v h' tk e hi hv k => ?_)
  · exact ⟨d, H, I.kept k, e1, h0 e⟩
  · obtain ⟨t, rfl⟩ := holds_int hv
    obtain ⟨m1, m2⟩ := minOf_int ys y
    subst e
    exact ⟨.int _, H, I.kept k, ⟨t, rfl⟩, h _ m1 m2⟩
theorem cr_maxD (hc : X.calm = true) (hu : X.A.units + 64 < cLine) : CallRK X (.builtin "max") [Str.ofString "default"] (rMaxD X.K) := by
  intro pins s σ H vs zs us ws Q I r rz h
  obtain ⟨a, ns, d, rfl, rfl, hs, h0, h⟩ := h
  obtain rfl := Vals.ref1 r
  obtain ⟨w1, rfl, e1⟩ := vals1 rz
  obtain ⟨its, rv, hl, hz⟩ := I.list hs
  refine PySem.W.max_list_datum_default (I.ok.hd hc) hl.isList (hold_all rv) (by show X.A.units + 1 + 0 < cLine; omega) (fun e h' tk k => ?_) (fun y ys i v h' tk e hi hv k => ?_)
  · exact ⟨d, H, I.kept k, e1, h0 e⟩
  · obtain ⟨t, rfl⟩ := holds_int hv
    obtain ⟨m1, m2⟩ := maxOf_int ys y
    subst e
    exact ⟨.int _, H, I.kept k, ⟨t, rfl⟩, h _ m1 m2⟩
/-! ### isinstance of a caught error that has its own dict -/
def rIsX (K : PySem.W.Frag) (cls : Value) (d : Option Addr) (a : Addr) : List V → Hp → VK → Prop := fun xs H Q => ∃ (D dd : Addr) (fs : List (Str × V)) (c : V) (cv : Value) (b : Bool), cls = .ref D ∧ d = some dd ∧ H dd = some (.xd fs) ∧ ExcC K D ∧ xs = [.ref a, c] ∧ (∀ u, RelV c u → u = cv) ∧ PySem.W.kitOne K (.ref D) cv = some b ∧ Q (.bl b) H
def rIsXT (K : PySem.W.Frag) (cls : Value) (d : Option Addr) (a : Addr) : List V → Hp → VK → Prop := fun xs H Q => ∃ (D dd : Addr) (fs : List (Str × V)) (tp : Addr) (cs : List V) (us : List Value) (b : Bool), cls = .ref D ∧ d = some dd ∧ H dd = some (.xd fs) ∧ ExcC K D ∧ xs = [.ref a, .ref tp] ∧ H tp = some (.tup cs) ∧ Paired ClsV cs us ∧ PySem.W.kitAny K (.ref D) us = some b ∧ Q (.bl b) H
theorem inst_exc {a D dd : Addr} {oe : Obj} {pn pins : List (Addr × Obj)} {s : Shared} {σ : L2.St} {H : Hp} {fs : List (Str × V)} (hz : Zc (.ref D) (some dd) oe) (hf : ∃ vs, oe.data = .fields vs) (I : Inv (X.suite a ((a, oe) :: pn)) pins σ H s) (hd : H dd = some (.xd fs)) :
    ∃ od, PySem.W.InstAt s.heap a oe D (some od) := by
  obtain ⟨hget, _⟩ := I.pin (a, oe) (List.mem_append.mpr (.inl List.mem_cons_self))
  obtain ⟨vs, hv⟩ := hf
  obtain ⟨mA, hns, hr⟩ := (show ObjOk X.prog X.w H s.heap dd (.xd fs) from I.hok dd _ hd)
  obtain ⟨od, ho, hl⟩ := lookIn_ns hns
  exact ⟨od, hget, hz.1, by unfold PySem.W.notCls; rw [hv] <;> rfl, by rw [hz.2]; exact ho⟩
theorem kit_exc {K : PySem.W.Frag} {D a : Addr} {oe : Obj} {od : Option Obj} (C : ExcC K D) : PySem.W.KitX K (.ref a) (.ref D) (fun h => PySem.W.InstAt h a oe D od) :=
  PySem.W.kitx_exc (by obtain ⟨cd, hc, _⟩ := PySem.W.any_some C.hd; rw [hc]; rfl) C.hg C.hk C.hs C.ha C.hn C.ht C.hm
theorem call_isX {K : PySem.W.Frag} {cls : Value} {d : Option Addr} {a : Addr} {oe : Obj} {pn : List (Addr × Obj)} (hK : X.K = K) (hz : Zc cls d oe) (hf : ∃ vs, oe.data = .fields vs) : CallR (X.suite a ((a, oe) :: pn)) (.builtin "isinstance") (rIsX K cls d a) := by
  intro pins s σ H xs us Q I r h
  obtain ⟨D, dd, fs, c, cv, b, rfl, rfl, hd, C, rfl, hcv, e, q⟩ := h
  subst hK
  obtain ⟨u1, u2, rfl, r1, r2⟩ := vals2 r
  obtain rfl : u1 = Value.ref a := r1
  obtain rfl := hcv _ r2
  obtain ⟨od, J⟩ := inst_exc hz hf I hd
  exact PySem.W.kia_one (kit_exc C) I.kIn J e (fun z => nomatch z) fun tk => ⟨.bl b, H, I.kept (t' := tk) fun _ _ z => z, rfl, q⟩
theorem call_isXT {K : PySem.W.Frag} {cls : Value} {d : Option Addr} {a : Addr} {oe : Obj} {pn : List (Addr × Obj)} (hK : X.K = K) (hz : Zc cls d oe) (hf : ∃ vs, oe.data = .fields vs) : CallR (X.suite a ((a, oe) :: pn)) (.builtin "isinstance") (rIsXT K cls d a) := by
  intro pins s σ H xs us Q I r h
  obtain ⟨D, dd, fs, tp, cs, ws, b, rfl, rfl, hd, C, rfl, hT, hp, e, q⟩ := h
  subst hK
  obtain ⟨u1, u2, rfl, r1, r2⟩ := vals2 r
  obtain rfl : u1 = Value.ref a := r1
  cases (show u2 = Value.ref tp from r2)
  obtain ⟨od, J⟩ := inst_exc hz hf I hd
  obtain ⟨_, its, rv, o, h1, h2, n, h3⟩ := (show ObjOk X.prog X.w H s.heap tp (.tup cs) from I.hok tp _ hT)
  have e3 := ClsV.all hp rv
  subst e3
  obtain ⟨oc, ood, dt, sl⟩ := o
  simp only at h2 h3
  subst h2 h3
  exact PySem.W.kia_tup (kit_exc C) I.kIn J h1 e (fun z => nomatch z) fun tk => ⟨.bl b, H, I.kept (t' := tk) fun _ _ z => z, rfl, q⟩
end
/-! ### an own error with one field -/
def spInit1 (K : PySem.W.Frag) (fld : Str) : Sp := fun vs H Q _ => ∃ (a C : Addr) (v : V), vs = [.ref a, v] ∧ OexC K C ∧ PySem.W.findIn K (.ref C) fld = some none ∧ H a = some (exo a C none) ∧ ∀ dx, H dx = none → dx ≠ a → Q .non (upd (upd H dx (exd dx [(fld, v)])) a (exo a C (some dx)))
theorem same_made {H1 : Hp} {a dx C : Addr} {fs : List (Str × V)} {e0 : HO} (na : H1 a = none) (nd : H1 dx = none) (ne : dx ≠ a) : Same H1 (upd (del (upd (upd (upd H1 a e0) dx (exd dx fs)) a (exo a C (some dx))) a) dx (.xd fs)) := fun b o hb => by
  have h1 := ne_of_none hb na
  have h2 := ne_of_none hb nd
  rw [upd_ne h2, del_ne h1, upd_ne h1, upd_ne h2, upd_ne h1]
  exact hb
/-- C(v)'s reading, from what is asked of the new error -/
theorem rd_mk1 {K : PySem.W.Frag} {C : Addr} {fld : Str} {v : V} {H1 : Hp} {W : XK} (T : OexC K C) (nf : PySem.W.findIn K (.ref C) fld = some none) (h : ∀ d H', H1 d = none → Same H1 H' → H' d = some (.xd [(fld, v)]) → W (.ref C) (some d) H') :
    [v].length ≤ 1000 ∧ ∀ a, H1 a = none → spInit1 K fld (.ref a :: ([v] ++ [])) (upd H1 a (exo a C none))
      (fun v H2 => v = .non ∧ ∃ (d : Addr) (fs : List (Str × V)), H2 a = some (exo a C (some d)) ∧ H2 d = some (exd d fs) ∧ H1 d = none ∧ W (.ref C) (some d) (upd (del H2 a) d (.xd fs))) (fun _ _ _ => False) := by
  refine ⟨by simp, fun a na => ⟨a, C, v, rfl, T, nf, upd_same, fun dx ndx ne => ?_⟩⟩
  have nd : H1 dx = none := by rw [upd_ne ne] at ndx; exact ndx
  exact ⟨rfl, dx, [(fld, v)], upd_same, by rw [upd_ne ne]; exact upd_same, nd, h dx _ nd (same_made na nd ne) upd_same⟩
structure HasI (P : Program) (w : World) (K : PySem.W.Frag) (mg : Str → Option Value) (base : Heap) (C : Addr) (k : Nat) (ps : List Str) (sp : Sp) : Prop where
  ex : ∃ fI fd, FnOk P w K mg base CX0 k fI fd ps sp ∧ PySem.W.findIn K (.ref C) "__init__" = some (some (.ref fI)) ∧ PySem.W.typeIn K (.ref fI) = some (.type "function") ∧ Binds K fd ps []
structure ErrC (K : PySem.W.Frag) (mg : Str → Option Value) (x : Str) (C : Addr) : Prop where
  gC : mg x = some (.ref C)
  ox : OexC K C
  xf : XfC K C
  ec : ExcC K C
  self : PySem.W.exmOne K (.ref C) (.ref C) = some true
/-- raise C(e, ..) -/
theorem ps_raiseC {X : Cx} {x : Str} {C : Addr} {k j : Nat} {ps : List Str} {sp : Sp} {e : Expr} {es : List Expr} {ta : TA} {W : WX} {p pos pos2 : Pos} (hc : X.calm = true) (tk : Takes X W) (E : ErrC X.K X.mg x C) (I : HasI X.prog X.w X.K X.mg X.base C j ps sp) (hr : Room k X.A) (hj : j + 1 ≤ k) (hg : Gl X x) (ha : PA X (e :: es) ta)
    (hdb : (x == ("__debug__" : Str)) = false := by decide) (he : starEach (e :: es) X.env = (false, eval e X.env) :: starEach es X.env := by rfl) (hpl : (backTo pos (starEach es X.env)).any (·.1) = false := by rfl) :
    PS X (.Raise (some (.Call (.Name x p) (e :: es) [] pos)) none pos2) (fun _ σ H => tMkO C sp [] ta σ H fun cls d H' => W cls d σ H') := by
  obtain ⟨fI, fd, F1, iC, tI, hb⟩ := I.ex
  exact ps_raise hc tk (pmk_oex E.ox iC tI F1 (hr.mono hj) hb .nil pass0 hg E.gC ha hdb he hpl)
theorem rd_mkO {C : Addr} {sp : Sp} {ta : TA} {σ : L2.St} {H : Hp} {Q : XK} (h : ta σ H fun vs H1 => vs.length ≤ 1000 ∧ ∀ a, H1 a = none → sp (.ref a :: (vs ++ [])) (upd H1 a (exo a C none))
  (fun v H2 => v = .non ∧ ∃ (d : Addr) (fs : List (Str × V)), H2 a = some (exo a C (some d)) ∧ H2 d = some (exd d fs) ∧ H1 d = none ∧ Q (.ref C) (some d) (upd (del H2 a) d (.xd fs))) (fun _ _ _ => False)) : tMkO C sp [] ta σ H Q := h
theorem rd_ckw {r : List V → List V → Hp → VK → Prop} {t tk : TA} {σ : L2.St} {H : Hp} {Q : VK} (h : t σ H fun vs H1 => tk σ H1 fun zs H2 => r vs zs H2 Q) : tCKw r t tk σ H Q := h
theorem rd_xf {a C : Addr} {cls : Value} {d : Option Addr} {f : Str} {te : TE} {σ : L2.St} {H : Hp} {Q : VK} (h : te σ H fun x H1 => x = .ref a ∧ cls = .ref C ∧ ∃ (dd : Addr) (fs : List (Str × V)) (v : V), d = some dd ∧ H1 dd = some (.xd fs) ∧ fs.lookup f = some v ∧ Q v H1) : tXf a cls d C f te σ H Q := h
theorem rd_iTup {K : PySem.W.Frag} {te : TE} {σ : L2.St} {H : Hp} {R : It → Hp → Prop} (h : te σ H fun x H1 => ∃ a, x = .ref a ∧ (∃ xs, SqT K H1 a xs) ∧ R (Itt K a) H1) : iTup K te σ H R := h
theorem rd_lc {wi : TI} {g : TG} {tt : TT} {te : TE} {vs : List Nat} {σ : L2.St} {H : Hp} {Q : VK} (h : wi σ H fun J H1 => ∀ D, H1 D = none → ∃ W : Nat → Nat → Hp → Prop, (∃ m, W 0 m (upd H1 D (.lst []))) ∧ ∀ i m H, W i m H →
  (J.stop i H ∧ Q (.ref D) H) ∨ (J.go i H ∧ ∃ Nx : Hp → Prop, (∀ H', Nx H' → ∃ m', m' < m ∧ W (i + 1) m' H') ∧ ∀ x H', J.yld i H x H' → g x (wipe σ vs) H' fun σ2 H2 => wipe σ2 vs = wipe σ vs ∧ tt σ2 H2 fun b H3 =>
    if b = true then te σ2 H3 fun y H4 => ∃ acc, H4 D = some (.lst acc) ∧ acc.length < sizeLine ∧ Nx (upd H4 D (.lst (acc ++ [y]))) else Nx H3)) : tLc wi g tt te vs σ H Q := h
/-! ### defs that raise -/
structure HasX (P : Program) (w : World) (K : PySem.W.Frag) (mg : Str → Option Value) (base : Heap) (x : Str) (k : Nat) (ps : List Str) (sp : Sp) : Prop where
  ex : ∃ f fd, FnOk P w K mg base (L2.CX P w) k f fd ps sp ∧ mg x = some (.ref f) ∧ PySem.W.keepIn K (.ref f) = true ∧ Binds K fd ps []
theorem HasX.mono {P : Program} {w : World} {K : PySem.W.Frag} {mg : Str → Option Value} {base : Heap} {x : Str} {j k : Nat} {ps : List Str} {sp : Sp} (h : HasX P w K mg base x j ps sp) (l : j ≤ k) : HasX P w K mg base x k ps sp := by
  obtain ⟨f, fd, F, r⟩ := h.ex
  exact ⟨f, fd, F.mono l, r⟩
/-- called with keywords alone: g puts the keywords' values (named ks) in the parameters' order -/
structure HasK (P : Program) (w : World) (K : PySem.W.Frag) (mg : Str → Option Value) (base : Heap) (CX : CXT) (x : Str) (k : Nat) (ps ks : List Str) (g : {α : Type} → List α → List α) (sp : Sp) : Prop where
  ex : ∃ f fd, FnOk P w K mg base CX k f fd ps sp ∧ mg x = some (.ref f) ∧ PySem.W.keepIn K (.ref f) = true ∧ (∀ (s : Shared) (ws : List Value), ws.length = ks.length → BindsTo s fd ⟨[], ks.zip ws⟩ (ps.zip (g ws))) ∧ (∀ (vs : List V) (ws : List Value), vs.length = ks.length → Vals vs ws → Vals (g vs) (g ws))
theorem HasK.mono {P : Program} {w : World} {K : PySem.W.Frag} {mg : Str → Option Value} {base : Heap} {CX : CXT} {x : Str} {j k : Nat} {ps ks : List Str} {g : {α : Type} → List α → List α} {sp : Sp} (h : HasK P w K mg base CX x j ps ks g sp) (l : j ≤ k) : HasK P w K mg base CX x k ps ks g sp := by
  obtain ⟨f, fd, F, r⟩ := h.ex
  exact ⟨f, fd, F.mono l, r⟩
def tCallKS (sp : Sp) (n : Nat) (g : List V → List V) (E : L2.St → XK) (tk : TA) : TE := fun σ H Q => tk σ H fun zs H1 => zs.length = n ∧ sp (g zs) H1 Q (E σ)
section
variable {X : Cx} {x : Str} {k : Nat} {ps ks : List Str} {sp : Sp} {e : Expr} {es : List Expr} {t tk : TA} {p pos : Pos} {W : WX} {kws : List Keyword} {CX : CXT}
/-- a call within a try, or in a def that lets errors out -/
theorem pe_callX (h : HasX X.prog X.w X.K X.mg X.base x k ps sp) (hr : Room k X.A) (hg : Gl X x) (tk : Takes X W) (ha : PA X (e :: es) t)
    (hdb : (x == ("__debug__" : Str)) = false := by decide) (he : starEach (e :: es) X.env = (false, eval e X.env) :: starEach es X.env := by rfl) (hpl : (backTo pos (starEach es X.env)).any (·.1) = false := by rfl) :
    PE X (.Call (.Name x p) (e :: es) [] pos) (tCallS sp (WE W) t) := by
  obtain ⟨f, fd, F, hm, hk, hb⟩ := h.ex
  exact pe_callS F hr hg hm hk hb (fun σ => passAt tk σ) ha hdb he hpl
theorem pe_callKS {g : {α : Type} → List α → List α} {E : L2.St → XK} (h : HasK X.prog X.w X.K X.mg X.base CX x k ps ks g sp) (hr : Room k X.A) (hg : Gl X x) (hx : ∀ σ, PassesAt CX X σ (E σ)) (hkw : PK X kws tk)
    (hall : (backToKw pos (keywordEach kws X.env)).all (·.1.isSome) = true := by rfl) (hks : (backToKw pos (keywordEach kws X.env)).filterMap (·.1) = ks := by rfl) (hdb : (x == ("__debug__" : Str)) = false := by decide)
    (hpl : ((backTo pos (starEach [] X.env)).any (·.1) || (backToKw pos (keywordEach kws X.env)).any (·.1.isNone)) = false := by rfl) :
    PE X (.Call (.Name x p) [] kws pos) (tCallKS sp ks.length g E tk) := by
  obtain ⟨f, fd, F, hm, hk, hb, hrel⟩ := h.ex
  refine ⟨fun pins s σ H Q I h => ?_⟩
  refine wpAny_Call_Name_kw (ld_glob I hg hm ?_ hdb)
  refine PySem.W.callWith_KW0 (h₀ := X.base) I.ok.mod.kin hk hall ?_ hpl
  refine thn (hkw.run pos pins s σ H _ I h) fun ws s2 ⟨zs, H2, I2, rz, l2, q2⟩ => ⟨I2.kIn, ?_⟩
  rw [hks]
  have r2 := hrel zs ws l2 rz
  refine wpAny_call (codeAny_mono (F.run X.A X.stack s2 H2 ⟨[], ks.zip ws⟩ (g ws) (g zs) Q (E σ) hr I2.env0 (hb s2 ws (rz.length.symm.trans l2)) r2 q2) fun r s' hq => ?_)
  cases r with
  | error e => exact hx σ pins H2 s2 e s' I2 hq
  | ok fl =>
    cases fl with
    | ret u => exact I2.after hq
    | next => exact False.elim hq
    | brk => exact False.elim hq
    | cont => exact False.elim hq
theorem pass0S : ∀ σ, PassesAt CX0 X σ (fun _ _ _ => False) := fun _ _ _ _ _ _ _ h => h.elim
theorem rd_callS {σ : L2.St} {H : Hp} {E : L2.St → XK} {tA : TA} {Q : VK} (h : tA σ H fun vs H1 => sp vs H1 Q (E σ)) : tCallS sp E tA σ H Q := h
theorem rd_callKS {n : Nat} {g : List V → List V} {σ : L2.St} {H : Hp} {E : L2.St → XK} {tA : TA} {Q : VK} (h : tA σ H fun zs H1 => zs.length = n ∧ sp (g zs) H1 Q (E σ)) : tCallKS sp n g E tA σ H Q := h
end

/-! ### texts -/
theorem rd_ss {a b : Str} {R : Str → Str → Prop} (h : R a b) : ∃ i j, V.str a = .str i ∧ V.str b = .str j ∧ R i j := ⟨a, b, rfl, rfl, h⟩
theorem rd_s1 {a : Str} {R : Str → Prop} (h : R a) : ∃ z, [V.str a] = [V.str z] ∧ R z := ⟨a, rfl, h⟩
theorem rd_i1 {a : Int} {R : Int → Prop} (h : R a) : ∃ z, [V.int a] = [V.int z] ∧ R z := ⟨a, rfl, h⟩
theorem rd_ixS {z : Str} {i : Int} {c : Nat} {H : Hp} {Q : VK} (hz : z.length ≤ 100000) (e : atI z.cps.toList i = some c) (q : Q (.str ⟨#[c]⟩) H) : rIxS (.str z) (.int i) H Q := ⟨z, i, c, rfl, rfl, sz hz, e, q⟩
theorem rd_inS {c : Nat} {z : Str} {R : Nat → Str → Prop} (h : R c z) : ∃ (c' : Nat) (z' : Str), V.str ⟨#[c]⟩ = V.str ⟨#[c']⟩ ∧ V.str z = V.str z' ∧ R c' z' := ⟨c, z, rfl, rfl, h⟩
theorem rd_slS {z : Str} {lo hi : Option Int} {H : Hp} {Q : VK} (hz : z.length ≤ 100000) (q : Q (.str (cutS z lo hi)) H) : rSlS (.str z) lo hi H Q := ⟨z, rfl, sz hz, q⟩
theorem atI_nats {l : List Nat} {i : Int} (h0 : 0 ≤ i) (h1 : i < l.length) : ∃ c, c ∈ l ∧ l[i.toNat]? = some c ∧ atI l i = some c := by
  have hb : i.toNat < l.length := by omega
  refine ⟨l[i.toNat], List.getElem_mem hb, by simp [hb], ?_⟩
  unfold atI ixN
  rw [if_pos h0, if_pos h1]
  simp [hb]
theorem len_l (s : Str) : s.cps.toList.length = s.length := Array.length_toList
theorem app_l (a b : Str) : (a ++ b).cps.toList = a.cps.toList ++ b.cps.toList := by rw [Str.cps_append, Array.toList_append]
theorem app_len (a b : Str) : (a ++ b).length = a.length + b.length := by rw [← len_l, app_l, List.length_append, len_l, len_l]
theorem str_ext {a b : Str} (h : a.cps.toList = b.cps.toList) : a = b := PyProof.Rows.ext_toList h
theorem one_len (c : Nat) : (⟨#[c]⟩ : Str).length = 1 := rfl
theorem one_l (c : Nat) : (⟨#[c]⟩ : Str).cps.toList = [c] := rfl
theorem cutS_len (z : Str) (lo hi : Option Int) : (cutS z lo hi).length ≤ z.length := by
  rw [← len_l, ← len_l]
  show ((z.cps.toList.drop _).take _).toArray.toList.length ≤ _
  rw [List.toList_toArray, List.length_take, List.length_drop]
  omega
theorem cutS_to (z : Str) (k : Nat) : (cutS z none (some (k : Int))).cps.toList = z.cps.toList.take k := by
  show ((z.cps.toList.drop _).take _).toArray.toList = _
  rw [List.toList_toArray, HT.sIx_none, HT.sIx_nat, List.drop_zero, Nat.sub_zero]
  by_cases h : k ≤ z.length
  · rw [Nat.min_eq_left h]
  · rw [Nat.min_eq_right (by omega), ← len_l, List.take_length, List.take_of_length_le (by rw [len_l]; omega)]
/-! the decimal text of a number -/
def numS (n : Nat) : Str := Str.ofString (toString (n : Int))
theorem numS_l (n : Nat) : (numS n).cps.toList = TL.numL n := TL.tl_num n
theorem numS_inj {m n : Nat} (h : numS m = numS n) : m = n := TL.numL_inj (by rw [← numS_l, ← numS_l, h])
theorem numS_len {n : Nat} (h : n < 100000) : (numS n).length ≤ 5 := by
  rw [← len_l, numS_l]
  exact TL.numL_len (by omega) (by omega)
theorem app_num_inj {s : Str} {m n : Nat} (h : s ++ numS m = s ++ numS n) : m = n := by
  have e := congrArg (fun z : Str => z.cps.toList) h
  simp only [app_l] at e
  exact numS_inj (str_ext (List.append_cancel_left e))
/-! the least free number -/
theorem nodup_le {α : Type} [DecidableEq α] : ∀ {xs ys : List α}, xs.Nodup → (∀ x ∈ xs, x ∈ ys) → xs.length ≤ ys.length
  | [], _, _, _ => Nat.zero_le _
  | x :: xs, ys, hn, hs => by
    obtain ⟨h1, h2⟩ := List.nodup_cons.mp hn
    have hx := hs x List.mem_cons_self
    have := nodup_le (ys := ys.erase x) h2 fun z hz => by
      have ne : z ≠ x := fun e => h1 (e ▸ hz)
      exact (List.mem_erase_of_ne ne).mpr (hs z (List.mem_cons_of_mem _ hz))
    rw [List.length_erase_of_mem hx] at this
    have : 0 < ys.length := List.length_pos_of_mem hx
    simp only [List.length_cons]
    omega
theorem free_le {s : Str} {names : List Str} {n : Nat} (h : ∀ m, m < n → s ++ numS m ∈ names) : n ≤ names.length := by
  have := nodup_le (xs := (List.range n).map fun m => s ++ numS m) (ys := names) ?_ ?_
  · simpa using this
  · rw [List.nodup_iff_pairwise_ne, List.pairwise_map]
    exact List.nodup_range.imp fun hne e => hne (app_num_inj e)
  · intro z hz
    obtain ⟨m, hm, rfl⟩ := List.mem_map.mp hz
    exact h m (List.mem_range.mp hm)
/-- n is the least number that makes none of the names -/
def Least (s : Str) (names : List Str) (n : Nat) : Prop := (∀ m, m < n → s ++ numS m ∈ names) ∧ s ++ numS n ∉ names
theorem Least.unique {s : Str} {names : List Str} {m n : Nat} (h1 : Least s names m) (h2 : Least s names n) : m = n := by
  rcases Nat.lt_trichotomy m n with h | h | h
  · exact absurd (h2.1 m h) h1.2
  · exact h
  · exact absurd (h1.1 n h) h2.2
/-! names -/
def lets : Str := "abcdefghijklmnopqrstuvwxyz"
def letsD : Str := "abcdefghijklmnopqrstuvwxyz0123456789"
def isNmL : List Nat → Bool
  | [] => false
  | c :: l => decide ((c :: l).length ≤ 8) && decide (c ∈ lets.cps.toList) && (c :: l).all fun d => decide (d ∈ letsD.cps.toList)
def isNm (s : Str) : Bool := isNmL s.cps.toList
theorem eqv_strs (xs : List Str) : PyData.eqv (.list (xs.map PyData.str)) (.list (xs.map PyData.str)) = true := by
  show PyData.eqvAll _ _ = true
  induction xs with
  | nil => rfl
  | cons x xs ih => rw [List.map_cons]; simp only [PyData.eqvAll, PyData.eqv, ih]; simp
theorem inV_strs {x : Str} : ∀ {xs : List Str}, inV (.str x) (xs.map V.str) = decide (x ∈ xs)
  | [] => rfl
  | y :: ys => by
    have ih := inV_strs (x := x) (xs := ys)
    unfold inV at ih ⊢
    rw [List.map_cons, List.any_cons, ih]
    show (y == x || decide (x ∈ ys)) = decide (x ∈ y :: ys)
    by_cases h : y = x
    · subst h; simp
    · have h' : x ≠ y := fun e => h e.symm
      simp [h, h']
theorem flat_strs (ns : List Str) : (ns.map V.str).all flatV = true := by
  rw [List.all_map]; exact List.all_eq_true.mpr fun _ _ => rfl
theorem dp_strs {K : PySem.W.Frag} {H : Hp} : ∀ (xs : List Str), DpAll K H (xs.map V.str) (xs.map PyData.str)
  | [] => .nil
  | x :: xs => .cons (.str x) (dp_strs xs)
theorem pe_globS {X : Cx} {x : Str} {z : Str} {pos : Pos} (hg : Gl X x) (hm : ∃ t, X.mg x = some (.str z t)) (hd : (x == ("__debug__" : Str)) = false := by decide) : PE X (.Name x pos) (tC (.str z)) := by
  obtain ⟨t, e⟩ := hm
  exact pe_glob hg e ⟨t, rfl⟩ hd

set_option maxHeartbeats 1000000
/-! ### list(reversed(a list)) -/
section
variable {prog : Program} {w : World} {A : Around} {E : Value → Shared → Prop} {s : Shared}
theorem call_list_rev {it l : Addr} {items : Array Value} {Q : Value → Shared → Prop} (hh : A.handled = none) (hit : s.heap.IsRevIter it l ((items.size : Int) - 1)) (hl : s.heap.IsList l items) (hne : l ≠ it) (hn : items.size ≤ sizeLine)
    (hQ : ∀ (h' : Heap) (tk : Nat) (acc : Array Value) (c' : Nat), (∀ b o, b ≠ it → s.heap.get? b = some o → h'.get? b = some o) → h'.get? s.heap.objs.size = some { cls := .type "list", dict := none, data := .seq acc c', slots := #[] } →
      ItemsOf (fun i v => items[items.size - 1 - i]? = some v) acc items.size → Q (.ref s.heap.objs.size) { s with heap := h', toks := tk }) :
    wpAny (model prog w) A (call (.type "list") [.ref it]) Q E s := by
  obtain ⟨oi, hoi, _⟩ := id hit
  obtain ⟨ol, hol, _⟩ := id hl
  have hSi : s.heap.objs.size ≠ it := Nat.ne_of_gt (Heap.lt_size hoi)
  have hSl : s.heap.objs.size ≠ l := Nat.ne_of_gt (Heap.lt_size hol)
  have hSf : s.heap.objs.size ∉ [it, l] := by simp only [List.mem_cons, List.not_mem_nil, or_false, not_or]; exact ⟨hSi, hSl⟩
  refine callType_codes (Q₁ := fun obj s₁ => obj = .ref s.heap.objs.size ∧ s₁ = { s with heap := s.heap.push { cls := .type "list", data := .seq #[] } }) PySem.F.called_list (PySem.F.typeCall_list_1 _) PySem.F.entry_list_init
    (code_list_new _ ⟨rfl, rfl⟩) fun obj s₁ h₁ => ?_
  obtain ⟨rfl, rfl⟩ := h₁
  have hS : (s.heap.push { cls := .type "list", data := .seq #[] }).get? s.heap.objs.size = some { cls := .type "list", data := .seq #[] } := Heap.get?_push_size _ rfl
  have W := (Walks.listRev (prog := prog) (w := w) (A := A.in1.in1) hh it l hne items).toS
  refine ⟨⟨_, hS, rfl⟩, PySem.F.args_list_init_2 _ _, ?_⟩
  show wpAny _ _ (do let old ← Builtin.List.listItems (.ref s.heap.objs.size); Builtin.List.listUpdate (.ref s.heap.objs.size) (fun _ => #[]); letGo old.toList.reverse; Builtin.List.listExtendWith (.ref s.heap.objs.size) (.ref it) .none) _ _ _
  refine wpAny_bind ?_
  unfold Builtin.List.listItems
  refine wpAny_bind (wpAny_seqItems hS rfl (wpAny_pure ?_))
  show wpAny _ _ (updateSeq s.heap.objs.size (fun _ => #[]) >>= fun _ => letGo (#[] : Array Value).toList.reverse >>= fun _ => Builtin.List.listExtendWith (.ref s.heap.objs.size) (.ref it) .none) _ _ _
  refine wpAny_bind (wpAny_updateSeq hS rfl ?_)
  have hS₂ := Heap.get?_update_self (Obj.mapSeq (fun _ => (#[] : Array Value))) hS rfl
  have oth : ∀ b o, b ≠ s.heap.objs.size → s.heap.get? b = some o → ((s.heap.push { cls := .type "list", data := .seq #[] }).update s.heap.objs.size (Obj.mapSeq (fun _ => (#[] : Array Value)))).get? b = some o :=
    fun b o hb e => (Heap.get?_update_other _ _ (Ne.symm hb)).trans (Heap.get?_push_of_some _ e)
  refine wpAny_bind (wpAny_letGo ?_)
  generalize hM : ((s.heap.push { cls := .type "list", data := .seq #[] }).update s.heap.objs.size (Obj.mapSeq (fun _ => (#[] : Array Value)))) = M at hS₂ oth ⊢
  have hit1 : M.IsRevIter it l ((items.size : Int) - 1) := hit.at fun o e => oth _ o hSi.symm e
  have hl1 : M.IsList l items := by
    obtain ⟨o, e, r⟩ := hl
    exact ⟨o, oth _ o hSl.symm e, r⟩
  have hT : ({ s with heap := M } : Shared).TypeIs (.ref it) "list_reverseiterator" := Heap.IsRevIter.typeIs (s := { s with heap := M }) hit1
  have h1 : Builtin.List.listSameRef (.ref s.heap.objs.size) (.ref it) = false := by simp [Builtin.List.listSameRef, hSi]
  unfold Builtin.List.listExtendWith
  refine wpAny_bind (wpAny_typeOf hT ?_)
  rw [if_neg (by rw [h1]; decide)]
  refine wpAny_bind (wpAny_pyIter_revIter (s := { s with heap := M }) hit1 ?_)
  refine wpAny_bind (wpAny_holding ?_)
  unfold Builtin.List.listLengthHint
  refine wpAny_bind (wpAny_specialOf hT RT.nolen_lri ?_)
  show wpAny _ _ (specialOf (Value.ref it) (Str.ofString "__length_hint__") >>= _) _ _ _
  refine wpAny_bind (wpAny_specialOf hT RT.hint_lri ?_)
  generalize hid : ("list_reverseiterator.__length_hint__" : String) = id0
  wp_delta
  rw [show splitId id0 = some ("list_reverseiterator", "__length_hint__") from by subst hid; decide +kernel]
  subst hid
  refine wpAny_bind (wpAny_isInstance (b := true) hT (by rw [isSubtype_type]; kernel_rfl) ?_)
  refine wpAny_pure ?_
  rw [if_neg (by decide)]
  have e0 : ((items.size : Nat) : Int) - 1 - ((0 : Nat) : Int) = (items.size : Int) - 1 := by omega
  refine wpAny_pure ⟨plainId_quiet PySem.F.plain_extend_loop _, codeAny_extend_loopS W hn _ hSf _ items.size 0 _ _ _ rfl (Nat.zero_le _) ⟨Nat.zero_le _, by rw [e0]; exact hit1, hl1⟩ hS₂ (ItemsOf.nil _) fun s' acc' c' hm hS' hacc => ?_⟩
  rw [Moved.eq_with hm]
  refine ⟨rfl, hQ s'.heap s'.toks acc' c' (fun b o hb e => hm.heap b o (fun hmem => ?_) (oth b o (Nat.ne_of_lt (Heap.lt_size e)) e)) hS' hacc⟩
  rcases List.mem_cons.mp hmem with e' | hmem
  · exact absurd (Heap.lt_size e) (by rw [e']; exact Nat.lt_irrefl _)
  · exact hb (List.mem_singleton.mp hmem)
end
def tLstRev (K : PySem.W.Frag) (te : TE) : TE := fun σ H Q => te σ H fun v H1 => ∃ (a : Addr) (xs : List V), v = .ref a ∧ SqL K H1 a xs ∧ ∀ q, H1 q = none → Q (.ref q) (upd H1 q (.lst xs.reverse))
section
variable {X : Cx}
theorem pe_lstRev {e : Expr} {te : TE} {p p2 pos pos2 : Pos} (hc : X.calm = true) (hg : Gl X "list") (hm : X.mg "list" = none) (hg2 : Gl X "reversed") (hm2 : X.mg "reversed" = none) (he : PE X e te)
    (hs : starEach [e] X.env = (false, eval e X.env) :: starEach [] X.env := by rfl)
    (hs2 : starEach [.Call (.Name "reversed" p2) [e] [] pos2] X.env = (false, eval (.Call (.Name "reversed" p2) [e] [] pos2) X.env) :: starEach [] X.env := by rfl) :
    PE X (.Call (.Name "list" p) [.Call (.Name "reversed" p2) [e] [] pos2] [] pos) (tLstRev X.K te) := by
  refine ⟨fun pins s σ H Q I h => ?_⟩
  refine Call_ (ld_blt I hg hm boot_list (PyProof.Rows.callWith_type1 (args_cons (Call_ (ld_blt I hg2 hm2 PyProof.Rows.boot_reversed (PyProof.Rows.callWith_type1 (args_cons (thn (he.run pins s σ H _ I h) fun u s1 ⟨v, H1, I1, r1, q1⟩ => args_nil ?_) hs) hs rfl))) hs2) hs2 rfl))
  obtain ⟨a, xs, ev, hq, q⟩ := q1
  subst ev
  obtain rfl : u = Value.ref a := r1
  obtain ⟨its, rv, p', hz⟩ := I1.list hq
  refine call_reversed_list p'.isList (args_nil ?_)
  have hl := p'.isList
  obtain ⟨ol, hol, _⟩ := id hl
  have hne : a ≠ s1.heap.objs.size := Nat.ne_of_lt (Heap.lt_size hol)
  have hn : its.toArray.size ≤ sizeLine := by rw [List.size_toArray, ← rv.length]; exact hz
  refine call_list_rev (s := { s1 with heap := s1.heap.push (revObj a ((its.toArray.size : Int) - 1)) }) (I1.ok.hd hc) ⟨_, Heap.get?_push_size _ rfl, rfl, rfl⟩ (hl.push _) hne hn fun h' tk acc c' hk e hi => ?_
  have kp : ∀ b o, s1.heap.get? b = some o → h'.get? b = some o := fun b o e => hk b o (Nat.ne_of_lt (Heap.lt_size e)) (Heap.get?_push_of_some _ e)
  have hle : s1.heap.objs.size ≤ (s1.heap.push (revObj a ((its.toArray.size : Int) - 1))).objs.size := by simp [Heap.push]
  refine ⟨.ref (s1.heap.push (revObj a ((its.toArray.size : Int) - 1))).objs.size, _, I1.laid (t' := tk) kp hle (show ObjOk X.prog X.w _ h' _ (.lst xs.reverse) from ⟨by rw [List.length_reverse]; exact hz, acc.toList, c', RT.vals_rev rv hi, ?_⟩), rfl, q _ (I1.hok.fresh hle)⟩
  rw [Array.toArray_toList]
  exact e
theorem rd_lrv {K : PySem.W.Frag} {te : TE} {σ : L2.St} {H : Hp} {Q : VK} (h : te σ H fun v H1 => ∃ (a : Addr) (xs : List V), v = .ref a ∧ SqL K H1 a xs ∧ ∀ q, H1 q = none → Q (.ref q) (upd H1 q (.lst xs.reverse))) : tLstRev K te σ H Q := h
end
/-! names, as they are built -/
theorem lets_digits : lets ++ ("0123456789" : Str) = letsD := by decide +kernel
theorem lets_sub : ∀ c ∈ lets.cps.toList, c ∈ letsD.cps.toList := by decide +kernel
/-- a text of n signs: a letter, then letters and digits -/
def NmP (z : Str) (n : Nat) : Prop := z.length = n ∧ ∃ c l, z.cps.toList = c :: l ∧ c ∈ lets.cps.toList ∧ ∀ d ∈ c :: l, d ∈ letsD.cps.toList
theorem NmP.one {c : Nat} (h : c ∈ lets.cps.toList) : NmP ⟨#[c]⟩ 1 := ⟨rfl, c, [], rfl, h, fun d hd => by rw [List.mem_singleton.mp hd]; exact lets_sub c h⟩
theorem NmP.add {z : Str} {n c : Nat} (h : NmP z n) (hc : c ∈ letsD.cps.toList) : NmP (z ++ ⟨#[c]⟩) (n + 1) := by
  obtain ⟨h1, d, l, e, hd, ha⟩ := h
  refine ⟨by rw [app_len, h1]; rfl, d, l ++ [c], by rw [app_l, e]; rfl, hd, fun x hx => ?_⟩
  have hx' : x ∈ (d :: l) ++ [c] := hx
  rcases List.mem_append.mp hx' with q | q
  · exact ha x q
  · rw [List.mem_singleton.mp q]; exact hc
theorem NmP.nm {z : Str} {n : Nat} (h : NmP z n) (hn : n ≤ 8) : isNm z = true := by
  obtain ⟨h1, c, l, e, hc, ha⟩ := h
  have hl : (c :: l).length ≤ 8 := by rw [← e, len_l, h1]; exact hn
  unfold isNm
  rw [e]
  show (decide ((c :: l).length ≤ 8) && decide (c ∈ lets.cps.toList) && (c :: l).all fun d => decide (d ∈ letsD.cps.toList)) = true
  rw [decide_eq_true hl, decide_eq_true hc, Bool.true_and, Bool.true_and]
  exact List.all_eq_true.mpr fun d hd => decide_eq_true (ha d hd)
theorem isNm_len {z : Str} (h : isNm z = true) : 1 ≤ z.length ∧ z.length ≤ 8 := by
  rw [← len_l]
  unfold isNm at h
  cases e : z.cps.toList with
  | nil => rw [e] at h; cases h
  | cons c l =>
    rw [e] at h
    have h' : (decide ((c :: l).length ≤ 8) && decide (c ∈ lets.cps.toList) && (c :: l).all fun d => decide (d ∈ letsD.cps.toList)) = true := h
    rw [Bool.and_eq_true, Bool.and_eq_true] at h'
    exact ⟨by simp, of_decide_eq_true h'.1.1⟩
/-! loops over a text's signs -/
theorem rd_iStr {te : TE} {σ : L2.St} {H : Hp} {R : It → Hp → Prop} (h : te σ H fun v H1 => ∃ x, v = .str x ∧ R (Its x) H1) : iStr te σ H R := h
theorem for_sgn {z : Str} {k : Nat} {tb : TS} {D : Ends} {σ : L2.St} {H : Hp} (Pv : Nat → L2.St → Hp → Prop) (h0 : Pv 0 σ H)
    (hs : ∀ i c σ H, z.cps.toList[i]? = some c → Pv i σ H → tb { D with nx := Pv (i + 1), ct := Pv (i + 1), bk := D.nx } (σ.set k (some (.str ⟨#[c]⟩))) H) (hd : ∀ σ H, Pv z.length σ H → D.nx σ H) :
    ∃ W : Nat → Nat → L2.St → Hp → Prop, (∃ m, W 0 m σ H) ∧ ∀ i m σ H, W i m σ H →
      ((Its z).stop i H ∧ D.nx σ H) ∨ ((Its z).go i H ∧ ∃ N : L2.St → Hp → Prop, (∀ σ' H', N σ' H' → ∃ m', m' < m ∧ W (i + 1) m' σ' H') ∧ ∀ x H', (Its z).yld i H x H' → gName k x σ H' fun σ2 H2 => tb { D with nx := N, ct := N, bk := D.nx } σ2 H2) := by
  refine for_it (walk_str (z := z)) Pv h0 (fun _ _ _ _ _ => trivial) (fun i x σ H H' hi hp y => ?_) hd
  obtain ⟨rfl, c, hc, rfl⟩ := y
  exact hs i c σ _ (by rw [Array.getElem?_toList]; exact hc) hp
theorem lc_sgn {z : Str} {k : Nat} {tt : TT} {te : TE} {vs : List Nat} {σ : L2.St} {H1 : Hp} {D : Addr} {Qd : Hp → Prop} (Pv : Nat → Hp → Prop) (h0 : Pv 0 (upd H1 D (.lst [])))
    (hs : ∀ i c H, z.cps.toList[i]? = some c → Pv i H → wipe ((wipe σ vs).set k (some (.str ⟨#[c]⟩))) vs = wipe σ vs ∧ tt ((wipe σ vs).set k (some (.str ⟨#[c]⟩))) H fun b H3 =>
      if b = true then te ((wipe σ vs).set k (some (.str ⟨#[c]⟩))) H3 fun y H4 => ∃ acc, H4 D = some (.lst acc) ∧ acc.length < sizeLine ∧ Pv (i + 1) (upd H4 D (.lst (acc ++ [y]))) else Pv (i + 1) H3) (hd : ∀ H, Pv z.length H → Qd H) :
    ∃ W : Nat → Nat → Hp → Prop, (∃ m, W 0 m (upd H1 D (.lst []))) ∧ ∀ i m H, W i m H →
      ((Its z).stop i H ∧ Qd H) ∨ ((Its z).go i H ∧ ∃ Nx : Hp → Prop, (∀ H', Nx H' → ∃ m', m' < m ∧ W (i + 1) m' H') ∧ ∀ x H', (Its z).yld i H x H' → gName k x (wipe σ vs) H' fun σ2 H2 => wipe σ2 vs = wipe σ vs ∧ tt σ2 H2 fun b H3 =>
        if b = true then te σ2 H3 fun y H4 => ∃ acc, H4 D = some (.lst acc) ∧ acc.length < sizeLine ∧ Nx (upd H4 D (.lst (acc ++ [y]))) else Nx H3) := by
  refine lc_it (walk_str (z := z)) Pv h0 (fun _ _ _ _ => trivial) (fun i x H H' hi hp y => ?_) hd
  obtain ⟨rfl, c, hc, rfl⟩ := y
  exact hs i c _ (by rw [Array.getElem?_toList]; exact hc) hp
/-! a name, told sign by sign -/
theorem isNm_of {z : Str} {c : Nat} {l : List Nat} (e : z.cps.toList = c :: l) : isNm z = (decide (z.length ≤ 8) && decide (c ∈ lets.cps.toList) && z.cps.toList.all fun d => decide (d ∈ letsD.cps.toList)) := by
  unfold isNm
  rw [← len_l, e]
  rfl
theorem isNm_zero {z : Str} (h : z.length = 0) : isNm z = false := by
  rw [← len_l] at h
  unfold isNm
  rw [List.eq_nil_of_length_eq_zero h]
  rfl
theorem rd_ii {a : Int} {R : Int → Prop} (h : R a) : ∃ i, V.int a = V.int i ∧ R i := ⟨a, rfl, h⟩
theorem rd_si {a : Str} {R : Str → Prop} (h : R a) : ∃ i, V.str a = V.str i ∧ R i := ⟨a, rfl, h⟩
theorem atI_zero {α : Type} {c : α} {l : List α} : atI (c :: l) 0 = some c := by
  unfold atI ixN
  rw [if_pos (by omega), if_pos (by simp)]
  simp
theorem rd_yes {σ : L2.St} {H : Hp} {QT : Bool → Hp → Prop} (h : QT true H) : tYes σ H QT := h
theorem rd_callNS' : True := trivial
/-! texts of at most n plain signs -/
def okS (n : Nat) (z : Str) : Bool := decide (z.length ≤ n) && z.cps.toList.all fun c => decide (c < 128)
def OkS (n : Nat) (z : Str) : Prop := okS n z = true
instance (n : Nat) (z : Str) : Decidable (OkS n z) := by unfold OkS; exact inferInstance
theorem okS_iff {n : Nat} {z : Str} : OkS n z ↔ z.length ≤ n ∧ ∀ c ∈ z.cps.toList, c < 128 := by
  unfold OkS okS
  rw [Bool.and_eq_true, decide_eq_true_iff, List.all_eq_true]
  exact ⟨fun h => ⟨h.1, fun c hc => of_decide_eq_true (h.2 c hc)⟩, fun h => ⟨h.1, fun c hc => decide_eq_true (h.2 c hc)⟩⟩
theorem OkS.len {n : Nat} {z : Str} (h : OkS n z) : z.length ≤ n := (okS_iff.mp h).1
theorem OkS.mono {m n : Nat} {z : Str} (h : OkS m z) (l : m ≤ n) : OkS n z := okS_iff.mpr ⟨by have := h.len; omega, (okS_iff.mp h).2⟩
theorem OkS.app {a b n : Nat} {x y : Str} (hx : OkS a x) (hy : OkS b y) (l : a + b ≤ n) : OkS n (x ++ y) := by
  refine okS_iff.mpr ⟨?_, fun c hc => ?_⟩
  · have := hx.len; have := hy.len; rw [app_len]; omega
  · rw [app_l] at hc
    exact (List.mem_append.mp hc).elim ((okS_iff.mp hx).2 c) ((okS_iff.mp hy).2 c)
theorem OkS.cut {n : Nat} {z : Str} {lo hi : Option Int} (h : OkS n z) : OkS n (cutS z lo hi) := by
  refine okS_iff.mpr ⟨Nat.le_trans (cutS_len z lo hi) h.len, fun c hc => (okS_iff.mp h).2 c ?_⟩
  have hc : c ∈ ((z.cps.toList.drop (HT.sIx z.length 0 lo)).take (HT.sIx z.length z.length hi - HT.sIx z.length 0 lo)) := hc
  exact List.mem_of_mem_drop (List.mem_of_mem_take hc)
theorem OkS.one {c : Nat} (h : c < 128) : OkS 1 ⟨#[c]⟩ := okS_iff.mpr ⟨Nat.le_refl _, fun d hd => by rw [List.mem_singleton.mp (show d ∈ [c] from hd)]; exact h⟩
theorem OkS.sign {n c : Nat} {z : Str} (h : OkS n z) (hc : c ∈ z.cps.toList) : OkS 1 ⟨#[c]⟩ := .one ((okS_iff.mp h).2 c hc)
theorem letsD_ok : OkS 36 letsD := by decide +kernel
theorem OkS.nm {z : Str} (h : isNm z = true) : OkS 8 z := by
  refine okS_iff.mpr ⟨(isNm_len h).2, fun d hd => ?_⟩
  cases e : z.cps.toList with
  | nil => rw [e] at hd; cases hd
  | cons c l =>
    rw [isNm_of e, Bool.and_eq_true, List.all_eq_true] at h
    exact (okS_iff.mp letsD_ok).2 d (of_decide_eq_true (h.2 d hd))
theorem OkS.num {n : Nat} (h : n < 100000) : OkS 5 (numS n) := by
  refine okS_iff.mpr ⟨numS_len h, fun c hc => ?_⟩
  rw [numS_l] at hc
  by_cases q : c < 48 ∨ 57 < c
  · exact absurd hc (TL.numL_free q)
  · omega
theorem shaped_strs {ns : List Str} {n : Nat} (h : ∀ s ∈ ns, OkS n s) : SeqAt.shaped (.list (ns.map PyData.str)) = true := by
  have h1 : PyData.canLayAll0 (ns.map PyData.str) = true := by
    induction ns with
    | nil => rfl
    | cons x xs ih =>
      have hx := h x List.mem_cons_self
      have ih := ih fun s hs => h s (List.mem_cons_of_mem _ hs)
      simp only [List.map, PyData.canLayAll0, PyData.canLay0, ih, Bool.and_true]
      show x.cps.all (· < 0x110000) = true
      rw [← Array.all_toList, List.all_eq_true]
      exact fun c hc => decide_eq_true (Nat.lt_trans ((okS_iff.mp hx).2 c hc) (by decide))
  have h2 : PyData.depth (.list (ns.map PyData.str)) ≤ 64 := by
    have e : ∀ xs : List Str, PyData.depthAll (xs.map PyData.str) = 0 := fun xs => by
      induction xs with
      | nil => rfl
      | cons x xs ih => simp only [List.map, PyData.depthAll, PyData.depth, ih, Nat.max_self]
    simp only [PyData.depth, e]
    decide
  unfold SeqAt.shaped
  rw [Bool.and_eq_true]
  exact ⟨by simp only [PyData.canLay0, h1], decide_eq_true h2⟩

/-! ### calls with values and keywords, and with defaults -/
structure HasN (P : Program) (w : World) (K : PySem.W.Frag) (mg : Str → Option Value) (base : Heap) (CX : CXT) (x : Str) (k n : Nat) (ps ks : List Str) (gV : List V → List V → List V) (sp : Sp) : Prop where
  ex : ∃ f fd, FnOk P w K mg base CX k f fd ps sp ∧ mg x = some (.ref f) ∧ PySem.W.keepIn K (.ref f) = true ∧ ∃ g, KBn K fd ps n ks g gV
theorem HasN.mono {P : Program} {w : World} {K : PySem.W.Frag} {mg : Str → Option Value} {base : Heap} {CX : CXT} {x : Str} {j k n : Nat} {ps ks : List Str} {gV : List V → List V → List V} {sp : Sp} (h : HasN P w K mg base CX x j n ps ks gV sp) (l : j ≤ k) : HasN P w K mg base CX x k n ps ks gV sp := by
  obtain ⟨f, fd, F, r⟩ := h.ex
  exact ⟨f, fd, F.mono l, r⟩
structure HasD (P : Program) (w : World) (K : PySem.W.Frag) (mg : Str → Option Value) (base : Heap) (CX : CXT) (x : Str) (k : Nat) (ps : List Str) (dvs : List V) (sp : Sp) : Prop where
  ex : ∃ f fd, FnOk P w K mg base CX k f fd ps sp ∧ mg x = some (.ref f) ∧ PySem.W.keepIn K (.ref f) = true ∧ ∃ ds, Vals dvs ds ∧ Binds K fd ps ds
theorem HasD.mono {P : Program} {w : World} {K : PySem.W.Frag} {mg : Str → Option Value} {base : Heap} {CX : CXT} {x : Str} {j k : Nat} {ps : List Str} {dvs : List V} {sp : Sp} (h : HasD P w K mg base CX x j ps dvs sp) (l : j ≤ k) : HasD P w K mg base CX x k ps dvs sp := by
  obtain ⟨f, fd, F, r⟩ := h.ex
  exact ⟨f, fd, F.mono l, r⟩
def tCallNS (n m : Nat) (sp : Sp) (gV : List V → List V → List V) (E : L2.St → XK) (t tk : TA) : TE := fun σ H Q => t σ H fun vs H1 => tk σ H1 fun zs H2 => vs.length = n ∧ zs.length = m ∧ sp (gV vs zs) H2 Q (E σ)
section
variable {X : Cx} {CX : CXT} {x : Str} {k n : Nat} {ps ks : List Str} {dvs : List V} {gV : List V → List V → List V} {sp : Sp} {E : L2.St → XK} {p pos : Pos} {e : Expr} {es : List Expr} {kws : List Keyword} {t tk : TA}
theorem pe_callNS (h : HasN X.prog X.w X.K X.mg X.base CX x k n ps ks gV sp) (hr : Room k X.A) (hg : Gl X x) (hx : ∀ σ, PassesAt CX X σ (E σ))
    (ha : PA X (e :: es) t) (hkw : PK X kws tk) (hall : (backToKw pos (keywordEach kws X.env)).all (·.1.isSome) = true := by rfl) (hks : (backToKw pos (keywordEach kws X.env)).filterMap (·.1) = ks := by rfl)
    (hdb : (x == ("__debug__" : Str)) = false := by decide) (he : starEach (e :: es) X.env = (false, eval e X.env) :: starEach es X.env := by rfl)
    (hpl : ((backTo pos (starEach (e :: es) X.env)).any (·.1) || (backToKw pos (keywordEach kws X.env)).any (·.1.isNone)) = false := by rfl) :
    PE X (.Call (.Name x p) (e :: es) kws pos) (tCallNS n ks.length sp gV E t tk) := by
  obtain ⟨f, fd, F, hm, hk, g, hb⟩ := h.ex
  refine ⟨fun pins s σ H Q I h => ?_⟩
  refine wpAny_Call_Name_kw (ld_glob I hg hm ?_ hdb)
  refine PySem.W.callWith_KW (h₀ := X.base) I.ok.mod.kin hk hall (thn (ha.run pos pins s σ H _ I h) fun us s1 ⟨vs, H1, I1, r, q⟩ => ?_) hpl he
  refine thn (hkw.run pos pins s1 σ H1 _ I1 q) fun ws s2 ⟨zs, H2, I2, rz, l1, l2, q2⟩ => ⟨I2.kIn, ?_⟩
  rw [hks]
  have r2 := hb.rel r rz
  refine wpAny_call (codeAny_mono (F.run X.A X.stack s2 H2 ⟨us, ks.zip ws⟩ (g us ws) (gV vs zs) Q (E σ) hr I2.env0 (hb.to s2 us ws I2.kIn (r.length.symm.trans l1) (rz.length.symm.trans l2)) r2 q2) fun r s' hq => ?_)
  cases r with
  | error e => exact hx σ pins H2 s2 e s' I2 hq
  | ok fl =>
    cases fl with
    | ret u => exact I2.after hq
    | next => exact False.elim hq
    | brk => exact False.elim hq
    | cont => exact False.elim hq
theorem pe_callDS (h : HasD X.prog X.w X.K X.mg X.base CX x k ps dvs sp) (hr : Room k X.A) (hg : Gl X x) (hx : ∀ σ, PassesAt CX X σ (E σ)) (ha : PA X (e :: es) t)
    (hdb : (x == ("__debug__" : Str)) = false := by decide) (he : starEach (e :: es) X.env = (false, eval e X.env) :: starEach es X.env := by rfl) (hpl : (backTo pos (starEach es X.env)).any (·.1) = false := by rfl) :
    PE X (.Call (.Name x p) (e :: es) [] pos) (tCallSD sp dvs E t) := by
  obtain ⟨f, fd, F, hm, hk, ds, hd, hb⟩ := h.ex
  exact pe_callSD F hr hg hm hk hb hd hx ha hdb he hpl
theorem rd_callNS {m : Nat} {σ : L2.St} {H : Hp} {Q : VK} (h : t σ H fun vs H1 => tk σ H1 fun zs H2 => vs.length = n ∧ zs.length = m ∧ sp (gV vs zs) H2 Q (E σ)) : tCallNS n m sp gV E t tk σ H Q := h
theorem rd_callSD {σ : L2.St} {H : Hp} {Q : VK} (h : t σ H fun vs H1 => sp (vs ++ dvs) H1 Q (E σ)) : tCallSD sp dvs E t σ H Q := h
end
/-! ### a text and a number, one behind the other -/
theorem empty_app (z : Str) : Str.empty ++ z = z := str_ext (by rw [app_l]; rfl)
theorem rd_fs2 {σ : L2.St} {H : Hp} {z : Str} {n i j : Nat} {R : Str → Hp → Prop} (e1 : σ[i]? = some (some (.str z))) (e2 : σ[j]? = some (some (.int n))) (hz : z.length ≤ 1000) (hn : n < 100000) (q : R (z ++ numS n) H) :
    tJs [tFmt (tVar i), tFmt (tVar j)] Str.empty σ H R := by
  refine ⟨_, e1, .inl ⟨z, rfl, sz (by omega), z, rfl, ?_, ?_⟩⟩
  · rw [empty_app]; exact sz (by omega)
  · refine ⟨_, e2, .inr ⟨n, rfl, ?_, numS n, rfl, ?_, ?_⟩⟩
    · show (Int.natAbs (n : Int)).log2 < 1920
      rw [Int.natAbs_natCast]
      by_cases h0 : n = 0
      · subst h0; decide
      · exact Nat.lt_of_lt_of_le ((Nat.log2_lt h0).mpr (by omega : n < 2 ^ 17)) (by decide)
    · rw [empty_app, app_len]
      have := numS_len hn
      exact sz (by omega)
    · show R (Str.empty ++ z ++ numS n) H
      rw [empty_app]; exact q
theorem log_ok {n : Nat} (hn : n < 100000) : (n : Int).natAbs.log2 < 1920 := by
  rw [Int.natAbs_natCast]
  by_cases h0 : n = 0
  · subst h0; decide
  · exact Nat.lt_of_lt_of_le ((Nat.log2_lt h0).mpr (by omega : n < 2 ^ 17)) (by decide)
theorem lc_rng {n k : Nat} {tt : TT} {te : TE} {vs : List Nat} {σ : L2.St} {H1 : Hp} {D : Addr} {Qd : Hp → Prop} (Pv : Nat → Hp → Prop) (h0 : Pv 0 (upd H1 D (.lst [])))
    (hs : ∀ i H, i < n → Pv i H → wipe ((wipe σ vs).set k (some (.int i))) vs = wipe σ vs ∧ tt ((wipe σ vs).set k (some (.int i))) H fun b H3 =>
      if b = true then te ((wipe σ vs).set k (some (.int i))) H3 fun y H4 => ∃ acc, H4 D = some (.lst acc) ∧ acc.length < sizeLine ∧ Pv (i + 1) (upd H4 D (.lst (acc ++ [y]))) else Pv (i + 1) H3) (hd : ∀ H, Pv n H → Qd H) :
    ∃ W : Nat → Nat → Hp → Prop, (∃ m, W 0 m (upd H1 D (.lst []))) ∧ ∀ i m H, W i m H →
      ((Itr 0 n).stop i H ∧ Qd H) ∨ ((Itr 0 n).go i H ∧ ∃ Nx : Hp → Prop, (∀ H', Nx H' → ∃ m', m' < m ∧ W (i + 1) m' H') ∧ ∀ x H', (Itr 0 n).yld i H x H' → gName k x (wipe σ vs) H' fun σ2 H2 => wipe σ2 vs = wipe σ vs ∧ tt σ2 H2 fun b H3 =>
        if b = true then te σ2 H3 fun y H4 => ∃ acc, H4 D = some (.lst acc) ∧ acc.length < sizeLine ∧ Nx (upd H4 D (.lst (acc ++ [y]))) else Nx H3) := by
  refine lc_range (lo := 0) Pv h0 (fun i H hi hp => ?_) hd
  have e : (V.int (0 + (i : Int))) = V.int i := by rw [Int.zero_add]
  rw [e]
  exact hs i H hi hp
/-! a dict's keys as the texts put in so far -/
def KeysAre (kvs : List (Key × V)) (ns : List Str) : Prop := ∀ x : Str, (valV kvs (Sum.inr x)).isSome = decide (x ∈ ns)
theorem keys_nil : KeysAre [] [] := fun x => by rw [valV_nil]; rfl
theorem KeysAre.put {kvs : List (Key × V)} {ns : List Str} {y : Str} {v : V} (h : KeysAre kvs ns) : KeysAre (putK kvs (Sum.inr y) v) (ns ++ [y]) := fun x => by
  rw [valV_put]
  by_cases e : (Sum.inr x : Key) = Sum.inr y
  · rw [if_pos e]
    have : x = y := Sum.inr.inj e
    subst this
    simp
  · rw [if_neg e, h x]
    have ne : x ≠ y := fun q => e (by rw [q])
    simp [ne]
theorem str1_le {z : Str} {l : List Str} {n : Nat} (h : (l.all fun s => decide (s.length ≤ n)) = true) (hz : z ∈ l) : z.length ≤ n := of_decide_eq_true (List.all_eq_true.mp h z hz)
theorem rd_dnewK {σ : L2.St} {H : Hp} {Q : VK} (h : ∀ p, H p = none → Q (.ref p) (upd H p (.dK []))) : tDNewK σ H Q := h
theorem rd_dput {td ty tv : TE} {D : Ends} {σ : L2.St} {H : Hp} (h : tv σ H fun v H1 => td σ H1 fun x H2 => ty σ H2 fun y H3 => ∃ a H4, x = .ref a ∧ DPut H3 a y v H4 ∧ D.nx σ H4) : sDPut td ty tv D σ H := h
theorem rd_dnotin {td ty : TE} {σ : L2.St} {H : Hp} {Q : VK} (h : ty σ H fun y H1 => td σ H1 fun x H2 => ∃ a o, x = .ref a ∧ DGet H2 a y o ∧ Q (.bl (!o.isSome)) H2) : tDNotIn ty td σ H Q := h
theorem cut_strs (U : List Str) (lo hi : Option Int) : ∃ U' : List Str, cutV (U.map V.str) lo hi = U'.map V.str ∧ ∀ s ∈ U', s ∈ U := by
  unfold cutV
  rw [← List.map_drop, ← List.map_take]
  exact ⟨_, rfl, fun s hs => List.mem_of_mem_drop (List.mem_of_mem_take hs)⟩
theorem cut_to_len {xs : List V} {k : Nat} : (cutV xs none (some (k : Int))).length ≤ k := by
  rw [cut_to, List.length_take]; omega
theorem cut_from_len {xs : List V} {k : Nat} : (cutV xs (some (k : Int)) none).length ≤ xs.length - k := by
  unfold cutV
  rw [HT.sIx_none, HT.sIx_nat, List.length_take, List.length_drop]
  omega
theorem ExS.free {S : Sto} {H H2 : Hp} {u : Addr} (e : ExS S H H2) (hS : StoreOk S H2) (n : H2 u = none) : H u = none := by
  cases q : H u with
  | none => rfl
  | some o => rw [e u o (hS.ne1 n) q] at n; cases n
theorem map_str_len {U : List Str} {xs : List V} (e : xs = U.map V.str) : U.length = xs.length := by rw [e, List.length_map]

set_option maxHeartbeats 2000000
/-! ### try .. except C1 as a: .. except C2 as b: .. -/
abbrev Hnd := Value × Nat × (Addr → Value → Option Addr → TS)
/-- the clauses, one behind the other -/
def wAsM (K : PySem.W.Frag) (Wout : WX) (D : Ends) : List Hnd → WX
  | [] => Wout
  | q :: r => wAs K q.1 q.2.1 q.2.2 (wAsM K Wout D r) D
/-- each clause names its class, its own name's slot and its suite -/
inductive HdsAs (X : Cx) : List ExceptHandler → List Hnd → Prop
  | nil : HdsAs X [] []
  | cons {x n : Str} {c : Value} {i : Nat} {ts : Addr → Value → Option Addr → TS} {b₀ : Stmt} {suite : List Stmt} {np pos' : Pos} {hds : List ExceptHandler} {l : List Hnd} (hi : X.N[i]? = some n) (hln : X.env.kindOf n = some .local) (hc : Names X x c)
      (hsu : ∀ (a : Addr) (oe : Obj) (cls : Value) (d : Option Addr) (pn : List (Addr × Obj)), Zc cls d oe → (∃ vs, oe.data = .fields vs) → PSs (X.suite a ((a, oe) :: pn)) (b₀ :: suite) (ts a cls d)) (r : HdsAs X hds l) :
      HdsAs X (.ExceptHandler (some (.Name x np)) (some n) (b₀ :: suite) pos' :: hds) ((c, i, ts) :: l)
section
variable {X : Cx} {body : List Stmt} {h₀ : ExceptHandler} {hds : List ExceptHandler} {l : List Hnd} {pos : Pos} {tb : WX → TS} {Wout : WX}
theorem ps_try_asM (hs : X.stack = X.env :: X.outer) (hf : X.env.frame = some X.env.locals) (hN : X.N.Nodup) (tk : Takes X Wout)
    (hb : ∀ (W : WX) (pn : List (Addr × Obj)) (xe : Value → Shared → Prop), Takes (X.tr pn xe) W → PassesOwn (model X.prog X.w) X.A X.env xe → PSs (X.tr pn xe) body (tb W))
    (hh : HdsAs X (h₀ :: hds) l) : PS X (.Try body (h₀ :: hds) [] [] pos) (fun D σ H => tb (wAsM X.K Wout D l) D σ H) := by
  refine ⟨fun pins s σ H D I h => ?_⟩
  have ok := I.ok
  have hfr : X.A.frames = some (X.env :: X.outer) := by rw [ok.frames, hs]
  refine wpAny_Try_except ?_
  refine wpAny_mono ((hb (wAsM X.K Wout D l) (X.pn ++ pins) (fun e s₁ => wpAny (model X.prog X.w) X.A (noteFrame e X.env) (fun _ s₂ => wpAny (model X.prog X.w) X.A (setFlight e none) (fun _ s₃ =>
    wpAny (model X.prog X.w) X.A (handleBy e X.env (h₀ :: hds)) (SP X pins D) X.xe s₃) X.xe s₂) X.xe s₁) (fun u s' xx => ?_) PassesOwn.looking).run [] s σ H D (I.toTry _) h) (fun f s1 hsp => ?_) (fun e s1 he => he)
  · obtain ⟨a, B, sI, pins', σ', H', cls, d, rfl, J', nb, up, sky, na, os, ag, w⟩ := xx
    have J : Inv X pins σ' H' sI := J'.ofTry ok
    have sky' : Sky B (X.env :: X.outer) a (Zc cls d) X.env.locals s'.heap := by rw [← hs]; exact sky
    show wpAny (model X.prog X.w) X.A (noteFrame (.ref a) X.env) _ _ _
    refine Sky.land Zc.steady hfr hf sky' fun h3 fl3 up3 => ?_
    have J3 : Inv X pins σ' H' { s' with heap := h3 } := J.landed nb fl3.1 (up.trans up3) os ag
    obtain ⟨oe3, vs3, he3, hz3, hd3⟩ := fl3.there
    have nfr : a ∉ frs (X.env :: X.outer) := fun hm => by
      obtain ⟨_, o', e', hnf⟩ := fl3.2.2.1.mem hm
      rw [he3] at e'; cases e'
      exact hnf _ hd3
    have nL : a ≠ X.env.locals := fun z => nfr (List.mem_filterMap.mpr ⟨X.env, List.mem_cons_self, by rw [hf, z]⟩)
    have nF : a ∉ X.fs := fun hm => by
      obtain ⟨e, he, q⟩ := List.mem_filterMap.mp hm
      exact nfr (List.mem_filterMap.mpr ⟨e, List.mem_cons_of_mem _ he, q⟩)
    have S3 := J3.suite he3 hd3 na nL nF
    have go : ∀ {hds' : List ExceptHandler} {l' : List Hnd}, HdsAs X hds' l' → wAsM X.K Wout D l' cls d σ' H' → wpAny (model X.prog X.w) X.A (handleBy (.ref a) X.env hds') (SP X pins D) X.xe { s' with heap := h3 } := by
      intro hds' l' hk
      induction hk with
      | nil =>
        intro w
        refine wpAny_handleBy_nil ?_
        obtain ⟨k1, k2, k3, oe, vs, T, oT, ts', he, hz, hd, h1, hr⟩ := id fl3
        unfold PySem.passOn
        refine wpAny_bind (wpAny_field he hd h1 ?_)
        rw [if_neg (show ¬ ((Value.ref T == Value.none) = true) from by simp)]
        have fin : wpAny (model X.prog X.w) X.A (setFlight (.ref a) X.env.frame) (fun _ s4 => wpAny (model X.prog X.w) X.A (throw (.ref a) : Sem Flow) (SP X pins D) X.xe s4) X.xe { s' with heap := h3 } := by
          rw [hf]
          refine HandSPX.setFlight_upZ fl3 fun h4 hh4 up4 => wpAny_throw (tk _ _ ?_)
          exact ⟨a, B, sI, pins, σ', H', cls, d, rfl, J, nb, (up.trans up3).trans up4, .inr (.inr (by rw [hs]; exact hh4)), na, os, ag, w⟩
        first
          | exact wpAny_bind (wpAny_pure (wpAny_bind fin))
          | exact wpAny_bind fin
      | @cons x n c i ts b₀ suite np pos' hds2 l2 hi hln hc hsu r ih =>
        intro w
        obtain ⟨b, hb1, hyes, hno⟩ := w
        refine wpAny_handleBy_cons (codeAny_handlers_test ?_) (by intro q; cases q)
        have LT : PySem.W.Looks (model X.prog X.w) h3 (typeOf (.ref a)) cls := fun A Q E s k q => wpAny_typeOf_ref (k _ _ he3) (by rw [hz3.1]; exact q)
        have LM := PySem.W.exm_one (M := model X.prog X.w) (J3.kIn) LT hb1
        have test : ∀ {Q : Value → Shared → Prop} {E : Value → Shared → Prop}, Q c { s' with heap := h3 } → wpAny (model X.prog X.w) (X.A.mark (some (.ref a))) (eval (.Name x np) X.env) Q E { s' with heap := h3 } := fun {Q E} q => by
          obtain ⟨hg, hdbg, hm | ⟨hm, hv, hnn⟩⟩ := hc
          · exact ld_glob (X := X.suite a ((a, oe3) :: (X.pn ++ pins))) S3 hg hm q hdbg
          · exact ld_blt (X := X.suite a ((a, oe3) :: (X.pn ++ pins))) S3 hg hm hv q hnn hdbg
        refine test (LM.here ?_)
        cases b with
        | true =>
          refine codeAny_handlers_suite_as ?_
          refine HandSPX.lands_againZ fl3 fun h4 fl4 up4 => ?_
          have J4 : Inv X pins σ' H' { s' with heap := h4 } := J.landed nb fl4.1 ((up.trans up3).trans up4) os ag
          obtain ⟨oe4, vs4, he4, hz4, hd4⟩ := fl4.there
          have S4 := J4.suite he4 hd4 na nL nF
          have hloc : Loc X.env.scope n := .inl hln
          refine store_ok (X := X.suite a ((a, oe4) :: (X.pn ++ pins))) (v := .ref a) S4 hN hi hloc rfl (fun s5 S5 => ?_) (.inr hln)
          refine wpAny_mono ((hsu a oe4 cls d (X.pn ++ pins) hz4 ⟨_, hd4⟩).run [] s5 _ H' _ S5 (hyes rfl a na)) (fun f s6 hsp => ?_) (fun _ _ z => False.elim z)
          have end_ : ∀ {σ6 : L2.St} {H6 : Hp} {Q : Shared → Prop}, Inv (X.suite a ((a, oe4) :: (X.pn ++ pins))) [] σ6 H6 s6 → (∀ s7, Inv X pins (σ6.set i none) H6 s7 → Q s7) →
              wpAny (model X.prog X.w) X.A (do bindName X.env n .none; unbindBehindTheSuite X.env n pos') (fun _ s7 => Q s7) X.xe s6 := fun {σ6 H6 Q} S6 hq => gone_ok (S6.unsuite ok) hN hi hln hq
          cases f with
          | next =>
            obtain ⟨σ6, H6, S6, q6⟩ := hsp
            exact end_ S6 fun s7 J7 => ⟨_, _, J7, q6⟩
          | brk =>
            obtain ⟨σ6, H6, S6, q6⟩ := hsp
            exact end_ S6 fun s7 J7 => ⟨_, _, J7, q6⟩
          | cont =>
            obtain ⟨σ6, H6, S6, q6⟩ := hsp
            exact end_ S6 fun s7 J7 => ⟨_, _, J7, q6⟩
          | ret u =>
            obtain ⟨v6, σ6, H6, S6, r6, q6⟩ := hsp
            exact end_ S6 fun s7 J7 => ⟨_, _, _, J7, r6, q6⟩
        | false =>
          show wpAny _ X.A (handleBy (.ref a) X.env hds2) _ _ _
          exact ih (hno rfl)
    exact go hh w
  · cases f with
    | next =>
      obtain ⟨σ', H', J', q⟩ := hsp
      exact wpAny_execs_nil ⟨σ', H', J'.ofTry ok, q⟩
    | brk =>
      obtain ⟨σ', H', J', q⟩ := hsp
      exact ⟨σ', H', J'.ofTry ok, q⟩
    | cont =>
      obtain ⟨σ', H', J', q⟩ := hsp
      exact ⟨σ', H', J'.ofTry ok, q⟩
    | ret u =>
      obtain ⟨v, σ', H', J', r, q⟩ := hsp
      exact ⟨v, σ', H', J'.ofTry ok, r, q⟩
end

set_option maxHeartbeats 1000000
/-! ### operators by a class's own methods: x in c, x not in c, x & y -/
structure HasM (P : Program) (w : World) (K : PySem.W.Frag) (mg : Str → Option Value) (base : Heap) (CX : CXT) (C : Addr) (x : Str) (k : Nat) (ps : List Str) (sp : Sp) : Prop where
  ex : ∃ f fd, FnOk P w K mg base CX k f fd ps sp ∧ PySem.W.findIn K (.ref C) x = some (some (.ref f)) ∧ PySem.W.isFn K (.ref f) = true ∧ Binds K fd ps []
theorem HasM.mono {P : Program} {w : World} {K : PySem.W.Frag} {mg : Str → Option Value} {base : Heap} {CX : CXT} {C : Addr} {x : Str} {j k : Nat} {ps : List Str} {sp : Sp} (h : HasM P w K mg base CX C x j ps sp) (l : j ≤ k) : HasM P w K mg base CX C x k ps sp := by
  obtain ⟨f, fd, F, r⟩ := h.ex
  exact ⟨f, fd, F.mono l, r⟩
def rInM (C : Addr) (sp : Sp) (E : XK) (neg : Bool) : R2 := fun x y H Q => ∃ a dx fs, y = .ref a ∧ H a = some (.ins C dx fs) ∧ sp [.ref a, x] H (fun v H' => ∃ b, v = .bl b ∧ Q (.bl (if neg then !b else b)) H') E
def rBinM (C : Addr) (sp : Sp) (E : XK) : R2 := fun x y H Q => ∃ a b dx dy fs gs, x = .ref a ∧ y = .ref b ∧ H a = some (.ins C dx fs) ∧ H b = some (.ins C dy gs) ∧ sp [.ref a, .ref b] H (fun v H' => (v = .non ∨ ∃ p, v = .ref p) ∧ Q v H') E
section
variable {X : Cx} {CX : CXT} {C : Addr} {k : Nat} {ps : List Str} {sp : Sp} {E : XK} {nm : Str}
theorem op_inM (h : HasM X.prog X.w X.K X.mg X.base CX C "__contains__" k ps sp) (hr : Room k X.A) (hx : Passes CX X E) : OpR X (compareOp .In) (rInM C sp E false) := by
  intro pins s σ H x y v u Q I rx ry q
  obtain ⟨f, fd, F, hs, hf, hb⟩ := h.ex
  obtain ⟨a, dx, fs, rfl, ha, q⟩ := q
  cases ry
  obtain ⟨mA, J, _⟩ := ins_get I.hok ha
  obtain ⟨od, J, _⟩ := J.look
  obtain ⟨m, hF⟩ := I.fr
  refine PySem.W.in_K hF I.ok.mod.kin J hs hf (wpAny_mono (run_fn (vs := [.ref a, x]) F hr hb .nil hx I (.cons rfl (.cons rx .nil)) (by rw [List.append_nil]; exact q)) (fun r s' z => ?_) fun _ _ z => z)
  obtain ⟨z, H', I', rz, b, rfl, q'⟩ := z
  cases rz
  exact wpAny_truthy_bool ⟨.bl b, H', I', rfl, q'⟩
theorem op_notInM (h : HasM X.prog X.w X.K X.mg X.base CX C "__contains__" k ps sp) (hr : Room k X.A) (hx : Passes CX X E) : OpR X (compareOp .NotIn) (rInM C sp E true) := by
  intro pins s σ H x y v u Q I rx ry q
  obtain ⟨f, fd, F, hs, hf, hb⟩ := h.ex
  obtain ⟨a, dx, fs, rfl, ha, q⟩ := q
  cases ry
  obtain ⟨mA, J, _⟩ := ins_get I.hok ha
  obtain ⟨od, J, _⟩ := J.look
  obtain ⟨m, hF⟩ := I.fr
  refine PySem.W.notIn_K hF I.ok.mod.kin J hs hf (wpAny_mono (run_fn (vs := [.ref a, x]) F hr hb .nil hx I (.cons rfl (.cons rx .nil)) (by rw [List.append_nil]; exact q)) (fun r s' z => ?_) fun _ _ z => z)
  obtain ⟨z, H', I', rz, b, rfl, q'⟩ := z
  cases rz
  exact wpAny_truthy_bool ⟨.bl (!b), H', I', rfl, q'⟩
theorem op_binM {op : Operator} (h : HasM X.prog X.w X.K X.mg X.base CX C (PySem.dunder op.info.2) k ps sp) (hc : PySem.W.selfFirst X.K C = true) (hr : Room k X.A) (hx : Passes CX X E) : OpR X (binaryOp op) (rBinM C sp E) := by
  intro pins s σ H x y v u Q I rx ry q
  obtain ⟨f, fd, F, hs, hf, hb⟩ := h.ex
  obtain ⟨a, b, dx, dy, fs, gs, rfl, rfl, ha, hb', q⟩ := q
  cases rx
  cases ry
  obtain ⟨mA, J, _⟩ := ins_get I.hok ha
  obtain ⟨mB, J', _⟩ := ins_get I.hok hb'
  obtain ⟨od, J, _⟩ := J.look
  obtain ⟨od', J', _⟩ := J'.look
  obtain ⟨m, hF⟩ := I.fr
  refine PySem.W.binop_K hF I.ok.mod.kin J J'.type hc hs hf (wpAny_mono (run_fn (vs := [.ref a, .ref b]) F hr hb .nil hx I (.cons rfl (.cons rfl .nil)) (by rw [List.append_nil]; exact q)) (fun r s' z => ?_) fun _ _ z => z)
  obtain ⟨z, H', I', rz, hz, q'⟩ := z
  rcases hz with rfl | ⟨p, rfl⟩
  · cases rz
    exact ⟨.non, H', I', rfl, q'⟩
  · cases rz
    exact ⟨.ref p, H', I', rfl, q'⟩
end
/-! ### an own error with two fields -/
def spInit2 (K : PySem.W.Frag) (f g : Str) : Sp := fun vs H Q _ => ∃ (a C : Addr) (u v : V), vs = [.ref a, u, v] ∧ OexC K C ∧ PySem.W.findIn K (.ref C) f = some none ∧ PySem.W.findIn K (.ref C) g = some none ∧ H a = some (exo a C none) ∧
  ∀ dx, H dx = none → dx ≠ a → Q .non (upd (upd (upd H dx (exd dx [(f, u)])) a (exo a C (some dx))) dx (exd dx [(g, v), (f, u)]))
theorem rd_mk2 {K : PySem.W.Frag} {C : Addr} {f g : Str} {u v : V} {H1 : Hp} {W : XK} (T : OexC K C) (nf : PySem.W.findIn K (.ref C) f = some none) (ng : PySem.W.findIn K (.ref C) g = some none) (h : ∀ d H', H1 d = none → Same H1 H' → H' d = some (.xd [(g, v), (f, u)]) → W (.ref C) (some d) H') :
    [u, v].length ≤ 1000 ∧ ∀ a, H1 a = none → spInit2 K f g (.ref a :: ([u, v] ++ [])) (upd H1 a (exo a C none))
      (fun v H2 => v = .non ∧ ∃ (d : Addr) (fs : List (Str × V)), H2 a = some (exo a C (some d)) ∧ H2 d = some (exd d fs) ∧ H1 d = none ∧ W (.ref C) (some d) (upd (del H2 a) d (.xd fs))) (fun _ _ _ => False) := by
  refine ⟨by simp, fun a na => ⟨a, C, u, v, rfl, T, nf, ng, upd_same, fun dx ndx ne => ?_⟩⟩
  have nd : H1 dx = none := by rw [upd_ne ne] at ndx; exact ndx
  refine ⟨rfl, dx, [(g, v), (f, u)], by rw [upd_ne ne.symm]; exact upd_same, upd_same, nd, h dx _ nd (fun b o hb => ?_) upd_same⟩
  have h1 := ne_of_none hb na
  have h2 := ne_of_none hb nd
  rw [upd_ne h2, del_ne h1, upd_ne h2, upd_ne h1, upd_ne h2, upd_ne h1]
  exact hb
/-! ### instances: what their class must have, reading and writing their fields -/
theorem rd_fld {K : PySem.W.Frag} {te : TE} {f : Str} {σ : L2.St} {H : Hp} {Q : VK} (h : te σ H fun x H1 => ∃ a C dx fs v, x = .ref a ∧ H1 a = some (.ins C dx fs) ∧ Cls K C ∧ NoAttr K C f ∧ fs.lookup f = some v ∧ Q v H1) : tFld K te f σ H Q := h
theorem rd_sfld {K : PySem.W.Frag} {ta tv : TE} {f : Str} {D : Ends} {σ : L2.St} {H : Hp} (h : tv σ H fun y H1 => ta σ H1 fun x H2 => ∃ a C dx fs, x = .ref a ∧ H2 a = some (.ins C dx fs) ∧ Cls K C ∧ NoAttr K C f ∧ fs.length < 1000 ∧ D.nx σ (upd H2 a (.ins C dx (putF f y fs)))) : sFld K ta tv f D σ H := h
theorem passF {X : Cx} (tk : Takes X fun _ _ _ _ => False) : Passes (L2.CX X.prog X.w) X (fun _ _ _ => False) := fun pins σ H s e s' I c => passAt tk σ pins H s e s' I c
theorem rd_make {C : Addr} {sp : Sp} {dvs : List V} {E : XK} {t : TA} {σ : L2.St} {H : Hp} {Q : VK} (h : t σ H fun vs H1 => ∀ x dx, H1 x = none → H1 dx = none → dx ≠ x → sp (.ref x :: (vs ++ dvs)) (upd (upd H1 dx (.own x)) x (.ins C dx [])) (fun v H2 => v = .non ∧ Q (.ref x) H2) E) : tMake C sp dvs E t σ H Q := h

set_option maxHeartbeats 1000000
theorem ok_there {P : Program} {w : World} {H : Hp} {h : Heap} {a : Addr} {o : HO} (x : ObjOk P w H h a o) : ∃ u, h.get? a = some u := by
  cases o with
  | lst xs => obtain ⟨_, _, _, _, e⟩ := x; exact ⟨_, e⟩
  | tup xs => obtain ⟨_, _, _, ob, e, _⟩ := x; exact ⟨_, e⟩
  | dK kvs => obtain ⟨_, _, _, _, o, _, _, e, _⟩ := x; exact ⟨_, e⟩
  | dT kvs => obtain ⟨_, _, _, _, o, _, _, e, _⟩ := x; exact ⟨_, e⟩
  | set S n => obtain ⟨o, _, _, _, e, _⟩ := x; exact ⟨_, e⟩
  | ins C dx fs => obtain ⟨_, _, _, e, _⟩ := x; exact ⟨_, e⟩
  | own y => obtain ⟨_, e⟩ := x; exact ⟨_, e⟩
  | xd fs => obtain ⟨_, ⟨_, _, _, e, _⟩, _⟩ := x; exact ⟨_, e⟩
  | rng lo hi => obtain ⟨_, _, _, e⟩ := x; exact ⟨_, e⟩
  | frz ob u => obtain ⟨e, _⟩ := x; exact ⟨_, e⟩
  | tbl ps => exact ⟨_, (show h.get? a = some _ from x)⟩
  | met f y => exact ⟨_, (show h.get? a = some _ from x)⟩
  | ext φ => obtain ⟨_, ⟨_, e⟩, _⟩ := x; exact ⟨_, e⟩
/-! ### sorted(texts), any number of them -/
def ltS (a b : Str) : Prop := a.cps.toList < b.cps.toList
instance (a b : Str) : Decidable (ltS a b) := by unfold ltS; exact inferInstance
theorem ltl_irrefl (l : List Nat) : ¬ l < l := List.lt_irrefl l
theorem ltS_trans {a b c : Str} (h1 : ltS a b) (h2 : ltS b c) : ltS a c := List.lt_trans h1 h2
theorem ltS_asymm {a b : Str} (h1 : ltS a b) : ¬ ltS b a := fun h2 => List.lt_irrefl _ (List.lt_trans h1 h2)
theorem ltS_tri {a b : Str} (h1 : ¬ ltS a b) (h2 : ¬ ltS b a) : a = b := str_ext (List.le_antisymm (List.not_lt.mp h2) (List.not_lt.mp h1))
def sv : Value → Str
  | .str x _ => x
  | _ => Str.empty
def ltSv (v u : Value) : Bool := decide (ltS (sv v) (sv u))
theorem swo_str : SrtO.Swo ltSv := by
  refine ⟨fun x y h => ?_, fun x y z h1 h2 => ?_⟩
  · exact decide_eq_false (ltS_asymm (of_decide_eq_true h))
  · have a := of_decide_eq_false h1
    have b := of_decide_eq_false h2
    refine decide_eq_false fun c => ?_
    exact List.not_le.mpr c (List.le_trans (List.not_lt.mp a) (List.not_lt.mp b))
theorem strs_mem : ∀ {vs : List Value} {ns : List Str}, StrsAre vs ns → ∀ v ∈ vs, ∃ i t, v = Value.str i t
  | _, _, .nil, v, h => absurd h (by simp)
  | _, _, .cons n t r, v, h => by
    rcases List.mem_cons.mp h with e | h
    · exact ⟨n, t, e⟩
    · exact strs_mem r v h
theorem strs_sv : ∀ {vs : List Value}, (∀ v ∈ vs, ∃ i t, v = Value.str i t) → StrsAre vs (vs.map sv)
  | [], _ => .nil
  | v :: vs, h => by
    obtain ⟨i, t, e⟩ := h v List.mem_cons_self
    subst e
    exact .cons i t (strs_sv fun u hu => h u (List.mem_cons_of_mem _ hu))
theorem sv_strs : ∀ {vs : List Value} {ns : List Str}, StrsAre vs ns → vs.map sv = ns
  | _, _, .nil => rfl
  | _, _, .cons n t r => congrArg (n :: ·) (sv_strs r)
section
variable {prog : Program} {w : World} {A : Around} {s : Shared}
theorem str_cmp {vs : List Value} {ns : List Str} (hI : StrsAre vs ns) : SrtO.Cmp prog w A s oneType' (fun p => p.1 ∈ vs) (SrtO.lt2 ltSv) := by
  intro p q hm hm'
  obtain ⟨a, t, e⟩ := strs_mem hI _ hm
  obtain ⟨b, u, e'⟩ := strs_mem hI _ hm'
  show wpAny (model prog w) A (keyLt' oneType' p.1 q.1) (fun r s' => s' = s ∧ r = ltSv p.1 q.1) (fun _ _ => False) s
  rw [e, e', keyLt'_oneType]
  exact oneLt_str ⟨rfl, rfl⟩
theorem strs_sortable {a : Addr} {vs : List Value} {ns : List Str} (hI : StrsAre vs ns) (h2 : 2 ≤ vs.length) : SrtO.SortableO prog w A s a vs ltSv := by
  intro h' _
  refine ⟨oneType', fun Q E hq => ?_, str_cmp hI⟩
  match vs, hI, h2 with
  | v1 :: v2 :: rest, hI, _ =>
    rw [keyKind_strs hI]
    exact wpAny_pure hq
  | [], _, h => exact absurd h (by decide)
  | [v], _, h => exact absurd h (by simp)
theorem strs_out {vs out : List Value} {ns : List Str} (hI : StrsAre vs ns) (hs : SrtO.Srtd ltSv out) (hb : SrtO.Stb ltSv out vs) : StrsAre out (out.map sv) ∧ (out.map sv).Perm ns ∧ (out.map sv).Pairwise (fun x y => ¬ ltS y x) := by
  refine ⟨strs_sv fun v hv => strs_mem hI v (hb.perm.mem_iff.mp hv), ?_, ?_⟩
  · have q := hb.perm.map sv
    rw [sv_strs hI] at q
    exact q
  · exact List.pairwise_map.mpr (hs.imp fun {x y} h => of_decide_eq_false h)
end
def rSortedX (K : PySem.W.Frag) : List V → Hp → VK → Prop := fun vs H Q => ∃ (a : Addr) (ns : List Str), vs = [V.ref a] ∧ (SqL K H a (ns.map V.str) ∨ SqT K H a (ns.map V.str)) ∧
  ∀ (ys : List Str) (p : Addr), ys.Perm ns → ys.Pairwise (fun x y => ¬ ltS y x) → H p = none → Q (.ref p) (upd H p (.lst (ys.map V.str)))
section
open SrtO
variable {prog : Program} {w : World} {A : Around} {E : Value → Shared → Prop} {s : Shared}
theorem sorted_seq {it : Addr} {T : String} {o : Obj} {vs : List Value} {n : Nat} {ltv : Value → Value → Bool} {Q : Value → Shared → Prop} (O : Swo ltv) (hT : T = "list" ∨ T = "tuple") (ho : s.heap.get? it = some o) (hc : o.cls = .type T) (hd : o.data = .seq vs.toArray n) (hz : vs.length ≤ sizeLine)
    (hS : 2 ≤ vs.length → ∀ (h₁ : Heap) (a : Addr), SortableO prog w A.in1.in1 { s with heap := h₁ } a vs ltv)
    (h : ∀ (out : List Value) (h' : Heap) (a : Addr) (e : Nat), Srtd ltv out → Stb ltv out vs → s.heap.get? a = none → (∀ b o, s.heap.get? b = some o → h'.get? b = some o) → h'.get? a = some (seqObj "list" out.toArray e) → Q (.ref a) { s with heap := h' }) :
    wpAny (model prog w) A (call (.builtin "sorted") [.ref it]) Q E s := by
  refine Calls.call_function_entry kind_sorted plain_sorted entry_sorted (args_sorted1 _) ?_
  unfold Builtin.«sorted»
  refine wpAny_bind (m := checkCount "sorted" 1 1 _) (wpAny_pure ?_)
  refine wpAny_bind (wpAny_collect_seq it hT ho hc hd (fun h1 k1 => ?_) (by rw [List.size_toArray]; exact hz))
  refine wpAny_bind (wpAny_newList ?_ hz)
  have hoL : (h1.push (seqObj "list" vs.toArray 0)).get? h1.objs.size = some (seqObj "list" vs.toArray 0) := Heap.get?_push_size _ rfl
  have fresh : s.heap.get? h1.objs.size = none := by
    cases e : s.heap.get? h1.objs.size with
    | none => rfl
    | some o => exact absurd (Heap.lt_size (k1 _ _ e)) (Nat.lt_irrefl _)
  show wpAny _ _ _ _ _ { s with heap := h1.push (seqObj "list" vs.toArray 0) }
  refine wpAny_bind (wpAny_holding (wpAny_call_entry slot_list_sort ⟨_, hoL, rfl⟩ entry_list_sort (list_sort_ord O hoL hz (fun h2 => hS h2 _ _) fun out hs hb => ⟨_, rfl, ?_⟩) (args_list_sort _)))
  obtain ⟨e, he⟩ := sortedHeap_at (vs := vs) (out := out.toArray) hoL
  refine wpAny_pure ⟨_, rfl, h out _ _ e hs hb fresh (fun b o q => ?_) he⟩
  have hlt : b < h1.objs.size := Heap.lt_size (k1 _ _ q)
  rw [sortedHeap_old (Nat.ne_of_lt hlt) (by rw [size_push']; exact Nat.lt_succ_of_lt hlt)]
  exact Heap.get?_push_of_some _ (k1 _ _ q)
end
section
variable {X : Cx}
theorem cr_sortedX : CallR X (.builtin "sorted") (rSortedX X.K) := by
  intro pins s σ H vs us Q I r h
  obtain ⟨a, ns, rfl, hs, q⟩ := h
  have go : ∀ {its : List Value} {T : String} {o : Obj} {n : Nat}, Vals (ns.map V.str) its → (ns.map V.str).length ≤ sizeLine → (T = "list" ∨ T = "tuple") → s.heap.get? a = some o → o.cls = .type T → o.data = .seq its.toArray n → wpAny (model X.prog X.w) X.A (call (.builtin "sorted") us) (EP X pins σ Q) X.xe s := fun {its T o n} rv hz hT ho hc hd => by
    rw [Vals.ref1 r]
    have hi := rv.strs
    refine sorted_seq swo_str hT ho hc hd (by rw [← rv.length]; exact hz) (fun h2 h₁ a' => strs_sortable hi h2) fun out h' p e h1 h2 fr kp he => ?_
    obtain ⟨k1, k2, k3⟩ := strs_out hi h1 h2
    have hlen : ((out.map sv).map V.str).length ≤ sizeLine := by
      rw [List.length_map, k2.length_eq]
      rw [List.length_map] at hz
      exact hz
    have hn : H p = none := by
      cases q : H p with
      | none => rfl
      | some x => obtain ⟨u, e⟩ := ok_there (I.hok _ _ q); rw [fr] at e; cases e
    exact ⟨.ref p, upd H p (.lst ((out.map sv).map V.str)), I.laidN (t' := s.toks) kp fr hn ⟨hlen, out, e, vals_of_strs k1, he⟩, rfl, q _ _ k2 k3 hn⟩
  rcases hs with hs | hs
  · obtain ⟨its, rv, pl, hz⟩ := I.list hs
    obtain ⟨o, ho, hc, n, hd⟩ := pl.isList
    exact go rv hz (.inl rfl) ho hc hd
  · obtain ⟨its, rv, ⟨o, ho, hc, n, hd⟩, hz⟩ := I.tuple hs
    exact go rv hz (.inr rfl) ho hc hd
/-! ### text * number -/
theorem op_mul_str : OpR X (binaryOp .Mult) (fun x y H Q => ∃ (z : Str) (n : Int), x = .str z ∧ y = .int n ∧ 0 ≤ n ∧ n ≤ 1000 ∧ z.length ≤ 1000 ∧ Q (.str (Txt.mul z n)) H) := by
  intro pins s σ H x y v u Q I rx ry h
  obtain ⟨z, n, rfl, rfl, h0, h1, hz, q⟩ := h
  obtain ⟨t, rfl⟩ := rx
  obtain ⟨t', rfl⟩ := ry
  refine SB.mul ⟨?_, fun h2 _ => ?_, fun h2 _ => ?_⟩ fun t'' k => ⟨.str _, H, I.tok _, ⟨_, rfl⟩, q⟩
  · rw [Bool.or_eq_false_iff]
    exact ⟨decide_eq_false (by omega), decide_eq_false (by omega)⟩
  · have : (1000 : Int) ≤ (2 ^ 63 - 1) / n := by
      rw [Int.le_ediv_iff_mul_le (by omega)]
      omega
    omega
  · unfold Builtin.Str.tooLong
    rw [decide_eq_false_iff_not, sizeLine_eq]
    have h3 : n.toNat ≤ 1000 := by omega
    have := Nat.mul_le_mul hz h3
    omega
end

set_option maxHeartbeats 1000000
/-! ### a loop over a list or a tuple -/
def iSeq (K : PySem.W.Frag) (te : TE) : TI := fun σ H R => te σ H fun x H1 => ∃ a, x = .ref a ∧ (((∃ xs, SqL K H1 a xs) ∧ R (Itl K a) H1) ∨ ((∃ xs, SqT K H1 a xs) ∧ R (Itt K a) H1))
theorem pi_seq {X : Cx} {tg : Expr} {l : Expr} {tl : TE} (hl : PE X l tl) : PI X tg l (iSeq X.K tl) := by
  refine ⟨fun pins s σ H R I h => ?_⟩
  refine thn (hl.run pins s σ H _ I h) fun v s1 ⟨x, H1, I1, r1, q1⟩ => ?_
  obtain ⟨a, e, ⟨⟨xs, hq⟩, q⟩ | ⟨⟨xs, hq⟩, q⟩⟩ := q1
  · subst e
    cases r1
    obtain ⟨its, rv, p, hz⟩ := I1.list hq
    refine wpAny_pyIter_list p.isList ?_
    refine ⟨s1.heap.objs.size, [s1.heap.objs.size], _, _, H1, rfl, I1.kept (t' := s1.toks) fun b o e => Heap.get?_push_of_some _ e, turn_list a _, ⟨_, Heap.get?_push_size _ rfl, rfl, rfl⟩, fun b hb => ?_, q⟩
    have e : b = s1.heap.objs.size := by simpa using hb
    subst e
    exact I1.fpOk (Nat.le_refl _) (I1.hok.fresh (Nat.le_refl _))
  · subst e
    cases r1
    obtain ⟨its, rv, p, hz⟩ := I1.tuple hq
    refine wpAny_pyIter_tuple (show s1.heap.IsTuple a its.toArray from p) ?_
    refine ⟨s1.heap.objs.size, [s1.heap.objs.size], _, _, H1, rfl, I1.kept (t' := s1.toks) fun b o e => Heap.get?_push_of_some _ e, turn_tuple a _, ⟨_, Heap.get?_push_size _ rfl, rfl, rfl⟩, fun b hb => ?_, q⟩
    have e : b = s1.heap.objs.size := by simpa using hb
    subst e
    exact I1.fpOk (Nat.le_refl _) (I1.hok.fresh (Nat.le_refl _))
def Strs (H : Hp) (a : Addr) (ns : List Str) : Prop := H a = some (.lst (ns.map V.str)) ∨ H a = some (.tup (ns.map V.str))
theorem Strs.same {H H' : Hp} {a : Addr} {ns : List Str} (h : Strs H a ns) (s : Same H H') : Strs H' a ns := h.elim (fun h => .inl (s _ _ h)) fun h => .inr (s _ _ h)
theorem Strs.seq {K : PySem.W.Frag} {H : Hp} {a : Addr} {ns : List Str} (h : Strs H a ns) : SqL K H a (ns.map V.str) ∨ SqT K H a (ns.map V.str) := h.elim (fun h => .inl (sl_of h)) fun h => .inr (st_of h)
theorem rd_iSeq {K : PySem.W.Frag} {te : TE} {σ : L2.St} {H : Hp} {R : It → Hp → Prop} (h : te σ H fun x H1 => ∃ a, x = .ref a ∧ (((∃ xs, SqL K H1 a xs) ∧ R (Itl K a) H1) ∨ ((∃ xs, SqT K H1 a xs) ∧ R (Itt K a) H1))) : iSeq K te σ H R := h
theorem get_strs {U : List Str} {i : Nat} {x : V} (h : (U.map V.str)[i]? = some x) : ∃ z, U[i]? = some z ∧ x = .str z := get_map h
theorem for_strs {K : PySem.W.Frag} {σ : L2.St} {H : Hp} {D : Ends} {U : List Str} {k : Nat} {tb : TS} {a : Addr} (hA : Strs H a U) (Pv : Nat → L2.St → Hp → Prop) (h0 : Pv 0 σ H) (hl : ∀ i σ H', Pv i σ H' → ∀ o, H a = some o → H' a = some o)
    (hs : ∀ i z σ H', U[i]? = some z → Pv i σ H' → tb { D with nx := Pv (i + 1), ct := Pv (i + 1), bk := D.nx } (σ.set k (some (.str z))) H') (hd : ∀ σ H', Pv U.length σ H' → D.nx σ H') :
    ((∃ xs, SqL K H a xs) ∧ ∃ W : Nat → Nat → L2.St → Hp → Prop, (∃ m, W 0 m σ H) ∧ ∀ i m σ H, W i m σ H →
      ((Itl K a).stop i H ∧ D.nx σ H) ∨ ((Itl K a).go i H ∧ ∃ N : L2.St → Hp → Prop, (∀ σ' H', N σ' H' → ∃ m', m' < m ∧ W (i + 1) m' σ' H') ∧ ∀ x H', (Itl K a).yld i H x H' → gName k x σ H' fun σ2 H2 => tb { D with nx := N, ct := N, bk := D.nx } σ2 H2)) ∨
    ((∃ xs, SqT K H a xs) ∧ ∃ W : Nat → Nat → L2.St → Hp → Prop, (∃ m, W 0 m σ H) ∧ ∀ i m σ H, W i m σ H →
      ((Itt K a).stop i H ∧ D.nx σ H) ∨ ((Itt K a).go i H ∧ ∃ N : L2.St → Hp → Prop, (∀ σ' H', N σ' H' → ∃ m', m' < m ∧ W (i + 1) m' σ' H') ∧ ∀ x H', (Itt K a).yld i H x H' → gName k x σ H' fun σ2 H2 => tb { D with nx := N, ct := N, bk := D.nx } σ2 H2)) := by
  rcases hA with hA | hA
  · refine .inl ⟨⟨_, sl_of hA⟩, for_lst (xs := U.map V.str) Pv h0 (fun i σ H' hp => hl i σ H' hp _ hA) (fun i x σ H' hx hp => ?_) (fun σ H' hp => hd σ H' (by rw [List.length_map] at hp; exact hp))⟩
    obtain ⟨z, hz, rfl⟩ := get_strs hx
    exact hs i z σ H' hz hp
  · refine .inr ⟨⟨_, st_of hA⟩, L2.for_tup (xs := U.map V.str) (g := gName k) Pv h0 (fun i σ H' _ hp => st_of (hl i σ H' hp _ hA)) (fun i x σ H' hx hp => ?_) (fun σ H' hp => hd σ H' (by rw [List.length_map] at hp; exact hp))⟩
    obtain ⟨z, hz, rfl⟩ := get_strs hx
    exact hs i z σ H' hz hp
/-! ### what is due of a list of texts -/
def firstBad : List Str → Option Str
  | [] => none
  | z :: r => if isNm z = true then firstBad r else some z
def firstDup : List Str → List Str → Option Str
  | _, [] => none
  | seen, z :: r => if z ∈ seen then some z else firstDup (seen ++ [z]) r
theorem bad_step {U : List Str} {i : Nat} {z : Str} (h : U[i]? = some z) : firstBad (U.drop i) = if isNm z = true then firstBad (U.drop (i + 1)) else some z := by
  have hl := (List.getElem?_eq_some_iff.mp h).1
  have e : U.drop i = z :: U.drop (i + 1) := by rw [List.drop_eq_getElem_cons hl]; congr 1; exact (List.getElem?_eq_some_iff.mp h).2
  rw [e]; rfl
theorem dup_step {U : List Str} {i : Nat} {z : Str} (h : U[i]? = some z) : firstDup (U.take i) (U.drop i) = if z ∈ U.take i then some z else firstDup (U.take (i + 1)) (U.drop (i + 1)) := by
  have hl := (List.getElem?_eq_some_iff.mp h).1
  have e : U.drop i = z :: U.drop (i + 1) := by rw [List.drop_eq_getElem_cons hl]; congr 1; exact (List.getElem?_eq_some_iff.mp h).2
  have e2 : U.take (i + 1) = U.take i ++ [z] := by rw [List.take_add_one, h]; rfl
  rw [e, e2]; rfl
theorem take_mem {U : List Str} {i : Nat} {z : Str} (x : Str) (h : U[i]? = some z) : (decide (x ∈ U.take i) || decide ((Sum.inr x : Key) = Sum.inr z)) = decide (x ∈ U.take (i + 1)) := by
  have e2 : U.take (i + 1) = U.take i ++ [z] := by rw [List.take_add_one, h]; rfl
  rw [e2, Bool.eq_iff_iff]
  simp [List.mem_append]
theorem bad_end {U : List Str} : firstBad (U.drop U.length) = none := by rw [List.drop_length]; rfl
theorem dup_end {U : List Str} : firstDup (U.take U.length) (U.drop U.length) = none := by rw [List.drop_length]; rfl
theorem bad_none {U : List Str} : firstBad U = none ↔ ∀ z ∈ U, isNm z = true := by
  induction U with
  | nil => simp [firstBad]
  | cons y r ih =>
    unfold firstBad
    by_cases h : isNm y = true
    · rw [if_pos h, ih]; simp [h]
    · rw [if_neg h]; simp [h]
theorem dup_none {U : List Str} : ∀ {s : List Str}, s.Nodup → (firstDup s U = none ↔ (s ++ U).Nodup) := by
  induction U with
  | nil => intro s hs; simp [firstDup, hs]
  | cons y r ih =>
    intro s hs
    unfold firstDup
    by_cases h : y ∈ s
    · rw [if_pos h]
      refine ⟨fun e => (by cases e), fun n => ?_⟩
      rw [List.nodup_append] at n
      exact absurd rfl (n.2.2 y h y List.mem_cons_self)
    · rw [if_neg h]
      have hs2 : (s ++ [y]).Nodup := by
        rw [List.nodup_append]
        refine ⟨hs, by simp, fun a ha b hb => ?_⟩
        rw [List.mem_singleton.mp hb]
        exact fun e => h (e ▸ ha)
      rw [ih hs2, List.append_assoc]; rfl
def dueL (U : List Str) : Option (List V) := match firstBad U with
  | some z => some [.str "BadName", .str z, .bl true, .bl false]
  | none => match firstDup [] U with
    | some z => some [.str "Doubled", .str z, .bl true, .bl false]
    | none => none
theorem dup_none' {U : List Str} : firstDup [] U = none ↔ U.Nodup := by rw [dup_none List.nodup_nil]; rfl
theorem due_none {U : List Str} : dueL U = none ↔ (∀ z ∈ U, isNm z = true) ∧ U.Nodup := by
  unfold dueL
  rw [← bad_none, ← dup_none']
  cases firstBad U with
  | some z => simp
  | none =>
    cases firstDup [] U with
    | some z => simp
    | none => simp
theorem due_sc {U : List Str} {xs : List V} (h : dueL U = some xs) : xs.length = 4 ∧ ∀ x ∈ xs, Sc x := by
  have k : ∀ a z, ([.str a, .str z, .bl true, .bl false] : List V).length = 4 ∧ ∀ x ∈ ([.str a, .str z, .bl true, .bl false] : List V), Sc x := fun a z => ⟨rfl, by
    simp only [List.mem_cons, forall_eq_or_imp, List.not_mem_nil, false_implies, implies_true, and_true]
    exact ⟨trivial, trivial, trivial, trivial⟩⟩
  unfold dueL at h
  cases e : firstBad U with
  | some z => rw [e] at h; cases h; exact k _ _
  | none =>
    rw [e] at h
    cases e2 : firstDup [] U with
    | some z => simp only [e2] at h; cases h; exact k _ _
    | none => simp only [e2] at h; cases h
/-- sorted lists with the same items are the same -/
theorem sorted_eq : ∀ {xs ys : List Str}, xs.Perm ys → xs.Pairwise (fun x y => ¬ ltS y x) → ys.Pairwise (fun x y => ¬ ltS y x) → xs = ys
  | [], ys, h, _, _ => (List.nil_perm.mp h).symm
  | x :: xs, [], h, _, _ => absurd (List.perm_nil.mp h) (by simp)
  | x :: xs, y :: ys, h, hx, hy => by
    obtain ⟨x1, x2⟩ := List.pairwise_cons.mp hx
    obtain ⟨y1, y2⟩ := List.pairwise_cons.mp hy
    have e : x = y := by
      rcases List.mem_cons.mp (h.mem_iff.mp List.mem_cons_self) with e | hm
      · exact e
      · rcases List.mem_cons.mp (h.mem_iff.mpr (List.mem_cons_self (a := y))) with e | hm2
        · exact e.symm
        · exact ltS_tri (x1 _ hm2 |> fun q => q |> fun q => (by
            have a := y1 _ hm
            exact a)) (x1 _ hm2)
    subst e
    rw [sorted_eq ((List.perm_cons x).mp h) x2 y2]
theorem sorted_strict {ys : List Str} (hs : ys.Pairwise (fun x y => ¬ ltS y x)) (hn : ys.Nodup) {i : Nat} {a b : Str} (ha : ys[i]? = some a) (hb : ys[i + 1]? = some b) : ltS a b := by
  obtain ⟨h1, rfl⟩ := List.getElem?_eq_some_iff.mp ha
  obtain ⟨h2, rfl⟩ := List.getElem?_eq_some_iff.mp hb
  have k1 := List.pairwise_iff_getElem.mp hs i (i + 1) h1 h2 (by omega)
  have k2 := List.pairwise_iff_getElem.mp hn i (i + 1) h1 h2 (by omega)
  by_cases q : ltS ys[i] ys[i + 1]
  · exact q
  · exact absurd (ltS_tri q k1) k2

def topS (i : Nat) : Stmt := PySem.Challenge.pw_outshiners_k01_ordered_names.main.body.getD i (.Pass ⟨0, 0, 0, 0⟩)
structure Blt (mg : Str → Option Value) : Prop where
  ValueError : mg "ValueError" = none
  all : mg "all" = none
  bool : mg "bool" = none
  dict : mg "dict" = none
  int : mg "int" = none
  isinstance : mg "isinstance" = none
  len : mg "len" = none
  list' : mg "list" = none
  max : mg "max" = none
  range : mg "range" = none
  reversed : mg "reversed" = none
  set : mg "set" = none
  sorted : mg "sorted" = none
  str : mg "str" = none
  tuple : mg "tuple" = none
  g_LETTERS : ∃ t, mg "LETTERS" = some (.str "abcdefghijklmnopqrstuvwxyz" t)
  g_LETTERS_AND_DIGITS : ∃ t, mg "LETTERS_AND_DIGITS" = some (.str "abcdefghijklmnopqrstuvwxyz0123456789" t)
  g_LONGEST_NAME : ∃ t, mg "LONGEST_NAME" = some (.int 8 t)

local macro_rules | `(tactic| walk_at "sideB") => `(tactic| first | assumption | exact Z.sl_of (by assumption) | exact upd_same | (show (0 : Int) < _; omega) | exact Or.inl ⟨by omega, by omega⟩ | exact Or.inr ⟨by omega, by omega⟩)
local macro_rules | `(tactic| walk_at "tyofB") => `(tactic| first | exact TyOf.int _ | exact TyOf.bl _ | exact TyOf.non | exact TyOf.str _ | (apply TyOf.lst; assumption) | (apply TyOf.tup; assumption))
local macro_rules | `(tactic| walk_at "rd1B") => `(tactic| first
  | with_reducible first
    | refine rd_seq ?_ | refine rd_asg ?_ | refine rd_c ?_ | refine rd_op ?_ | refine rd_cons ?_ | refine rd_nil ?_ | refine rd_cb ?_ | refine rd_call ?_ | refine rd_I0 ?_ | refine rd_eqI ?_ | refine rd_bx ?_ | refine rd_nn ?_ | refine rd_int1 ?_ | refine rd_max2 ?_ | refine rd_min2 ?_
    | refine rd_ret ?_ | refine rd_ifS ?_ | refine rd_test ?_ | refine rd_tB ?_ | refine rd_not ?_ | refine rd_and ?_ | refine rd_or ?_ | refine rd_un ?_ | refine rd_U ?_ | refine rd_next ?_ | refine rd_drop ?_ | refine rd_andV ?_ | refine rd_orV ?_ | refine rd_notV ?_ | refine rd_if ?_ | refine rd_neI ?_
    | refine rd_lst ?_ | refine rd_tup ?_ | refine rd_sl ?_ | refine rd_bm ?_ | refine rd_chain ?_ | refine rd_asgS ?_ | refine iteT ?_ | refine iteF ?_ | refine if_nn ?_ | refine if_nf ?_ | refine if_nt ?_ | refine if_nnN ?_ | refine if_n_int ?_ | refine if_n_bl ?_ | refine if_n_str ?_ | refine if_n_ref ?_ | refine if_nN_int ?_ | refine if_nN_bl ?_ | refine if_nN_str ?_ | refine if_nN_ref ?_ | refine rd_eqB ?_ | refine rd_eqS ?_ | refine rd_neB ?_ | refine rd_part ?_ | refine rd_nopart ?_ | refine rd_for ?_ | refine rd_iRng1 ?_ | refine rd_iList ?_ | refine rd_iTup ?_ | refine rd_lc ?_ | refine rd_callS ?_ | refine rd_callKS ?_ | refine rd_mkO ?_ | refine rd_ckw ?_ | refine rd_xf ?_
    | refine rd_p9 ?_ | refine rd_p11 ?_ | refine rd_p12 ?_ | refine rd_p13 ?_ | refine rd_p18 ?_ | refine rd_p30 ?_ | refine rd_p40 ?_ | refine rd_ss ?_ | refine rd_s1 ?_ | refine rd_i1 ?_ | refine rd_fld ?_ | refine rd_sfld ?_ | refine rd_make ?_ | refine rd_lrv ?_ | refine rd_dnewK ?_ | refine rd_dput ?_ | refine rd_dnotin ?_ | refine rd_yes ?_ | refine rd_callNS ?_ | refine rd_callSD ?_ | refine rd_ii ?_ | refine rd_si ?_ | refine rd_iStr ?_
  | ((with_reducible refine rd_var (v := ?v) ?hv ?_); (case hv => exact rfl))
  | ((with_reducible refine rd_setS (j := ?j) ?he ?_); (case he => exact rfl))
  | ((with_reducible refine rd_isi (a := ?a) (b := ?b) ?ty ?k ?_); (case ty => first | exact TyOf.int _ | exact TyOf.bl _ | exact TyOf.non | exact TyOf.str _); (case k => with_reducible first | exact kb_int_int | exact kb_int_bool | exact kb_int_str | exact kb_int_dict | exact kb_int_list | exact kb_int_tuple | exact kb_bool_int | exact kb_bool_bool | exact kb_bool_str | exact kb_bool_dict | exact kb_bool_list | exact kb_bool_tuple | exact kb_NoneType_int | exact kb_NoneType_bool | exact kb_NoneType_str | exact kb_NoneType_dict | exact kb_NoneType_list | exact kb_NoneType_tuple | exact kb_str_int | exact kb_str_bool | exact kb_str_str | exact kb_str_dict | exact kb_str_list | exact kb_str_tuple))
  | ((with_reducible refine rd_isiL (b := ?b) (by assumption) ?k ?_); (case k => with_reducible first | exact kb_list_int | exact kb_list_bool | exact kb_list_str | exact kb_list_dict | exact kb_list_list | exact kb_list_tuple))
  | ((with_reducible refine rd_isiT (b := ?b) (by assumption) ?k ?_); (case k => with_reducible first | exact kb_tuple_int | exact kb_tuple_bool | exact kb_tuple_str | exact kb_tuple_dict | exact kb_tuple_list | exact kb_tuple_tuple))
  | ((with_reducible refine rd_I ?hc ?_); (case hc => walk_at "sideB"))
  | ((with_reducible refine rd_ixL (xs := ?xs) (v := ?v) ?hh ?he ?_); (case hh => first | exact upd_same | assumption); (case he => exact rfl)))
local macro_rules | `(tactic| walk_at "rdB") => `(tactic| repeat walk_at "rd1B")

abbrev s_law_store : Stmt := topS 16
theorem sc_law_store : FnScope ["script"] ["script"] (defScope s_law_store) := ⟨rfl, rfl, rfl, by decide +kernel, rfl, by decide +kernel, by decide +kernel⟩
section
variable {P : Program} {w : World} {K : PySem.W.Frag} {mg : Str → Option Value} {base : Heap}
/-! ### _law_store -/
def spStore (K : PySem.W.Frag) : Sp := fun vs H Q _ => ∃ a, ∃ ns : List Int, vs = [.ref a] ∧ SqL K H a (ns.map V.int) ∧ ∀ (S : Sto) H', StoreOk S H' → Same H H' → Q (.ref S.1) H'
theorem ok_store {k : Nat} {f : Addr} {fd : FuncData} (F : Fun K "_law_store" "_law_store" s_law_store f fd) (T : Blt mg) : FnOk P w K mg base CX0 (k + 1) f fd ["script"] (spStore K) := by
  refine F.ok sc_law_store (fun vs H Q E h => ?_) (fun cdv A outer s H vs Q E hr h => ?_)
  · obtain ⟨a, ns, rfl, _⟩ := h; rfl
  · obtain ⟨a, ns, rfl, hL, q⟩ := h
    refine ⟨_, (pss_one (ps_ret (pe_lst (pa_cons (pe_callTy call_list_of (by rfl) T.list' (by decide +kernel) (pa_cons (pv 0) pa_nil)) (pa_cons pe_int (pa_cons pe_int (pa_cons pe_int (pa_cons pe_int (pa_cons pe_int (pa_cons pe_int pa_nil)))))))))), ?_⟩
    walk_at "rdB"
    refine ⟨a, _, rfl, .inl hL, fun q0 nq0 => ?_⟩
    walk_at "rdB"
    refine ⟨sz (by simp), fun S nS => ?_⟩
    have n2 : q0 ≠ S := fun e => by rw [← e, upd_same] at nS; cases nS
    refine q (S, q0) _ ⟨ns, 0, 0, 0, 0, 1, 1, n2, upd_same, by rw [upd_ne n2, upd_same], by omega, by omega, by omega, by omega, by omega⟩ ((same_new nq0).trans (same_new nS))
end
abbrev s_law_stir : Stmt := topS 17
theorem sc_law_stir : FnScope ["store", "cell", "one", "two"] ["store", "cell"] (defScope s_law_stir) := ⟨rfl, rfl, rfl, by decide +kernel, rfl, by decide +kernel, by decide +kernel⟩
section
variable {P : Program} {w : World} {K : PySem.W.Frag} {mg : Str → Option Value} {base : Heap}
/-! ### _law_stir -/
def spStir : Sp := fun vs H Q _ => ∃ S n q a b c d e f, vs = [.ref S, .int n] ∧ H S = some (.lst [.ref q, .int a, .int b, .int c, .int d, .int e, .int f]) ∧ 0 ≤ e ∧ e < 2147483647 ∧ 0 ≤ f ∧ f < 2147483647 ∧ 
  ∀ d' e' f', 0 ≤ e' → e' < 2147483647 → 0 ≤ f' → f' < 2147483647 → Q .non (upd H S (.lst [.ref q, .int a, .int b, .int c, .int d', .int e', .int f']))
theorem ok_stir {k : Nat} {f : Addr} {fd : FuncData} (F : Fun K "_law_stir" "_law_stir" s_law_stir f fd) (T : Blt mg) : FnOk P w K mg base CX0 (k + 1) f fd ["store", "cell"] spStir := by
  refine F.ok sc_law_stir (fun vs H Q E h => ?_) (fun cdv A outer s H vs Q E hr h => ?_)
  · obtain ⟨S, n, q, a, b, c, d, e, f, rfl, _⟩ := h; rfl
  · obtain ⟨S, n, q, a, b, c, d, e, f', rfl, hs, h1, h2, h3, h4, h⟩ := h
    refine ⟨_, (pss_cons (ps_asg (pe_op op_add (pe_callTy call_int1 (by rfl) T.int (by decide +kernel) (pa_cons (pe_ix ix_list (pv 0) pe_int (fun _ _ => rfl)) pa_nil)) pe_int) (pg_sub (pv 0) pe_int set_list))
 (pss_cons (ps_set (i := 2) sc_law_stir.nd rfl (.inl rfl) (pe_op op_add (pe_op op_add (pe_op op_mul (pe_callTy call_int1 (by rfl) T.int (by decide +kernel) (pa_cons (pe_ix ix_list (pv 0) pe_int (fun _ _ => rfl)) pa_nil)) pe_int) (pe_op op_mod (pe_callTy call_int1 (by rfl) T.int (by decide +kernel) (pa_cons (pv 1) pa_nil)) pe_int)) (pe_callTy call_int1 (by rfl) T.int (by decide +kernel) (pa_cons (pe_ix ix_list (pv 0) pe_int (fun _ _ => rfl)) pa_nil))))
 (pss_cons (ps_asg (pe_op op_mod (pe_callTy call_int1 (by rfl) T.int (by decide +kernel) (pa_cons (pv 2) pa_nil)) pe_int) (pg_sub (pv 0) pe_int set_list))
 (pss_cons (ps_set (i := 3) sc_law_stir.nd rfl (.inl rfl) (pe_op op_add (pe_op op_add (pe_op op_add (pe_op op_mul (pe_callTy call_int1 (by rfl) T.int (by decide +kernel) (pa_cons (pe_ix ix_list (pv 0) pe_int (fun _ _ => rfl)) pa_nil)) pe_int) (pe_op op_mul (pe_callTy call_int1 (by rfl) T.int (by decide +kernel) (pa_cons (pe_ix ix_list (pv 0) pe_int (fun _ _ => rfl)) pa_nil)) pe_int)) (pe_op op_mod (pe_callTy call_int1 (by rfl) T.int (by decide +kernel) (pa_cons (pv 1) pa_nil)) pe_int)) (pe_callTy call_int1 (by rfl) T.int (by decide +kernel) (pa_cons (pe_ix ix_list (pv 0) pe_int (fun _ _ => rfl)) pa_nil))))
 (pss_one (ps_asg (pe_op op_mod (pe_callTy call_int1 (by rfl) T.int (by decide +kernel) (pa_cons (pv 3) pa_nil)) pe_int) (pg_sub (pv 0) pe_int set_list))))))), ?_⟩
    rw [← upd_id hs]
    walk_at "rdB"
    refine h _ _ _ ?_ ?_ ?_ ?_ <;> omega
end
abbrev s_law_take : Stmt := topS 18
theorem sc_law_take : FnScope ["store", "many", "cells", "cell", "rest"] ["store", "many"] (defScope s_law_take) := ⟨rfl, rfl, rfl, by decide +kernel, rfl, by decide +kernel, by decide +kernel⟩
section
variable {P : Program} {w : World} {K : PySem.W.Frag} {mg : Str → Option Value} {base : Heap}
/-! ### _law_take -/
def spTake : Sp := fun vs H Q _ => ∃ (S : Sto), ∃ m, vs = [.ref S.1, .int m] ∧ m < 2 ^ 200 ∧ StoreOk S H ∧ ∀ r H', 0 ≤ r → r < max 1 m → StoreOk S H' → ExS S H H' → Q (.int r) H'
theorem ok_take {k : Nat} {f : Addr} {fd : FuncData} (F : Fun K "_law_take" "_law_take" s_law_take f fd) (T : Blt mg) (H_law_stir : Has P w K mg base "_law_stir" k ["store", "cell"] spStir) : FnOk P w K mg base CX0 (k + 1) f fd ["store", "many"] spTake := by
  refine F.ok sc_law_take (fun vs H Q E h => ?_) (fun cdv A outer s H vs Q E hr h => ?_)
  · obtain ⟨S, m, rfl, _⟩ := h; rfl
  · obtain ⟨S, m, rfl, hm, hS, h⟩ := h
    refine ⟨_, (pss_cons (ps_set (i := 1) sc_law_take.nd rfl (.inl rfl) (pe_callB (call_max2 rfl) (by rfl) T.max (by decide +kernel) (pa_cons pe_int (pa_cons (pe_callTy call_int1 (by rfl) T.int (by decide +kernel) (pa_cons (pv 1) pa_nil)) pa_nil))))
 (pss_cons (ps_set (i := 2) sc_law_take.nd rfl (.inl rfl) (pe_ix ix_list (pv 0) pe_int (fun _ _ => rfl)))
 (C8.pss_cut (ps_if (PW.pt (pw_and (pt_cmpR op_eq (pe_callTy call_int1 (by rfl) T.int (by decide +kernel) (pa_cons (pe_ix ix_list (pv 0) pe_int (fun _ _ => rfl)) pa_nil)) pe_int (nomark _)) (pw_and (pt_cmpR op_eq (pe_callTy call_int1 (by rfl) T.int (by decide +kernel) (pa_cons (pe_ix ix_list (pv 0) pe_int (fun _ _ => rfl)) pa_nil)) pe_int (nomark _)) (pw_and1 (pt_cmpR op_lt (pe_callTy call_int1 (by rfl) T.int (by decide +kernel) (pa_cons (pe_ix ix_list (pv 0) pe_int (fun _ _ => rfl)) pa_nil)) (pe_callB call_len_seq (by rfl) T.len (by decide +kernel) (pa_cons (pv 2) pa_nil)) (nomark _)))))) (pss_cons (ps_set (i := 3) sc_law_take.nd rfl (.inl rfl) (pe_callTy call_int1 (by rfl) T.int (by decide +kernel) (pa_cons (pe_ix ix_list (pv 2) (pe_callTy call_int1 (by rfl) T.int (by decide +kernel) (pa_cons (pe_ix ix_list (pv 0) pe_int (fun _ _ => rfl)) pa_nil)) (fun _ _ => rfl)) pa_nil)))
 (pss_cons (ps_asg (pe_op op_add (pe_callTy call_int1 (by rfl) T.int (by decide +kernel) (pa_cons (pe_ix ix_list (pv 0) pe_int (fun _ _ => rfl)) pa_nil)) pe_int) (pg_sub (pv 0) pe_int set_list))
 (pss_cons (ps_asg pe_int (pg_sub (pv 0) pe_int set_list))
 (pss_cons (ps_expr (pe_callH H_law_stir hr (by rfl) (pa_cons (pv 0) (pa_cons (pv 3) pa_nil))))
 (pss_one (ps_if (pt_cmpR op_ge (pv 3) (pe_op op_pow pe_int pe_int) (nomark _)) (pss_cons (ps_asg (pv 3) (pg_sub (pv 0) pe_int set_list))
 (pss_one (ps_asg pe_int (pg_sub (pv 0) pe_int set_list)))) pss_nil)))))) pss_nil)
 (pss_cons (ps_set (i := 4) sc_law_take.nd rfl (.inl rfl) (pe_callTy call_int1 (by rfl) T.int (by decide +kernel) (pa_cons (pe_ix ix_list (pv 0) pe_int (fun _ _ => rfl)) pa_nil)))
 (pss_cons (ps_if (pt_cmpR op_gt (pv 4) pe_int (nomark _)) (pss_cons (ps_asg (pe_op op_fdivW (pv 4) (pv 1)) (pg_sub (pv 0) pe_int set_list))
 (pss_one (ps_ret (pe_op op_mod (pe_callTy call_int1 (by rfl) T.int (by decide +kernel) (pa_cons (pv 4) pa_nil)) (pv 1))))) pss_nil)
 (pss_cons (ps_expr (pe_callH H_law_stir hr (by rfl) (pa_cons (pv 0) (pa_cons pe_int pa_nil))))
 (pss_cons (ps_asg (pe_callB (call_max2 rfl) (by rfl) T.max (by decide +kernel) (pa_cons pe_int (pa_cons (pe_op op_sub (pe_callTy call_int1 (by rfl) T.int (by decide +kernel) (pa_cons (pe_ix ix_list (pv 0) pe_int (fun _ _ => rfl)) pa_nil)) pe_int) pa_nil))) (pg_sub (pv 0) pe_int set_list))
 (pss_one (ps_ret (pe_op op_mod (pe_callTy call_int1 (by rfl) T.int (by decide +kernel) (pa_cons (pe_op op_add (pe_op op_mul (pe_callTy call_int1 (by rfl) T.int (by decide +kernel) (pa_cons (pe_ix ix_list (pv 0) pe_int (fun _ _ => rfl)) pa_nil)) pe_int) (pe_callTy call_int1 (by rfl) T.int (by decide +kernel) (pa_cons (pe_ix ix_list (pv 0) pe_int (fun _ _ => rfl)) pa_nil))) pa_nil)) (pv 1))))))))))), ?_⟩
    obtain ⟨S, q⟩ := S
    obtain ⟨cells, a, b, c, d, e, f', nq, hs, hq, h0, h1, h2, h3, h4⟩ := hS
    dsimp only at nq hs hq ⊢
    rw [← upd_id hs]
    walk_at "rdB"
    obtain ⟨M, hM⟩ : ∃ M, M = (if m > 1 then m else 1) := ⟨_, rfl⟩
    rw [← hM]
    have hM1 : 1 ≤ M := by rw [hM]; split <;> omega
    have hM2 : M = max 1 m := by rw [hM]; split <;> omega
    have hM3 : M < 2 ^ 200 := by rw [hM]; split <;> omega
    clear hM
    refine rd_cut (fun σ' H' => ∃ a b c d e f y, σ' = [some (.ref S), some (.int M), some (.ref q), y, none] ∧ H' = upd H S (.lst [.ref q, .int a, .int b, .int c, .int d, .int e, .int f]) ∧ 0 ≤ a ∧ 0 ≤ e ∧ e < 2147483647 ∧ 0 ≤ f ∧ f < 2147483647) ?_ ?_
    · walk_at "rdB"
      refine if_dec (fun hb => ?_) (fun hb => ?_)
      · walk_at "rdB"
        refine if_dec (fun hc => ?_) (fun hc => ?_)
        · walk_at "rdB"
          refine rd_seqL (by rw [upd_ne nq]; exact hq) ?_
          walk_at "rdB"
          refine if_dec (fun hl => ?_) (fun hl => ?_)
          · obtain ⟨n, _, _, en⟩ := atI_ints h0 (by simpa using hl)
            walk_at "rdB"
            refine rd_ixL (by rw [upd_ne nq]; exact hq) en ?_
            walk_at "rdB"
            refine ⟨S, n, q, a + 1, b, 3, d, e, f', rfl, upd_same, h1, h2, h3, h4, fun d' e' f'' g1 g2 g3 g4 => ?_⟩
            rw [upd_upd]
            walk_at "rdB"
            refine if_dec (fun hn => ?_) (fun hn => ?_)
            · walk_at "rdB"
              exact ⟨_, _, _, _, _, _, _, rfl, rfl, by omega, g1, g2, g3, g4⟩
            · walk_at "rdB"
              exact ⟨_, _, _, _, _, _, _, rfl, rfl, by omega, g1, g2, g3, g4⟩
          · walk_at "rdB"
            exact ⟨_, _, _, _, _, _, _, rfl, rfl, h0, h1, h2, h3, h4⟩
        · walk_at "rdB"
          exact ⟨_, _, _, _, _, _, _, rfl, rfl, h0, h1, h2, h3, h4⟩
      · walk_at "rdB"
        exact ⟨_, _, _, _, _, _, _, rfl, rfl, h0, h1, h2, h3, h4⟩
    · rintro σ' H' ⟨a, b, c, d, e, f, y, rfl, rfl, h0, h1, h2, h3, h4⟩
      have fin : ∀ (r a b c d e f : Int), 0 ≤ r → r < M → 0 ≤ a → 0 ≤ e → e < 2147483647 → 0 ≤ f → f < 2147483647 → Q (.int r) (upd H S (.lst [.ref q, .int a, .int b, .int c, .int d, .int e, .int f])) := fun r a b c d e f r0 r1 h0 h1 h2 h3 h4 =>
        h r _ r0 (by omega) ⟨cells, a, b, c, d, e, f, nq, upd_same, by rw [upd_ne nq]; exact hq, h0, h1, h2, h3, h4⟩ (ExS.updS (S := (S, q)))
      walk_at "rdB"
      refine if_dec (fun hb => ?_) (fun hb => ?_)
      · walk_at "rdB"
        refine rd_I (wide_div (b := 200) (by omega) (by omega) (by omega) (by omega)) ?_
        walk_at "rdB"
        exact fin _ _ _ _ _ _ _ (Int.emod_nonneg _ (by omega)) (Int.emod_lt_of_pos _ (by omega)) h0 h1 h2 h3 h4
      · walk_at "rdB"
        refine ⟨S, 0, q, a, b, c, d, e, f, rfl, upd_same, h1, h2, h3, h4, fun d' e' f'' g1 g2 g3 g4 => ?_⟩
        rw [upd_upd]
        walk_at "rdB"
        exact fin _ _ _ _ _ _ _ (Int.emod_nonneg _ (by omega)) (Int.emod_lt_of_pos _ (by omega)) h0 g1 g2 g3 g4
end
abbrev s_law_pick : Stmt := topS 19
theorem sc_law_pick : FnScope ["store", "items"] ["store", "items"] (defScope s_law_pick) := ⟨rfl, rfl, rfl, by decide +kernel, rfl, by decide +kernel, by decide +kernel⟩
section
variable {P : Program} {w : World} {K : PySem.W.Frag} {mg : Str → Option Value} {base : Heap}
/-! ### _law_pick: of a list, of a text -/
def spPick : Sp := fun vs H Q _ => ∃ (S : Sto), ∃ x, vs = [.ref S.1, x] ∧ StoreOk S H ∧
  ((∃ a xs, x = .ref a ∧ At S H a (.lst xs) ∧ 0 < xs.length ∧ xs.length < 1000000 ∧ ∀ v H', v ∈ xs → StoreOk S H' → ExS S H H' → Q v H') ∨
   (∃ z : Str, x = .str z ∧ 0 < z.length ∧ z.length < 100000 ∧ ∀ c H', c ∈ z.cps.toList → StoreOk S H' → ExS S H H' → Q (.str ⟨#[c]⟩) H'))
theorem ok_pick {k : Nat} {f : Addr} {fd : FuncData} (F : Fun K "_law_pick" "_law_pick" s_law_pick f fd) (T : Blt mg) (H_law_take : Has P w K mg base "_law_take" k ["store", "many"] spTake) : FnOk P w K mg base CX0 (k + 1) f fd ["store", "items"] spPick := by
  refine F.ok sc_law_pick (fun vs H Q E h => ?_) (fun cdv A outer s H vs Q E hr h => ?_)
  · obtain ⟨S, x, rfl, _⟩ := h; rfl
  · obtain ⟨S, x, rfl, hS, h⟩ := h
    refine ⟨_, (pss_one (ps_ret (pe_ix ix_seq (pv 1) (pe_callH H_law_take hr (by rfl) (pa_cons (pv 0) (pa_cons (pe_callB (call_len_seq.or call_len_str) (by rfl) T.len (by decide +kernel) (pa_cons (pv 1) pa_nil)) pa_nil))) (fun _ _ => rfl)))), ?_⟩
    rcases h with ⟨a, xs, rfl, hA, l0, l1, h⟩ | ⟨z, rfl, l0, l1, h⟩
    · walk_at "rdB"
      refine .inl (rd_seqL hA.2 ?_)
      walk_at "rdB"
      refine ⟨S, _, rfl, by omega, hS, fun r H' r0 r1 hS' he => ?_⟩
      obtain ⟨hb, e⟩ := atI_get (xs := xs) (i := r) r0 (by omega)
      exact .inl (rd_ixL (he _ _ hA.1 hA.2) e (h _ _ (List.getElem_mem hb) hS' he))
    · walk_at "rdB"
      refine .inr ⟨z, rfl, sz (by omega), ?_⟩
      walk_at "rdB"
      refine ⟨S, _, rfl, by omega, hS, fun r H' r0 r1 hS' he => ?_⟩
      obtain ⟨c, hc, _, e⟩ := atI_nats (l := z.cps.toList) (i := r) r0 (by rw [len_l]; omega)
      exact .inr (.inr (rd_ixS (by omega) e (h _ _ hc hS' he)))
end
abbrev s_law_shuffled : Stmt := topS 20
theorem sc_law_shuffled : FnScope ["store", "items", "mixed", "k", "j", "held"] ["store", "items"] (defScope s_law_shuffled) := ⟨rfl, rfl, rfl, by decide +kernel, rfl, by decide +kernel, by decide +kernel⟩
section
variable {P : Program} {w : World} {K : PySem.W.Frag} {mg : Str → Option Value} {base : Heap}
/-! ### _law_shuffled -/
def spShuffled : Sp := fun vs H Q _ => ∃ (S : Sto), ∃ a xs, vs = [.ref S.1, .ref a] ∧ StoreOk S H ∧ At S H a (.lst xs) ∧ xs.length < 1000000 ∧ ∀ p ys H', ys.Perm xs → H p = none → At S H' p (.lst ys) → StoreOk S H' → ExS S H H' → Q (.ref p) H'
theorem ok_shuffled {k : Nat} {f : Addr} {fd : FuncData} (F : Fun K "_law_shuffled" "_law_shuffled" s_law_shuffled f fd) (T : Blt mg) (H_law_take : Has P w K mg base "_law_take" k ["store", "many"] spTake) : FnOk P w K mg base CX0 (k + 1) f fd ["store", "items"] spShuffled := by
  refine F.ok sc_law_shuffled (fun vs H Q E h => ?_) (fun cdv A outer s H vs Q E hr h => ?_)
  · obtain ⟨S, a, xs, rfl, _⟩ := h; rfl
  · obtain ⟨S, a, xs, rfl, hS, hA, l1, h⟩ := h
    refine ⟨_, (pss_cons (ps_set (i := 2) sc_law_shuffled.nd rfl (.inl rfl) (pe_callTy call_list_of (by rfl) T.list' (by decide +kernel) (pa_cons (pv 1) pa_nil)))
 (pss_cons (ps_for PassesOwn.never rfl (pi_range1 rfl T.range (pa_cons (pe_callB call_len_seq (by rfl) T.len (by decide +kernel) (pa_cons (pv 2) pa_nil)) pa_nil)) (pg_name (i := 3) sc_law_shuffled.nd rfl (.inl rfl)) (pss_cons (ps_set (i := 4) sc_law_shuffled.nd rfl (.inl rfl) (pe_op op_add (pv 3) (pe_callH H_law_take hr (by rfl) (pa_cons (pv 0) (pa_cons (pe_op op_sub (pe_callB call_len_seq (by rfl) T.len (by decide +kernel) (pa_cons (pv 2) pa_nil)) (pv 3)) pa_nil)))))
 (pss_cons (ps_set (i := 5) sc_law_shuffled.nd rfl (.inl rfl) (pe_ix ix_list (pv 2) (pv 3) (fun _ _ => rfl)))
 (pss_cons (ps_asg (pe_ix ix_list (pv 2) (pv 4) (fun _ _ => rfl)) (pg_sub (pv 2) (pv 3) set_list))
 (pss_one (ps_asg (pv 5) (pg_sub (pv 2) (pv 4) set_list)))))))
 (pss_one (ps_ret (pv 2))))), ?_⟩
    walk_at "rdB"
    refine rd_seqL hA.2 fun p np => ?_
    walk_at "rdB"
    refine rd_seqL upd_same ?_
    walk_at "rdB"
    have pS : p ≠ S.1 := hS.ne1 np
    have pS2 : p ≠ S.2 := hS.ne2 np
    refine ⟨by omega, by omega, for_rng (fun i σ H' => ∃ ys y3 y4 y5, σ = [some (.ref S.1), some (.ref a), some (.ref p), y3, y4, y5] ∧ ys.Perm xs ∧ H' p = some (.lst ys) ∧ StoreOk S H' ∧ ExS S H H') ⟨xs, _, _, _, rfl, .refl _, upd_same, hS.new np, .new np⟩ ?_ ?_⟩
    · rintro i σ H' hi ⟨ys, y3, y4, y5, rfl, hp, eH, hS', hE⟩
      have hl : ys.length = xs.length := hp.length_eq
      have hi' : i < xs.length := by simpa using hi
      walk_at "rdB"
      refine rd_seqL eH ?_
      walk_at "rdB"
      refine ⟨S, _, rfl, by omega, hS', fun r H2 r0 r1 hS2 hE2 => ?_⟩
      have eH2 := hE2 _ _ pS eH
      walk_at "rdB"
      obtain ⟨hb, e⟩ := atI_get (xs := ys) (i := (i : Int)) (by omega) (by omega)
      refine rd_ixL eH2 e ?_
      walk_at "rdB"
      obtain ⟨hb2, e2⟩ := atI_get (xs := ys) (i := (i : Int) + r) (by omega) (by omega)
      refine rd_ixL eH2 e2 ?_
      walk_at "rdB"
      refine rd_setL eH2 (ixN_nat (by omega) (by omega)) ?_
      walk_at "rdB"
      refine rd_setL upd_same (ixN_nat (by omega) (by rw [List.length_set]; omega)) ?_
      rw [upd_upd]
      walk_at "rdB"
      refine ⟨_, _, _, _, rfl, (swap_perm hb hb2).trans hp, upd_same, store_upd hS2 pS pS2, (hE.trans hE2).mut np⟩
    · rintro σ H' ⟨ys, y3, y4, y5, rfl, hp, eH, hS', hE⟩
      walk_at "rdB"
      exact h p ys H' hp np ⟨pS, eH⟩ hS' hE
end


abbrev s_law_name : Stmt := topS 21
theorem sc_law_name : FnScope ["store", "letters", "signs", "kind", "length", "name", "k"] ["store"] (defScope s_law_name) := ⟨rfl, rfl, rfl, by decide +kernel, rfl, by decide +kernel, by decide +kernel⟩
section
variable {P : Program} {w : World} {K : PySem.W.Frag} {mg : Str → Option Value} {base : Heap}
/-! ### _law_name -/
def spName : Sp := fun vs H Q _ => ∃ S : Sto, vs = [.ref S.1] ∧ StoreOk S H ∧ ∀ z H', isNm z = true → StoreOk S H' → ExS S H H' → Q (.str z) H'
theorem ok_name {k : Nat} {f : Addr} {fd : FuncData} (F : Fun K "_law_name" "_law_name" s_law_name f fd) (T : Blt mg) (H_law_take : Has P w K mg base "_law_take" k ["store", "many"] spTake) : FnOk P w K mg base CX0 (k + 1) f fd ["store"] spName := by
  refine F.ok sc_law_name (fun vs H Q E h => ?_) (fun cdv A outer s H vs Q E hr h => ?_)
  · obtain ⟨S, rfl, _⟩ := h; rfl
  · obtain ⟨S, rfl, hS, h⟩ := h
    refine ⟨_, (pss_cons (ps_set (i := 1) sc_law_name.nd rfl (.inl rfl) pe_str)
 (pss_cons (ps_set (i := 2) sc_law_name.nd rfl (.inl rfl) (pe_op op_add_str (pv 1) pe_str))
 (pss_cons (ps_set (i := 3) sc_law_name.nd rfl (.inl rfl) (pe_callH H_law_take hr (by rfl) (pa_cons (pv 0) (pa_cons pe_int pa_nil))))
 (pss_cons (ps_set (i := 4) sc_law_name.nd rfl (.inl rfl) (pe_op op_add pe_int (pe_callH H_law_take hr (by rfl) (pa_cons (pv 0) (pa_cons pe_int pa_nil)))))
 (C8.pss_cut (ps_if (pt_cmpR op_lt (pv 3) pe_int (nomark _)) (pss_one (ps_set (i := 4) sc_law_name.nd rfl (.inl rfl) (pe_ix ix_list (pe_lst (pa_cons pe_int (pa_cons pe_int (pa_cons pe_int pa_nil)))) (pv 3) (fun _ _ => rfl)))) pss_nil)
 (pss_cons (ps_set (i := 5) sc_law_name.nd rfl (.inl rfl) (pe_ix ix_str (pv 1) (pe_callH H_law_take hr (by rfl) (pa_cons (pv 0) (pa_cons pe_int pa_nil))) (fun _ _ => rfl)))
 (pss_cons (ps_for PassesOwn.never rfl (pi_range1 rfl T.range (pa_cons (pe_op op_sub (pv 4) pe_int) pa_nil)) (pg_name (i := 6) sc_law_name.nd rfl (.inl rfl)) (pss_one (ps_set (i := 5) sc_law_name.nd rfl (.inl rfl) (pe_op op_add_str (pv 5) (pe_ix ix_str (pv 2) (pe_callH H_law_take hr (by rfl) (pa_cons (pv 0) (pa_cons pe_int pa_nil))) (fun _ _ => rfl))))))
 (pss_one (ps_ret (pv 5)))))))))), ?_⟩
    walk_at "rdB"
    refine ⟨by decide +kernel, ?_⟩
    rw [show ("abcdefghijklmnopqrstuvwxyz" ++ "0123456789" : Str) = letsD from lets_digits]
    walk_at "rdB"
    refine ⟨S, 5, rfl, by omega, hS, fun r H1 r0 r1 hS1 e1 => ?_⟩
    walk_at "rdB"
    refine ⟨S, 8, rfl, by omega, hS1, fun r2 H2 r20 r21 hS2 e2 => ?_⟩
    walk_at "rdB"
    refine rd_cut (fun σ' H' => ∃ L : Int, σ' = [some (.ref S.1), some (.str lets), some (.str letsD), some (.int r), some (.int L), none, none] ∧ 1 ≤ L ∧ L ≤ 8 ∧ StoreOk S H' ∧ ExS S H H') ?_ ?_
    · walk_at "rdB"
      refine if_dec (fun hk => ?_) (fun hk => ?_)
      · walk_at "rdB"
        refine ⟨sz (by simp), fun p np => ?_⟩
        walk_at "rdB"
        obtain rfl | rfl | rfl : r = 0 ∨ r = 1 ∨ r = 2 := by omega
        all_goals refine rd_ixL upd_same rfl ?_
        all_goals walk_at "rdB"
        all_goals exact ⟨_, rfl, by omega, by omega, hS2.new np, (e1.trans e2).trans (ExS.new np)⟩
      · walk_at "rdB"
        exact ⟨_, rfl, by omega, by omega, hS2, e1.trans e2⟩
    · rintro σ' H3 ⟨L, rfl, l1, l8, hS3, e3⟩
      walk_at "rdB"
      refine ⟨S, 26, rfl, by omega, hS3, fun r4 H4 r40 r41 hS4 e4 => ?_⟩
      obtain ⟨c, hc, _, ec⟩ := atI_nats (l := lets.cps.toList) (i := r4) r40 (by rw [show lets.cps.toList.length = 26 from by decide +kernel]; omega)
      refine rd_ixS (by decide +kernel) ec ?_
      walk_at "rdB"
      refine ⟨by omega, by omega, for_rng (fun i σ H' => ∃ z y, σ = [some (.ref S.1), some (.str lets), some (.str letsD), some (.int r), some (.int L), some (.str z), y] ∧ NmP z (i + 1) ∧ StoreOk S H' ∧ ExS S H H') ⟨_, _, rfl, NmP.one hc, hS4, e3.trans e4⟩ ?_ ?_⟩
      · rintro i σ H5 hi ⟨z, y, rfl, hz, hS5, e5⟩
        walk_at "rdB"
        refine ⟨S, 36, rfl, by omega, hS5, fun r6 H6 r60 r61 hS6 e6 => ?_⟩
        obtain ⟨d, hd, _, ed⟩ := atI_nats (l := letsD.cps.toList) (i := r6) r60 (by rw [show letsD.cps.toList.length = 36 from by decide +kernel]; omega)
        refine rd_ixS (by decide +kernel) ed ?_
        walk_at "rdB"
        refine ⟨sz (by rw [hz.1, one_len]; omega), ?_⟩
        walk_at "rdB"
        exact ⟨_, _, rfl, hz.add hd, hS6, e5.trans e6⟩
      · rintro σ H5 ⟨z, y, rfl, hz, hS5, e5⟩
        walk_at "rdB"
        exact h z H5 (hz.nm (by omega)) hS5 e5
end
abbrev s_law_bad_name : Stmt := topS 25
theorem sc_law_bad_name : FnScope ["store", "menu", "kind", "name", "at"] ["store"] (defScope s_law_bad_name) := ⟨rfl, rfl, rfl, by decide +kernel, rfl, by decide +kernel, by decide +kernel⟩
section
variable {P : Program} {w : World} {K : PySem.W.Frag} {mg : Str → Option Value} {base : Heap}
/-! ### _law_bad_name -/
def menuL : List Str := ["", "1", "A", "aB", "a b", "a_", " a", "a ", "a-b", "abcdefghi", "9lives", "*", "a\n", "Z9"]
theorem menuL_le : ∀ z ∈ menuL, OkS 20 z := by decide +kernel
theorem digs_ok : OkS 10 "0123456789" := by decide +kernel
theorem odd_ok : OkS 8 "A_ -.Z*," := by decide +kernel
theorem near_ok : OkS 8 "z0aB_ 9" := by decide +kernel
theorem cat3_len {z : Str} {c : Nat} {a b : Option Int} {n : Nat} (h : z.length ≤ n) : (cutS z none a ++ ⟨#[c]⟩ ++ cutS z b none).length ≤ 2 * n + 1 := by
  have h1 := cutS_len z none a
  have h2 := cutS_len z b none
  rw [app_len, app_len, one_len]
  omega
def spBad : Sp := fun vs H Q _ => ∃ S : Sto, vs = [.ref S.1] ∧ StoreOk S H ∧ ∀ z H', OkS 20 z → StoreOk S H' → ExS S H H' → Q (.str z) H'
theorem ok_bad_name {k : Nat} {f : Addr} {fd : FuncData} (F : Fun K "_law_bad_name" "_law_bad_name" s_law_bad_name f fd) (T : Blt mg) (H_law_take : Has P w K mg base "_law_take" k ["store", "many"] spTake) (H_law_pick : Has P w K mg base "_law_pick" k ["store", "items"] spPick) (H_law_name : Has P w K mg base "_law_name" k ["store"] spName) : FnOk P w K mg base CX0 (k + 1) f fd ["store"] spBad := by
  refine F.ok sc_law_bad_name (fun vs H Q E h => ?_) (fun cdv A outer s H vs Q E hr h => ?_)
  · obtain ⟨S, rfl, _⟩ := h; rfl
  · obtain ⟨S, rfl, hS, h⟩ := h
    refine ⟨_, (pss_cons (ps_set (i := 1) sc_law_bad_name.nd rfl (.inl rfl) (pe_lst (pa_cons pe_str (pa_cons pe_str (pa_cons pe_str (pa_cons pe_str (pa_cons pe_str (pa_cons pe_str (pa_cons pe_str (pa_cons pe_str (pa_cons pe_str (pa_cons pe_str (pa_cons pe_str (pa_cons pe_str (pa_cons pe_str (pa_cons pe_str pa_nil))))))))))))))))
 (pss_cons (ps_set (i := 2) sc_law_bad_name.nd rfl (.inl rfl) (pe_callH H_law_take hr (by rfl) (pa_cons (pv 0) (pa_cons pe_int pa_nil))))
 (pss_cons (ps_if (pt_cmpR op_eq (pv 2) pe_int (nomark _)) (pss_one (ps_ret (pe_callH H_law_pick hr (by rfl) (pa_cons (pv 0) (pa_cons (pv 1) pa_nil))))) pss_nil)
 (pss_cons (ps_set (i := 3) sc_law_bad_name.nd rfl (.inl rfl) (pe_callH H_law_name hr (by rfl) (pa_cons (pv 0) pa_nil)))
 (pss_cons (ps_if (pt_cmpR op_eq (pv 2) pe_int (nomark _)) (pss_one (ps_ret (pe_op op_add_str (pv 3) (pe_slice sl_str pe_str po_none (po_some (pe_op op_sub pe_int (pe_callB call_len_str (by rfl) T.len (by decide +kernel) (pa_cons (pv 3) pa_nil)))))))) pss_nil)
 (pss_cons (ps_set (i := 4) sc_law_bad_name.nd rfl (.inl rfl) (pe_callH H_law_take hr (by rfl) (pa_cons (pv 0) (pa_cons (pe_op op_add (pe_callB call_len_str (by rfl) T.len (by decide +kernel) (pa_cons (pv 3) pa_nil)) pe_int) pa_nil))))
 (pss_one (ps_ret (pe_op op_add_str (pe_op op_add_str (pe_slice sl_str (pv 3) po_none (po_some (pv 4))) (pe_callH H_law_pick hr (by rfl) (pa_cons (pv 0) (pa_cons pe_str pa_nil)))) (pe_slice sl_str (pv 3) (po_some (pv 4)) po_none)))))))))), ?_⟩
    walk_at "rdB"
    refine ⟨sz (by simp), fun p np => ?_⟩
    walk_at "rdB"
    refine ⟨S, 4, rfl, by omega, hS.new np, fun r H1 r0 r1 hS1 e1 => ?_⟩
    have e1' := (ExS.new (S := S) np).trans e1
    walk_at "rdB"
    refine if_dec (fun hk => ?_) (fun hk => ?_)
    · walk_at "rdB"
      refine ⟨S, _, rfl, hS1, .inl ⟨p, menuL.map V.str, rfl, ⟨hS.ne1 np, e1 _ _ (hS.ne1 np) upd_same⟩, by decide, by decide, fun v H2 hv hS2 e2 => ?_⟩⟩
      obtain ⟨z, hz, rfl⟩ := List.mem_map.mp hv
      exact h z H2 (menuL_le z hz) hS2 (e1'.trans e2)
    · walk_at "rdB"
      refine ⟨S, rfl, hS1, fun z H2 hz hS2 e2 => ?_⟩
      obtain ⟨z1, z8⟩ := isNm_len hz
      have e2' := e1'.trans e2
      walk_at "rdB"
      refine if_dec (fun hk1 => ?_) (fun hk1 => ?_)
      · walk_at "rdB"
        refine ⟨sz (by omega), ?_⟩
        walk_at "rdB"
        refine rd_slS (by decide) ?_
        walk_at "rdB"
        have hc := cutS_len "0123456789" none (some (9 - (z.length : Int)))
        have h10 : ("0123456789" : Str).length = 10 := by decide +kernel
        exact ⟨sz (by omega), h _ _ ((OkS.nm hz).app digs_ok.cut (by omega)) hS2 e2'⟩
      · walk_at "rdB"
        refine ⟨sz (by omega), ?_⟩
        walk_at "rdB"
        refine ⟨S, _, rfl, by omega, hS2, fun r3 H3 r30 r31 hS3 e3 => ?_⟩
        walk_at "rdB"
        refine rd_slS (by omega) ?_
        walk_at "rdB"
        refine ⟨S, _, rfl, hS3, .inr ⟨_, rfl, by decide +kernel, by decide +kernel, fun c H4 hc hS4 e4 => ?_⟩⟩
        walk_at "rdB"
        have hl := cat3_len (c := c) (a := some r3) (b := some r3) z8
        rw [app_len] at hl
        have hl0 := app_len (cutS z none (some r3)) ⟨#[c]⟩
        have hl1 := one_len c
        refine ⟨sz (by omega), ?_⟩
        walk_at "rdB"
        refine rd_slS (by omega) ?_
        walk_at "rdB"
        exact ⟨sz (by omega), h _ _ ((((OkS.nm hz).cut).app (odd_ok.sign hc) (by omega : 8 + 1 ≤ 9)).app ((OkS.nm hz).cut) (by omega)) hS4 (e2'.trans (e3.trans e4))⟩
end
abbrev s_law_is_name : Stmt := topS 26
theorem sc_law_is_name : FnScope ["text", "sign"] ["text"] (defScope s_law_is_name) := ⟨rfl, rfl, rfl, by decide +kernel, rfl, by decide +kernel, by decide +kernel⟩
section
variable {P : Program} {w : World} {K : PySem.W.Frag} {mg : Str → Option Value} {base : Heap}
/-! ### _law_is_name -/
def spIsName : Sp := fun vs H Q _ => ∃ z : Str, vs = [.str z] ∧ z.length ≤ 1000 ∧ ∀ H', Same H H' → Q (.bl (isNm z)) H'
theorem ok_is_name {k : Nat} {f : Addr} {fd : FuncData} (F : Fun K "_law_is_name" "_law_is_name" s_law_is_name f fd) (T : Blt mg) : FnOk P w K mg base CX0 (k + 1) f fd ["text"] spIsName := by
  refine F.ok sc_law_is_name (fun vs H Q E h => ?_) (fun cdv A outer s H vs Q E hr h => ?_)
  · obtain ⟨z, rfl, _⟩ := h; rfl
  · obtain ⟨z, rfl, hz, h⟩ := h
    have h := h H (Same.refl H)
    refine ⟨_, (pss_cons (ps_if (PW.pt (pw_or (pt_cmpR op_lt (pe_callB call_len_str (by rfl) T.len (by decide +kernel) (pa_cons (pv 0) pa_nil)) pe_int (nomark _)) (pw_or (pt_cmpR op_gt (pe_callB call_len_str (by rfl) T.len (by decide +kernel) (pa_cons (pv 0) pa_nil)) pe_int (nomark _)) (pw_or1 (pt_cmpR op_notIn_sign (pe_ix ix_str (pv 0) pe_int (fun _ _ => rfl)) pe_str (by rfl)))))) (pss_one (ps_ret pe_bl)) pss_nil)
 (pss_cons (ps_for PassesOwn.never rfl (pi_str (pv 0)) (pg_name (i := 1) sc_law_is_name.nd rfl (.inl rfl)) (pss_one (ps_if (pt_cmpR op_notIn_sign (pv 1) pe_str (by rfl)) (pss_one (ps_ret pe_bl)) pss_nil)))
 (pss_one (ps_ret pe_bl)))), ?_⟩
    walk_at "rdB"
    refine ⟨sz (by omega), ?_⟩
    walk_at "rdB"
    refine if_dec (fun h1 => ?_) (fun h1 => ?_)
    · walk_at "rdB"
      rw [isNm_zero (by omega)] at h
      exact h
    · walk_at "rdB"
      refine ⟨sz (by omega), ?_⟩
      obtain ⟨c, l, e⟩ : ∃ c l, z.cps.toList = c :: l := by
        cases e : z.cps.toList with
        | nil => have := len_l z; rw [e] at this; simp at this; omega
        | cons c l => exact ⟨c, l, rfl⟩
      have en := isNm_of e
      rw [en] at h
      walk_at "rdB"
      refine if_dec (fun h8 => ?_) (fun h8 => ?_)
      · walk_at "rdB"
        rw [decide_eq_false (by omega)] at h
        exact h
      · walk_at "rdB"
        refine rd_ixS (c := c) (by omega) (by rw [e]; exact atI_zero) ?_
        walk_at "rdB"
        refine rd_inS ?_
        walk_at "rdB"
        rw [decide_eq_true (by omega : z.length ≤ 8), Bool.true_and] at h
        refine if_ndec (fun hc => ?_) (fun hc => ?_)
        · walk_at "rdB"
          rw [show decide (c ∈ lets.cps.toList) = false from decide_eq_false hc] at h
          exact h
        · walk_at "rdB"
          rw [show decide (c ∈ lets.cps.toList) = true from decide_eq_true hc, Bool.true_and] at h
          refine for_sgn (fun i σ H' => ∃ y, σ = [some (.str z), y] ∧ H' = H ∧ ∀ d ∈ z.cps.toList.take i, d ∈ letsD.cps.toList) ⟨_, rfl, rfl, by simp⟩ ?_ ?_
          · rintro i d σ H1 hd ⟨y, rfl, rfl, ha⟩
            walk_at "rdB"
            refine rd_inS ?_
            walk_at "rdB"
            refine if_ndec (fun hn => ?_) (fun hn => ?_)
            · walk_at "rdB"
              rw [show (z.cps.toList.all fun d => decide (d ∈ letsD.cps.toList)) = false from ?_] at h
              · exact h
              · rw [List.all_eq_false]
                exact ⟨d, List.mem_of_getElem? hd, by rw [show decide (d ∈ letsD.cps.toList) = false from decide_eq_false hn]; simp⟩
            · walk_at "rdB"
              refine ⟨_, rfl, rfl, fun x hx => ?_⟩
              rw [List.take_add_one, hd] at hx
              rcases List.mem_append.mp hx with q | q
              · exact ha x q
              · have : x = d := by simpa using q
                rw [this]; exact hn
          · rintro σ H1 ⟨y, rfl, rfl, ha⟩
            walk_at "rdB"
            rw [← len_l, List.take_length] at ha
            rw [show (z.cps.toList.all fun d => decide (d ∈ letsD.cps.toList)) = true from List.all_eq_true.mpr fun d hd => decide_eq_true (ha d hd)] at h
            exact h
end


abbrev s_law_match : Stmt := topS 27
theorem sc_law_match : FnScope ["left", "right", "strict", "k"] ["left", "right", "strict"] (defScope s_law_match) := ⟨rfl, rfl, rfl, by decide +kernel, rfl, by decide +kernel, by decide +kernel⟩
abbrev s_law_same : Stmt := topS 29
theorem sc_law_same : FnScope ["actual", "expected"] ["actual", "expected"] (defScope s_law_same) := ⟨rfl, rfl, rfl, by decide +kernel, rfl, by decide +kernel, by decide +kernel⟩
section
variable {P : Program} {w : World} {K : PySem.W.Frag} {mg : Str → Option Value} {base : Heap}
/-! ### _law_match, _law_same -/
def spMatch (n : Nat) : Sp := fun vs H Q _ => ∃ x y st, vs = [x, y, .bl st] ∧ ((Sc x ∧ Sc y ∧ ∀ H', Same H H' → Q (.bl (decide (x = y))) H') ∨ (Alike H n x y ∧ ∀ H', Same H H' → Q (.bl true) H'))
theorem ok_match0 {k : Nat} {f : Addr} {fd : FuncData} (F : Fun K "_law_match" "_law_match" s_law_match f fd) (T : Blt mg) : FnOk P w K mg base CX0 (k + 1) f fd ["left", "right", "strict"] (spMatch 0) := by
  refine F.ok sc_law_match (fun vs H Q E h => ?_) (fun cdv A outer s H vs Q E hr h => ?_)
  · obtain ⟨x, y, st, rfl, _⟩ := h; rfl
  · obtain ⟨x, y, st, rfl, h⟩ := h
    have h : Sc x ∧ Sc y ∧ ∀ H', Same H H' → Q (.bl (decide (x = y))) H' := by
      rcases h with h | ⟨⟨h1, rfl⟩, h⟩
      · exact h
      · exact ⟨h1, h1, fun H' e => by rw [decide_eq_true rfl]; exact h H' e⟩
    refine ⟨_, (pss_cons (ps_if (PW.pt (pw_or (pt_cmpR op_isN (pv 0) pe_non (nomark _)) (pw_or1 (pt_cmpR op_isN (pv 1) pe_non (nomark _))))) (pss_one (ps_ret (pe_and (pe_cmpR op_isN (pv 0) pe_non (nomark _)) (pe_one (pe_cmpR op_isN (pv 1) pe_non (nomark _)))))) pss_nil)
 (pss_cons (ps_if (PW.pt (pw_or (pt_val (pe_callB call_isi (by rfl) T.isinstance (by decide +kernel) (pa_cons (pv 0) (pa_cons (pe_bltn (v := .ty "bool") rfl T.bool (by decide +kernel) rfl) pa_nil)))) (pw_or1 (pt_val (pe_callB call_isi (by rfl) T.isinstance (by decide +kernel) (pa_cons (pv 1) (pa_cons (pe_bltn (v := .ty "bool") rfl T.bool (by decide +kernel) rfl) pa_nil))))))) (pss_one (ps_ret (pe_and (pe_callB call_isi (by rfl) T.isinstance (by decide +kernel) (pa_cons (pv 0) (pa_cons (pe_bltn (v := .ty "bool") rfl T.bool (by decide +kernel) rfl) pa_nil))) (pe_and (pe_callB call_isi (by rfl) T.isinstance (by decide +kernel) (pa_cons (pv 1) (pa_cons (pe_bltn (v := .ty "bool") rfl T.bool (by decide +kernel) rfl) pa_nil))) (pe_one (pe_cmpR op_eq (pv 0) (pv 1) (nomark _))))))) pss_nil)
 (pss_cons (ps_if (PW.pt (pw_or (pt_val (pe_callB call_isi (by rfl) T.isinstance (by decide +kernel) (pa_cons (pv 0) (pa_cons (pe_bltn (v := .ty "int") rfl T.int (by decide +kernel) rfl) pa_nil)))) (pw_or1 (pt_val (pe_callB call_isi (by rfl) T.isinstance (by decide +kernel) (pa_cons (pv 1) (pa_cons (pe_bltn (v := .ty "int") rfl T.int (by decide +kernel) rfl) pa_nil))))))) (pss_one (ps_ret (pe_and (pe_callB call_isi (by rfl) T.isinstance (by decide +kernel) (pa_cons (pv 0) (pa_cons (pe_bltn (v := .ty "int") rfl T.int (by decide +kernel) rfl) pa_nil))) (pe_and (pe_callB call_isi (by rfl) T.isinstance (by decide +kernel) (pa_cons (pv 1) (pa_cons (pe_bltn (v := .ty "int") rfl T.int (by decide +kernel) rfl) pa_nil))) (pe_one (pe_cmpR op_eq (pv 0) (pv 1) (nomark _))))))) pss_nil)
 (pss_cons (ps_if (PW.pt (pw_or (pt_val (pe_callB call_isi (by rfl) T.isinstance (by decide +kernel) (pa_cons (pv 0) (pa_cons (pe_bltn (v := .ty "str") rfl T.str (by decide +kernel) rfl) pa_nil)))) (pw_or1 (pt_val (pe_callB call_isi (by rfl) T.isinstance (by decide +kernel) (pa_cons (pv 1) (pa_cons (pe_bltn (v := .ty "str") rfl T.str (by decide +kernel) rfl) pa_nil))))))) (pss_one (ps_ret (pe_and (pe_callB call_isi (by rfl) T.isinstance (by decide +kernel) (pa_cons (pv 0) (pa_cons (pe_bltn (v := .ty "str") rfl T.str (by decide +kernel) rfl) pa_nil))) (pe_and (pe_callB call_isi (by rfl) T.isinstance (by decide +kernel) (pa_cons (pv 1) (pa_cons (pe_bltn (v := .ty "str") rfl T.str (by decide +kernel) rfl) pa_nil))) (pe_one (pe_cmpR op_eq (pv 0) (pv 1) (nomark _))))))) pss_nil)
 (pss_cons (ps_if (PW.pt (pw_or (pt_val (pe_callB call_isi (by rfl) T.isinstance (by decide +kernel) (pa_cons (pv 0) (pa_cons (pe_bltn (v := .ty "dict") rfl T.dict (by decide +kernel) rfl) pa_nil)))) (pw_or1 (pt_val (pe_callB call_isi (by rfl) T.isinstance (by decide +kernel) (pa_cons (pv 1) (pa_cons (pe_bltn (v := .ty "dict") rfl T.dict (by decide +kernel) rfl) pa_nil))))))) (pss_one ps_never) pss_nil)
 (pss_cons (ps_if (PW.pt (pw_or (pt_not (pt_val (pe_callB call_isiT (by rfl) T.isinstance (by decide +kernel) (pa_cons (pv 0) (pa_cons (pe_tup (pa_cons (pe_bltn (v := .ty "list") rfl T.list' (by decide +kernel) rfl) (pa_cons (pe_bltn (v := .ty "tuple") rfl T.tuple (by decide +kernel) rfl) pa_nil))) pa_nil))))) (pw_or1 (pt_not (pt_val (pe_callB call_isiT (by rfl) T.isinstance (by decide +kernel) (pa_cons (pv 1) (pa_cons (pe_tup (pa_cons (pe_bltn (v := .ty "list") rfl T.list' (by decide +kernel) rfl) (pa_cons (pe_bltn (v := .ty "tuple") rfl T.tuple (by decide +kernel) rfl) pa_nil))) pa_nil)))))))) (pss_one (ps_ret pe_bl)) pss_nil)
 (pss_cons (ps_if (PW.pt (pw_or (pt_cmpR op_ne (pe_callB call_len_seq (by rfl) T.len (by decide +kernel) (pa_cons (pv 0) pa_nil)) (pe_callB call_len_seq (by rfl) T.len (by decide +kernel) (pa_cons (pv 1) pa_nil)) (nomark _)) (pw_or1 (PW.pt (pw_and (pt_val (pv 2)) (pw_and1 (pt_cmpR op_ne (pe_callB call_isi (by rfl) T.isinstance (by decide +kernel) (pa_cons (pv 0) (pa_cons (pe_bltn (v := .ty "list") rfl T.list' (by decide +kernel) rfl) pa_nil))) (pe_callB call_isi (by rfl) T.isinstance (by decide +kernel) (pa_cons (pv 1) (pa_cons (pe_bltn (v := .ty "list") rfl T.list' (by decide +kernel) rfl) pa_nil))) (nomark _)))))))) (pss_one (ps_ret pe_bl)) pss_nil)
 (pss_cons ps_never
 (pss_one (ps_ret pe_bl)))))))))), ?_⟩
    obtain ⟨hx, hy, h⟩ := h
    have h := h H (Same.refl H)
    cases x <;> first | exact hx.elim | skip
    all_goals cases y <;> first | exact hy.elim | skip
    all_goals walk_at "rdB"
    all_goals first | exact h | (have e := h; simp at e ⊢; exact e)
theorem ok_matchS {n : Nat} {k : Nat} {f : Addr} {fd : FuncData} (F : Fun K "_law_match" "_law_match" s_law_match f fd) (T : Blt mg) (H_law_match : Has P w K mg base "_law_match" k ["left", "right", "strict"] (spMatch n)) : FnOk P w K mg base CX0 (k + 1) f fd ["left", "right", "strict"] (spMatch (n + 1)) := by
  refine F.ok sc_law_match (fun vs H Q E h => ?_) (fun cdv A outer s H vs Q E hr h => ?_)
  · obtain ⟨x, y, st, rfl, _⟩ := h; rfl
  · obtain ⟨x, y, st, rfl, h⟩ := h
    have h : (Sc x ∧ Sc y ∧ ∀ H', Same H H' → Q (.bl (decide (x = y))) H') ∨ ((∃ (a b : Addr) (xs ys : List V), x = .ref a ∧ y = .ref b ∧ ((H a = some (.lst xs) ∧ H b = some (.lst ys)) ∨ (H a = some (.tup xs) ∧ H b = some (.tup ys))) ∧ xs.length = ys.length ∧ xs.length ≤ 100000 ∧ ∀ (i : Nat) (u v : V), xs[i]? = some u → ys[i]? = some v → Alike H n u v) ∧ ∀ H', Same H H' → Q (.bl true) H') := by
      rcases h with h | ⟨⟨h1, rfl⟩ | h1, h⟩
      · exact .inl h
      · exact .inl ⟨h1, h1, fun H' e => by rw [decide_eq_true rfl]; exact h H' e⟩
      · exact .inr ⟨h1, h⟩
    refine ⟨_, (pss_cons (ps_if (PW.pt (pw_or (pt_cmpR op_isN (pv 0) pe_non (nomark _)) (pw_or1 (pt_cmpR op_isN (pv 1) pe_non (nomark _))))) (pss_one (ps_ret (pe_and (pe_cmpR op_isN (pv 0) pe_non (nomark _)) (pe_one (pe_cmpR op_isN (pv 1) pe_non (nomark _)))))) pss_nil)
 (pss_cons (ps_if (PW.pt (pw_or (pt_val (pe_callB call_isi (by rfl) T.isinstance (by decide +kernel) (pa_cons (pv 0) (pa_cons (pe_bltn (v := .ty "bool") rfl T.bool (by decide +kernel) rfl) pa_nil)))) (pw_or1 (pt_val (pe_callB call_isi (by rfl) T.isinstance (by decide +kernel) (pa_cons (pv 1) (pa_cons (pe_bltn (v := .ty "bool") rfl T.bool (by decide +kernel) rfl) pa_nil))))))) (pss_one (ps_ret (pe_and (pe_callB call_isi (by rfl) T.isinstance (by decide +kernel) (pa_cons (pv 0) (pa_cons (pe_bltn (v := .ty "bool") rfl T.bool (by decide +kernel) rfl) pa_nil))) (pe_and (pe_callB call_isi (by rfl) T.isinstance (by decide +kernel) (pa_cons (pv 1) (pa_cons (pe_bltn (v := .ty "bool") rfl T.bool (by decide +kernel) rfl) pa_nil))) (pe_one (pe_cmpR op_eq (pv 0) (pv 1) (nomark _))))))) pss_nil)
 (pss_cons (ps_if (PW.pt (pw_or (pt_val (pe_callB call_isi (by rfl) T.isinstance (by decide +kernel) (pa_cons (pv 0) (pa_cons (pe_bltn (v := .ty "int") rfl T.int (by decide +kernel) rfl) pa_nil)))) (pw_or1 (pt_val (pe_callB call_isi (by rfl) T.isinstance (by decide +kernel) (pa_cons (pv 1) (pa_cons (pe_bltn (v := .ty "int") rfl T.int (by decide +kernel) rfl) pa_nil))))))) (pss_one (ps_ret (pe_and (pe_callB call_isi (by rfl) T.isinstance (by decide +kernel) (pa_cons (pv 0) (pa_cons (pe_bltn (v := .ty "int") rfl T.int (by decide +kernel) rfl) pa_nil))) (pe_and (pe_callB call_isi (by rfl) T.isinstance (by decide +kernel) (pa_cons (pv 1) (pa_cons (pe_bltn (v := .ty "int") rfl T.int (by decide +kernel) rfl) pa_nil))) (pe_one (pe_cmpR op_eq (pv 0) (pv 1) (nomark _))))))) pss_nil)
 (pss_cons (ps_if (PW.pt (pw_or (pt_val (pe_callB call_isi (by rfl) T.isinstance (by decide +kernel) (pa_cons (pv 0) (pa_cons (pe_bltn (v := .ty "str") rfl T.str (by decide +kernel) rfl) pa_nil)))) (pw_or1 (pt_val (pe_callB call_isi (by rfl) T.isinstance (by decide +kernel) (pa_cons (pv 1) (pa_cons (pe_bltn (v := .ty "str") rfl T.str (by decide +kernel) rfl) pa_nil))))))) (pss_one (ps_ret (pe_and (pe_callB call_isi (by rfl) T.isinstance (by decide +kernel) (pa_cons (pv 0) (pa_cons (pe_bltn (v := .ty "str") rfl T.str (by decide +kernel) rfl) pa_nil))) (pe_and (pe_callB call_isi (by rfl) T.isinstance (by decide +kernel) (pa_cons (pv 1) (pa_cons (pe_bltn (v := .ty "str") rfl T.str (by decide +kernel) rfl) pa_nil))) (pe_one (pe_cmpR op_eq (pv 0) (pv 1) (nomark _))))))) pss_nil)
 (pss_cons (ps_if (PW.pt (pw_or (pt_val (pe_callB call_isi (by rfl) T.isinstance (by decide +kernel) (pa_cons (pv 0) (pa_cons (pe_bltn (v := .ty "dict") rfl T.dict (by decide +kernel) rfl) pa_nil)))) (pw_or1 (pt_val (pe_callB call_isi (by rfl) T.isinstance (by decide +kernel) (pa_cons (pv 1) (pa_cons (pe_bltn (v := .ty "dict") rfl T.dict (by decide +kernel) rfl) pa_nil))))))) (pss_one ps_never) pss_nil)
 (pss_cons (ps_if (PW.pt (pw_or (pt_not (pt_val (pe_callB call_isiT (by rfl) T.isinstance (by decide +kernel) (pa_cons (pv 0) (pa_cons (pe_tup (pa_cons (pe_bltn (v := .ty "list") rfl T.list' (by decide +kernel) rfl) (pa_cons (pe_bltn (v := .ty "tuple") rfl T.tuple (by decide +kernel) rfl) pa_nil))) pa_nil))))) (pw_or1 (pt_not (pt_val (pe_callB call_isiT (by rfl) T.isinstance (by decide +kernel) (pa_cons (pv 1) (pa_cons (pe_tup (pa_cons (pe_bltn (v := .ty "list") rfl T.list' (by decide +kernel) rfl) (pa_cons (pe_bltn (v := .ty "tuple") rfl T.tuple (by decide +kernel) rfl) pa_nil))) pa_nil)))))))) (pss_one (ps_ret pe_bl)) pss_nil)
 (C8.pss_cut (ps_if (PW.pt (pw_or (pt_cmpR op_ne (pe_callB call_len_seq (by rfl) T.len (by decide +kernel) (pa_cons (pv 0) pa_nil)) (pe_callB call_len_seq (by rfl) T.len (by decide +kernel) (pa_cons (pv 1) pa_nil)) (nomark _)) (pw_or1 (PW.pt (pw_and (pt_val (pv 2)) (pw_and1 (pt_cmpR op_ne (pe_callB call_isi (by rfl) T.isinstance (by decide +kernel) (pa_cons (pv 0) (pa_cons (pe_bltn (v := .ty "list") rfl T.list' (by decide +kernel) rfl) pa_nil))) (pe_callB call_isi (by rfl) T.isinstance (by decide +kernel) (pa_cons (pv 1) (pa_cons (pe_bltn (v := .ty "list") rfl T.list' (by decide +kernel) rfl) pa_nil))) (nomark _)))))))) (pss_one (ps_ret pe_bl)) pss_nil)
 (pss_cons (ps_for PassesOwn.never rfl (pi_range1 rfl T.range (pa_cons (pe_callB call_len_seq (by rfl) T.len (by decide +kernel) (pa_cons (pv 0) pa_nil)) pa_nil)) (pg_name (i := 3) sc_law_match.nd rfl (.inl rfl)) (pss_one (ps_if (pt_not (pt_val (pe_callH H_law_match hr (by rfl) (pa_cons (pe_ix ix_seq (pv 0) (pv 3) (fun _ _ => rfl)) (pa_cons (pe_ix ix_seq (pv 1) (pv 3) (fun _ _ => rfl)) (pa_cons (pv 2) pa_nil)))))) (pss_one (ps_ret pe_bl)) pss_nil)))
 (pss_one (ps_ret pe_bl)))))))))), ?_⟩
    rcases h with ⟨hx, hy, h⟩ | ⟨⟨a, b, xs, ys, rfl, rfl, hab, hl, h100, hi⟩, hq⟩
    · have h := h H (Same.refl H)
      cases x <;> first | exact hx.elim | skip
      all_goals cases y <;> first | exact hy.elim | skip
      all_goals walk_at "rdB"
      all_goals first | exact h | (have e := h; simp at e ⊢; exact e)
    · rcases hab with ⟨ha, hb⟩ | ⟨ha, hb⟩
      · walk_at "rdB"
        refine ⟨sz (by simp), fun p np => ?_⟩
        walk_at "rdB"
        have ha1 := same_new (o := .tup [V.ty "list", V.ty "tuple"]) np _ _ ha
        have hb1 := same_new (o := .tup [V.ty "list", V.ty "tuple"]) np _ _ hb
        refine rd_isiLT upd_same (.lst ha1) ka_list ?_
        walk_at "rdB"
        refine ⟨sz (by simp), fun p2 np2 => ?_⟩
        walk_at "rdB"
        have s2 := (same_new (o := .tup [V.ty "list", V.ty "tuple"]) np).trans (same_new (o := .tup [V.ty "list", V.ty "tuple"]) np2)
        have ha2 := s2 _ _ ha
        have hb2 := s2 _ _ hb
        refine rd_isiLT upd_same (.lst hb2) ka_list ?_
        walk_at "rdB"
        refine rd_cut (fun σ' H' => σ' = [some (.ref a), some (.ref b), some (.bl st), none] ∧ Same H H') ?_ ?_
        · walk_at "rdB"
          refine rd_seqL ha2 ?_
          walk_at "rdB"
          refine rd_seqL hb2 ?_
          walk_at "rdB"
          refine if_ndec (fun hne => absurd (by rw [hl]) hne) (fun _ => ?_)
          walk_at "rdB"
          refine if_bool (fun hst => ?_) (fun hst => ?_)
          · walk_at "rdB"
            first | rw [decTF] | rw [show decide (false = false) = true from rfl]
            walk_at "rdB"
            exact ⟨rfl, s2⟩
          · walk_at "rdB"
            exact ⟨rfl, s2⟩
        · rintro σ' H3 ⟨rfl, s3⟩
          have ha3 := s3 _ _ ha
          have hb3 := s3 _ _ hb
          walk_at "rdB"
          refine rd_seqL ha3 ?_
          walk_at "rdB"
          refine ⟨by omega, ?_, for_rng (fun i σ H' => ∃ y, σ = [some (.ref a), some (.ref b), some (.bl st), y] ∧ Same H H') ⟨none, rfl, s3⟩ ?_ ?_⟩
          · omega
          · rintro i σ H4 hi4 ⟨y, rfl, s4⟩
            have ha4 := s4 _ _ ha
            have hb4 := s4 _ _ hb
            obtain ⟨c1, e1⟩ := atI_get (xs := xs) (i := (i : Int)) (by omega) (by omega)
            obtain ⟨c2, e2⟩ := atI_get (xs := ys) (i := (i : Int)) (by omega) (by omega)
            walk_at "rdB"
            refine rd_ixQL ha4 e1 ?_
            walk_at "rdB"
            refine rd_ixQL hb4 e2 ?_
            walk_at "rdB"
            refine ⟨_, _, _, rfl, .inr ⟨(hi i _ _ (by simp) (by simp)).same s4, fun H5 s5 => ?_⟩⟩
            walk_at "rdB"
            exact ⟨_, rfl, s4.trans s5⟩
          · rintro σ H4 ⟨y, rfl, s4⟩
            walk_at "rdB"
            exact hq H4 s4
      · walk_at "rdB"
        refine ⟨sz (by simp), fun p np => ?_⟩
        walk_at "rdB"
        have ha1 := same_new (o := .tup [V.ty "list", V.ty "tuple"]) np _ _ ha
        have hb1 := same_new (o := .tup [V.ty "list", V.ty "tuple"]) np _ _ hb
        refine rd_isiLT upd_same (.tup ha1) ka_tuple ?_
        walk_at "rdB"
        refine ⟨sz (by simp), fun p2 np2 => ?_⟩
        walk_at "rdB"
        have s2 := (same_new (o := .tup [V.ty "list", V.ty "tuple"]) np).trans (same_new (o := .tup [V.ty "list", V.ty "tuple"]) np2)
        have ha2 := s2 _ _ ha
        have hb2 := s2 _ _ hb
        refine rd_isiLT upd_same (.tup hb2) ka_tuple ?_
        walk_at "rdB"
        refine rd_cut (fun σ' H' => σ' = [some (.ref a), some (.ref b), some (.bl st), none] ∧ Same H H') ?_ ?_
        · walk_at "rdB"
          refine rd_seqT ha2 ?_
          walk_at "rdB"
          refine rd_seqT hb2 ?_
          walk_at "rdB"
          refine if_ndec (fun hne => absurd (by rw [hl]) hne) (fun _ => ?_)
          walk_at "rdB"
          refine if_bool (fun hst => ?_) (fun hst => ?_)
          · walk_at "rdB"
            first | rw [decTF] | rw [show decide (false = false) = true from rfl]
            walk_at "rdB"
            exact ⟨rfl, s2⟩
          · walk_at "rdB"
            exact ⟨rfl, s2⟩
        · rintro σ' H3 ⟨rfl, s3⟩
          have ha3 := s3 _ _ ha
          have hb3 := s3 _ _ hb
          walk_at "rdB"
          refine rd_seqT ha3 ?_
          walk_at "rdB"
          refine ⟨by omega, ?_, for_rng (fun i σ H' => ∃ y, σ = [some (.ref a), some (.ref b), some (.bl st), y] ∧ Same H H') ⟨none, rfl, s3⟩ ?_ ?_⟩
          · omega
          · rintro i σ H4 hi4 ⟨y, rfl, s4⟩
            have ha4 := s4 _ _ ha
            have hb4 := s4 _ _ hb
            obtain ⟨c1, e1⟩ := atI_get (xs := xs) (i := (i : Int)) (by omega) (by omega)
            obtain ⟨c2, e2⟩ := atI_get (xs := ys) (i := (i : Int)) (by omega) (by omega)
            walk_at "rdB"
            refine rd_ixQT ha4 e1 ?_
            walk_at "rdB"
            refine rd_ixQT hb4 e2 ?_
            walk_at "rdB"
            refine ⟨_, _, _, rfl, .inr ⟨(hi i _ _ (by simp) (by simp)).same s4, fun H5 s5 => ?_⟩⟩
            walk_at "rdB"
            exact ⟨_, rfl, s4.trans s5⟩
          · rintro σ H4 ⟨y, rfl, s4⟩
            walk_at "rdB"
            exact hq H4 s4
def spSame (n : Nat) : Sp := fun vs H Q _ => ∃ x y, vs = [x, y] ∧ ((Sc x ∧ Sc y ∧ ∀ H', Same H H' → Q (.bl (decide (x = y))) H') ∨ (Alike H n x y ∧ ∀ H', Same H H' → Q (.bl true) H'))
theorem ok_same {n : Nat} {k : Nat} {f : Addr} {fd : FuncData} (F : Fun K "_law_same" "_law_same" s_law_same f fd) (T : Blt mg) (H_law_match : Has P w K mg base "_law_match" k ["left", "right", "strict"] (spMatch n)) : FnOk P w K mg base CX0 (k + 1) f fd ["actual", "expected"] (spSame n) := by
  refine F.ok sc_law_same (fun vs H Q E h => ?_) (fun cdv A outer s H vs Q E hr h => ?_)
  · obtain ⟨x, y, rfl, _⟩ := h; rfl
  · obtain ⟨x, y, rfl, h⟩ := h
    refine ⟨_, (pss_one (ps_ret (pe_callH H_law_match hr (by rfl) (pa_cons (pv 0) (pa_cons (pv 1) (pa_cons pe_bl pa_nil)))))), ?_⟩
    walk_at "rdB"
    exact ⟨_, _, _, rfl, h⟩
end


abbrev sBadName___init__ : Stmt := inClass (topS 2) 0
theorem scBadName___init__ : FnScope ["self", "name"] ["self", "name"] (defScope sBadName___init__) := ⟨rfl, rfl, rfl, by decide +kernel, rfl, by decide +kernel, by decide +kernel⟩
section
variable {P : Program} {w : World} {K : PySem.W.Frag} {mg : Str → Option Value} {base : Heap} {C : Addr}
/-! ### the error -/
theorem ok_BadName_init {k : Nat} {f : Addr} {fd : FuncData} (F : Fun K "__init__" "BadName.__init__" sBadName___init__ f fd) : FnOk P w K mg base CX0 (k + 1) f fd ["self", "name"] (spInit1 K "name") := by
  refine F.ok scBadName___init__ (fun vs H Q E h => ?_) (fun cdv A outer s H vs Q E hr h => ?_)
  · obtain ⟨a, C, v, rfl, _⟩ := h; rfl
  · obtain ⟨a, C, v, rfl, ox, nf, ha, h⟩ := h
    refine ⟨_, (pss_one (ps_ost (pv 0) (pv 1))), ?_⟩
    exact ⟨v, rfl, .ref a, rfl, a, C, rfl, ox, nf, .inl ⟨ha, h⟩⟩
end
abbrev sis_name : Stmt := topS 12
theorem scis_name : FnScope ["text", "sign"] ["text"] (defScope sis_name) := ⟨rfl, rfl, rfl, by decide +kernel, rfl, by decide +kernel, by decide +kernel⟩
section
variable {P : Program} {w : World} {K : PySem.W.Frag} {mg : Str → Option Value} {base : Heap} {C : Addr}
/-! ### is_name -/
theorem ok_p_is_name {k : Nat} {f : Addr} {fd : FuncData} (F : Fun K "is_name" "is_name" sis_name f fd) (T : Blt mg) : FnOk P w K mg base CX0 (k + 1) f fd ["text"] spIsName := by
  refine F.ok scis_name (fun vs H Q E h => ?_) (fun cdv A outer s H vs Q E hr h => ?_)
  · obtain ⟨z, rfl, _⟩ := h; rfl
  · obtain ⟨z, rfl, hz, h⟩ := h
    have h0 := h H (Same.refl H)
    refine ⟨_, (pss_cons (ps_if (PW.pt (pw_or (pt_cmpR op_lt (pe_callB call_len_str (by rfl) T.len (by decide +kernel) (pa_cons (pv 0) pa_nil)) pe_int (nomark _)) (pw_or1 (pt_cmpR op_gt (pe_callB call_len_str (by rfl) T.len (by decide +kernel) (pa_cons (pv 0) pa_nil)) (pe_globI rfl T.g_LONGEST_NAME) (nomark _))))) (pss_one (ps_ret pe_bl)) pss_nil)
 (pss_one (ps_ret (pe_and (pe_cmpR op_in_sign (pe_ix ix_str (pv 0) pe_int (fun _ _ => rfl)) (pe_globS rfl T.g_LETTERS) (by rfl)) (pe_one (pe_callB (cr_all rfl) (by rfl) T.all (by decide +kernel) (pa_cons (pe_lc (own := [("sign", 1)]) (g := gName 1) (by rfl) scis_name.nd (pi_str (pv 0)) (blkOk_by (own := [("sign", 1)]) (N := ["text", "sign"]) (sc := defScope sis_name) (by decide +kernel)) (fun _ _ _ _ _ => pg_name (i := 1) scis_name.nd rfl (Or.inl rfl)) (fun _ _ _ _ _ => pts_nil) (fun _ _ _ _ _ => (pe_cmpR op_in_sign (pv 1) (pe_globS rfl T.g_LETTERS_AND_DIGITS) (by rfl)))) pa_nil))))))), ?_⟩
    walk_at "rdB"
    refine ⟨sz (by omega), ?_⟩
    walk_at "rdB"
    refine if_dec (fun h1 => ?_) (fun h1 => ?_)
    · walk_at "rdB"
      rw [isNm_zero (by omega)] at h0
      exact h0
    · walk_at "rdB"
      refine ⟨sz (by omega), ?_⟩
      obtain ⟨c, l, e⟩ : ∃ c l, z.cps.toList = c :: l := by
        cases e : z.cps.toList with
        | nil => have := len_l z; rw [e] at this; simp at this; omega
        | cons c l => exact ⟨c, l, rfl⟩
      have en := isNm_of e
      rw [en] at h h0
      walk_at "rdB"
      refine if_dec (fun h8 => ?_) (fun h8 => ?_)
      · walk_at "rdB"
        rw [decide_eq_false (by omega)] at h0
        exact h0
      · rw [decide_eq_true (by omega : z.length ≤ 8), Bool.true_and] at h h0
        walk_at "rdB"
        refine rd_ixS (c := c) (by omega) (by rw [e]; exact atI_zero) ?_
        walk_at "rdB"
        refine rd_inS ?_
        walk_at "rdB"
        refine if_dec (fun hc => ?_) (fun hc => ?_)
        · walk_at "rdB"
          rw [show decide (c ∈ lets.cps.toList) = true from decide_eq_true hc, Bool.true_and] at h
          refine fun D nD => lc_sgn (fun i H' => H' = upd H D (.lst ((z.cps.toList.take i).map fun d => V.bl (decide (d ∈ letsD.cps.toList))))) rfl ?_ ?_
          · rintro i d H1 hd rfl
            refine ⟨rfl, ?_⟩
            walk_at "rdB"
            refine rd_inS ?_
            walk_at "rdB"
            refine ⟨_, upd_same, ?_, ?_⟩
            · rw [List.length_map, List.length_take, len_l]
              exact Nat.lt_of_le_of_lt (by omega : _ ≤ 1000) (by decide)
            · rw [upd_upd, List.take_add_one, hd, List.map_append]; rfl
          · rintro H1 rfl
            refine ⟨D, z.cps.toList.map fun d => decide (d ∈ letsD.cps.toList), rfl, sl_of ?_, ?_⟩
            · rw [upd_same, ← len_l, List.take_length, List.map_map]; rfl
            · rw [List.all_map]
              exact h _ (same_new nD)
        · walk_at "rdB"
          rw [show decide (c ∈ lets.cps.toList) = false from decide_eq_false hc] at h0
          exact h0
end

abbrev sDoubled___init__ : Stmt := inClass (topS 4) 0
theorem scDoubled___init__ : FnScope ["self", "name"] ["self", "name"] (defScope sDoubled___init__) := ⟨rfl, rfl, rfl, by decide +kernel, rfl, by decide +kernel, by decide +kernel⟩
abbrev scheck_name : Stmt := topS 13
theorem sccheck_name : FnScope ["text"] ["text"] (defScope scheck_name) := ⟨rfl, rfl, rfl, by decide +kernel, rfl, by decide +kernel, by decide +kernel⟩
abbrev scheck_unlike : Stmt := topS 7
theorem sccheck_unlike : FnScope ["items", "seen", "item"] ["items"] (defScope scheck_unlike) := ⟨rfl, rfl, rfl, by decide +kernel, rfl, by decide +kernel, by decide +kernel⟩
abbrev sordered : Stmt := topS 14
theorem scordered : FnScope ["names", "name"] ["names"] (defScope sordered) := ⟨rfl, rfl, rfl, by decide +kernel, rfl, by decide +kernel, by decide +kernel⟩
local macro_rules | `(tactic| walk_at "sideD") => `(tactic| first | assumption | exact Z.sl_of (by assumption) | exact upd_same | (show (0 : Int) < _; omega) | exact Or.inl ⟨by omega, by omega⟩ | exact Or.inr ⟨by omega, by omega⟩)
local macro_rules | `(tactic| walk_at "tyofD") => `(tactic| first | exact TyOf.int _ | exact TyOf.bl _ | exact TyOf.non | exact TyOf.str _ | (apply TyOf.lst; assumption) | (apply TyOf.tup; assumption))
local macro_rules | `(tactic| walk_at "rd1D") => `(tactic| first
  | with_reducible first
    | refine rd_seq ?_ | refine rd_asg ?_ | refine rd_c ?_ | refine rd_op ?_ | refine rd_cons ?_ | refine rd_nil ?_ | refine rd_cb ?_ | refine rd_call ?_ | refine rd_I0 ?_ | refine rd_eqI ?_ | refine rd_bx ?_ | refine rd_nn ?_ | refine rd_int1 ?_ | refine rd_max2 ?_ | refine rd_min2 ?_
    | refine rd_ret ?_ | refine rd_ifS ?_ | refine rd_test ?_ | refine rd_tB ?_ | refine rd_not ?_ | refine rd_and ?_ | refine rd_or ?_ | refine rd_un ?_ | refine rd_U ?_ | refine rd_next ?_ | refine rd_drop ?_ | refine rd_andV ?_ | refine rd_orV ?_ | refine rd_notV ?_ | refine rd_if ?_ | refine rd_neI ?_
    | refine rd_lst ?_ | refine rd_tup ?_ | refine rd_sl ?_ | refine rd_bm ?_ | refine rd_chain ?_ | refine rd_asgS ?_ | refine iteT ?_ | refine iteF ?_ | refine if_nn ?_ | refine if_nf ?_ | refine if_nt ?_ | refine if_nnN ?_ | refine if_n_int ?_ | refine if_n_bl ?_ | refine if_n_str ?_ | refine if_n_ref ?_ | refine if_nN_int ?_ | refine if_nN_bl ?_ | refine if_nN_str ?_ | refine if_nN_ref ?_ | refine rd_eqB ?_ | refine rd_eqS ?_ | refine rd_neB ?_ | refine rd_part ?_ | refine rd_nopart ?_ | refine rd_for ?_ | refine rd_iRng1 ?_ | refine rd_iList ?_ | refine rd_iTup ?_ | refine rd_lc ?_ | refine rd_callS ?_ | refine rd_callKS ?_ | refine rd_mkO ?_ | refine rd_ckw ?_ | refine rd_xf ?_
    | refine rd_p9 ?_ | refine rd_p11 ?_ | refine rd_p12 ?_ | refine rd_p13 ?_ | refine rd_p18 ?_ | refine rd_p30 ?_ | refine rd_p40 ?_ | refine rd_ss ?_ | refine rd_s1 ?_ | refine rd_i1 ?_ | refine rd_fld ?_ | refine rd_sfld ?_ | refine rd_make ?_ | refine rd_makeS ?_ | refine rd_lrv ?_ | refine rd_dnewK ?_ | refine rd_dput ?_ | refine rd_dnotin ?_ | refine rd_yes ?_ | refine rd_callNS ?_ | refine rd_callSD ?_ | refine rd_ii ?_ | refine rd_si ?_ | refine rd_iStr ?_ | refine rd_iSeq ?_ | refine rd_raise ?_ | refine rd_pass ?_
  | ((with_reducible refine rd_var (v := ?v) ?hv ?_); (case hv => exact rfl))
  | ((with_reducible refine rd_setS (j := ?j) ?he ?_); (case he => exact rfl))
  | ((with_reducible refine rd_isi (a := ?a) (b := ?b) ?ty ?k ?_); (case ty => first | exact TyOf.int _ | exact TyOf.bl _ | exact TyOf.non | exact TyOf.str _); (case k => with_reducible first | exact kb_int_int | exact kb_int_bool | exact kb_int_str | exact kb_int_dict | exact kb_int_list | exact kb_int_tuple | exact kb_bool_int | exact kb_bool_bool | exact kb_bool_str | exact kb_bool_dict | exact kb_bool_list | exact kb_bool_tuple | exact kb_NoneType_int | exact kb_NoneType_bool | exact kb_NoneType_str | exact kb_NoneType_dict | exact kb_NoneType_list | exact kb_NoneType_tuple | exact kb_str_int | exact kb_str_bool | exact kb_str_str | exact kb_str_dict | exact kb_str_list | exact kb_str_tuple))
  | ((with_reducible refine rd_isiL (b := ?b) (by assumption) ?k ?_); (case k => with_reducible first | exact kb_list_int | exact kb_list_bool | exact kb_list_str | exact kb_list_dict | exact kb_list_list | exact kb_list_tuple))
  | ((with_reducible refine rd_isiT (b := ?b) (by assumption) ?k ?_); (case k => with_reducible first | exact kb_tuple_int | exact kb_tuple_bool | exact kb_tuple_str | exact kb_tuple_dict | exact kb_tuple_list | exact kb_tuple_tuple))
  | ((with_reducible refine rd_I ?hc ?_); (case hc => walk_at "sideD"))
  | ((with_reducible refine rd_ixL (xs := ?xs) (v := ?v) ?hh ?he ?_); (case hh => first | exact upd_same | assumption); (case he => exact rfl)))
local macro_rules | `(tactic| walk_at "rdD") => `(tactic| repeat walk_at "rd1D")

section
variable {P : Program} {w : World} {K : PySem.W.Frag} {mg : Str → Option Value} {base : Heap} {C CD : Addr}
def ErrN (E : XK) (C : Addr) (H : Hp) (v : V) : Prop := ∀ d H', Same H H' → H' d = some (.xd [("name", v)]) → E (.ref C) (some d) H'
theorem ErrN.same {E : XK} {C : Addr} {H H' : Hp} {v : V} (h : ErrN E C H v) (s : Same H H') : ErrN E C H' v := fun d H2 s2 e => h d H2 (s.trans s2) e
theorem ok_Doubled_init {k : Nat} {f : Addr} {fd : FuncData} (F : Fun K "__init__" "Doubled.__init__" sDoubled___init__ f fd) : FnOk P w K mg base CX0 (k + 1) f fd ["self", "name"] (spInit1 K "name") := by
  refine F.ok scDoubled___init__ (fun vs H Q E h => ?_) (fun cdv A outer s H vs Q E hr h => ?_)
  · obtain ⟨a, C, v, rfl, _⟩ := h; rfl
  · obtain ⟨a, C, v, rfl, ox, nf, ha, h⟩ := h
    refine ⟨_, (pss_one (ps_ost (pv 0) (pv 1))), ?_⟩
    exact ⟨v, rfl, .ref a, rfl, a, C, rfl, ox, nf, .inl ⟨ha, h⟩⟩
def spCheckName (C : Addr) : Sp := fun vs H Q E => ∃ z : Str, vs = [.str z] ∧ z.length ≤ 1000 ∧ (isNm z = true → ∀ H', Same H H' → Q (.str z) H') ∧ (isNm z = false → ErrN E C H (.str z))
theorem ok_check_name {k : Nat} {f : Addr} {fd : FuncData} (F : Fun K "check_name" "check_name" scheck_name f fd) (T : Blt mg) (E_BadName : ErrC K mg "BadName" C) (I_BadName : HasI P w K mg base C 1 ["self", "name"] (spInit1 K "name")) (N_BadName_name : PySem.W.findIn K (.ref C) "name" = some none)
    (His_name : Has P w K mg base "is_name" k ["text"] spIsName) (hk : 2 ≤ k) : FnOk P w K mg base (L2.CX P w) (k + 1) f fd ["text"] (spCheckName C) := by
  refine F.okX sccheck_name (fun vs H Q E h => ?_) (fun cdv A outer s H vs Q E hr h => ?_)
  · obtain ⟨v, rfl, _⟩ := h; rfl
  · obtain ⟨z, rfl, hz, h1, h2⟩ := h
    refine ⟨_, (pss_cons (ps_if (pt_not (pt_val (pe_callH His_name hr (by rfl) (pa_cons (pv 0) pa_nil)))) (pss_one (ps_raiseC rfl (takes_of rfl rfl rfl rfl) E_BadName I_BadName hr (by omega) (by rfl) (pa_cons (pv 0) pa_nil))) pss_nil)
 (pss_one (ps_ret (pv 0)))), ?_⟩
    walk_at "rdD"
    refine ⟨z, rfl, hz, fun H1 s1 => ?_⟩
    walk_at "rdD"
    refine if_nbool (fun hn => ?_) (fun hn => ?_)
    · walk_at "rdD"
      exact rd_mk1 E_BadName.ox N_BadName_name fun d H' nd sm e => h2 hn d H' (s1.trans sm) e
    · walk_at "rdD"
      exact h1 hn H1 s1
def spCheckUnlike (CD : Addr) : Sp := fun vs H Q E => ∃ a, ∃ U : List Str, vs = [.ref a] ∧ Strs H a U ∧ U.length ≤ 2000 ∧ (firstDup [] U = none → ∀ H', Same H H' → Q .non H') ∧ (∀ z, firstDup [] U = some z → ErrN E CD H (.str z))
theorem ok_check_unlike {k : Nat} {f : Addr} {fd : FuncData} (F : Fun K "check_unlike" "check_unlike" scheck_unlike f fd) (T : Blt mg) (E_Doubled : ErrC K mg "Doubled" CD) (I_Doubled : HasI P w K mg base CD 1 ["self", "name"] (spInit1 K "name")) (N_Doubled_name : PySem.W.findIn K (.ref CD) "name" = some none) (hk : 2 ≤ k) : FnOk P w K mg base (L2.CX P w) (k + 1) f fd ["items"] (spCheckUnlike CD) := by
  refine F.okX sccheck_unlike (fun vs H Q E h => ?_) (fun cdv A outer s H vs Q E hr h => ?_)
  · obtain ⟨a, U, rfl, _⟩ := h; rfl
  · obtain ⟨a, U, rfl, hA, hl, h1, h2⟩ := h
    refine ⟨_, (pss_cons (ps_set (i := 1) sccheck_unlike.nd rfl (.inl rfl) (pe_callTy0 cr_set0K (by rfl) T.set (by decide +kernel)))
 (pss_one (ps_for (passes_of rfl) rfl (pi_seq (pv 0)) (pg_name (i := 2) sccheck_unlike.nd rfl (.inl rfl)) (pss_cons (ps_if (pt_cmpR or_sinK (pv 2) (pv 1) (by rfl)) (pss_one (ps_raiseC rfl (takes_of rfl rfl rfl rfl) E_Doubled I_Doubled hr (by omega) (by rfl) (pa_cons (pv 2) pa_nil))) pss_nil)
 (pss_one (ps_expr (pe_saddK (pv 1) (pa_cons (pv 2) pa_nil)))))))), ?_⟩
    walk_at "rdD"
    refine ⟨rfl, fun p np => ?_⟩
    walk_at "rdD"
    have sp := same_new (o := SetK P w p (fun _ => false) 0) np
    refine ⟨a, rfl, for_strs (hA.same sp) (fun i σ H' => ∃ y, ∃ Sx : Key → Bool, ∃ n, σ = [some (.ref a), some (.ref p), y] ∧ H' p = some (SetK P w p Sx n) ∧ n ≤ i ∧ (∀ x : Str, Sx (.inr x) = decide (x ∈ U.take i)) ∧ firstDup (U.take i) (U.drop i) = firstDup [] U ∧ Same H H') ⟨_, _, _, rfl, upd_same, Nat.le_refl _, by simp, rfl, sp⟩ ?_ ?_ ?_⟩
    · rintro i σ H' ⟨y, Sx, n, rfl, _, _, _, _, sm⟩
      intro o ho
      rcases hA with hA | hA <;> (obtain rfl := Option.some.inj ((sp _ _ hA).symm.trans ho); exact sm _ _ hA)
    · rintro i z σ H' hz ⟨y, Sx, n, rfl, hp, hn, hS, hD, sm⟩
      have hil : i < U.length := (List.getElem?_eq_some_iff.mp hz).1
      rw [dup_step hz] at hD
      walk_at "rdD"
      refine ⟨.inr z, p, Sx, n, rfl, rfl, hp, ?_⟩
      refine ⟨Sx (.inr z), rfl, ?_⟩
      rw [hS z]
      refine if_dec (fun hin => ?_) (fun hout => ?_)
      · rw [if_pos hin] at hD
        refine rd_mkO ?_
        walk_at "rdD"
        exact rd_mk1 E_Doubled.ox N_Doubled_name fun d H2 nd s2 e => h2 z hD.symm d H2 (sm.trans s2) e
      · rw [if_neg hout] at hD
        walk_at "rdD"
        refine ⟨.ref p, rfl, ⟨p, Sx, n, rfl, hp⟩, .str z, rfl, p, .inr z, Sx, n, rfl, rfl, hp, Nat.lt_of_le_of_lt (by omega : n + 1 ≤ 2000) (by decide), ?_⟩
        walk_at "rdD"
        refine ⟨_, _, _, rfl, upd_same, ?_, fun x => ?_, hD, same_mut sm np⟩
        · split <;> omega
        · exact (congrArg (fun b => b || decide ((Sum.inr x : Key) = Sum.inr z)) (hS x)).trans (take_mem x hz)
    · rintro σ H' ⟨y, Sx, n, rfl, hp, hn, hS, hD, sm⟩
      rw [dup_end] at hD
      exact h1 hD.symm H' sm
/-! ### ordered -/
def spOrdered (C CD : Addr) : Sp := fun vs H Q E => ∃ a, ∃ U : List Str, vs = [.ref a] ∧ Strs H a U ∧ U.length ≤ 2000 ∧ (∀ z ∈ U, z.length ≤ 1000) ∧ (∀ z, firstBad U = some z → ErrN E C H (.str z)) ∧ (∀ z, firstBad U = none → firstDup [] U = some z → ErrN E CD H (.str z)) ∧
  (firstBad U = none → firstDup [] U = none → ∀ (ys : List Str) (p : Addr) (H' : Hp), ys.Perm U → ys.Pairwise (fun x y => ¬ ltS y x) → Same H H' → H p = none → H' p = some (.lst (ys.map V.str)) → Q (.ref p) H')
theorem ok_ordered {k : Nat} {f : Addr} {fd : FuncData} (F : Fun K "ordered" "ordered" sordered f fd) (T : Blt mg) (Hcheck_name : HasX P w K mg base "check_name" k ["text"] (spCheckName C)) (Hcheck_unlike : HasX P w K mg base "check_unlike" k ["items"] (spCheckUnlike CD)) : FnOk P w K mg base (L2.CX P w) (k + 1) f fd ["names"] (spOrdered C CD) := by
  refine F.okX scordered (fun vs H Q E h => ?_) (fun cdv A outer s H vs Q E hr h => ?_)
  · obtain ⟨a, U, rfl, _⟩ := h; rfl
  · obtain ⟨a, U, rfl, hA, hl, hzl, h1, h2, h3⟩ := h
    refine ⟨_, (pss_cons (ps_for (passes_of rfl) rfl (pi_seq (pv 0)) (pg_name (i := 1) scordered.nd rfl (.inl rfl)) (pss_one (ps_expr (pe_callX Hcheck_name hr (by rfl) (takes_of rfl rfl rfl rfl) (pa_cons (pv 1) pa_nil)))))
 (pss_cons (ps_expr (pe_callX Hcheck_unlike hr (by rfl) (takes_of rfl rfl rfl rfl) (pa_cons (pv 0) pa_nil)))
 (pss_one (ps_ret (pe_callB cr_sortedX (by rfl) T.sorted (by decide +kernel) (pa_cons (pv 0) pa_nil)))))), ?_⟩
    walk_at "rdD"
    refine ⟨a, rfl, for_strs hA (fun i σ H' => ∃ y, σ = [some (.ref a), y] ∧ firstBad (U.drop i) = firstBad U ∧ Same H H') ⟨_, rfl, rfl, Same.refl _⟩ ?_ ?_ ?_⟩
    · rintro i σ H' ⟨y, rfl, _, sm⟩
      exact fun o => sm _ _
    · rintro i z σ H' hz ⟨y, rfl, hB, sm⟩
      rw [bad_step hz] at hB
      walk_at "rdD"
      refine ⟨z, rfl, hzl z (List.mem_of_getElem? hz), fun hn H2 s2 => ?_, fun hn => ?_⟩
      · rw [if_pos hn] at hB
        walk_at "rdD"
        exact ⟨_, rfl, hB, sm.trans s2⟩
      · rw [if_neg (by rw [hn]; simp)] at hB
        exact (h1 z hB.symm).same sm
    · rintro σ H' ⟨y, rfl, hB, sm⟩
      rw [bad_end] at hB
      walk_at "rdD"
      refine ⟨a, U, rfl, hA.same sm, hl, fun hd H2 s2 => ?_, fun z hd => (h2 z hB.symm hd).same sm⟩
      have sm2 := sm.trans s2
      walk_at "rdD"
      refine ⟨a, U, rfl, (hA.same sm2).seq, fun ys p hp hs np => ?_⟩
      exact h3 hB.symm hd ys p _ hp hs (sm2.trans (same_new np)) (sm2.free np) upd_same
end

abbrev s_law_unused : Stmt := topS 22
theorem sc_law_unused : FnScope ["used", "k"] ["used"] (defScope s_law_unused) := ⟨rfl, rfl, rfl, by decide +kernel, rfl, by decide +kernel, by decide +kernel⟩
abbrev s_law_fresh_names : Stmt := topS 23
theorem sc_law_fresh_names : FnScope ["store", "many", "used", "names", "k", "name"] ["store", "many", "used"] (defScope s_law_fresh_names) := ⟨rfl, rfl, rfl, by decide +kernel, rfl, by decide +kernel, by decide +kernel⟩
abbrev s_law_names : Stmt := topS 24
theorem sc_law_names : FnScope ["store", "many", "letters", "family", "start", "stem", "at", "names", "k", "name"] ["store", "many"] (defScope s_law_names) := ⟨rfl, rfl, rfl, by decide +kernel, rfl, by decide +kernel, by decide +kernel⟩

theorem strs_of {ns : List Str} : ∀ {ys : List V}, (∀ y ∈ ys, y ∈ ns.map V.str) → ∃ ms : List Str, ys = ms.map V.str ∧ ∀ m ∈ ms, m ∈ ns
  | [], _ => ⟨[], rfl, fun _ h => by cases h⟩
  | y :: ys, h => by
    obtain ⟨ms, e, hm⟩ := strs_of (ys := ys) fun z hz => h z (List.mem_cons_of_mem _ hz)
    obtain ⟨n, hn, rfl⟩ := List.mem_map.mp (h y List.mem_cons_self)
    refine ⟨n :: ms, by rw [e]; rfl, fun m hm' => ?_⟩
    rcases List.mem_cons.mp hm' with h1 | h1
    · rw [h1]; exact hn
    · exact hm m h1
theorem num_ex {st : Int} {i : Nat} (hi : i ≤ 30) : ∃ n : Nat, st % 4 + 7 + (i : Int) * (1 + st % 3) = n ∧ n ≤ 200 := by
  have h4 := Int.emod_nonneg st (by decide : (4 : Int) ≠ 0)
  have h5 := Int.emod_lt_of_pos st (by decide : (0 : Int) < 4)
  obtain e | e | e : st % 3 = 0 ∨ st % 3 = 1 ∨ st % 3 = 2 := by omega
  all_goals refine ⟨(st % 4 + 7 + (i : Int) * (1 + st % 3)).toNat, ?_, ?_⟩
  all_goals rw [e]
  all_goals omega
theorem mul_ok {n : Nat} {z : Str} {k : Int} (h : OkS n z) (k0 : 0 ≤ k) {j m : Nat} (hk : k ≤ j) (hm : n * j ≤ m) : OkS m (Txt.mul z k) := by
  unfold Txt.mul
  split
  · exact (show OkS 0 Str.empty from by decide +kernel).mono (Nat.zero_le _)
  · rename_i h1
    have hj : 1 ≤ j := by omega
    split
    · exact h.mono (Nat.le_trans (by simpa using Nat.mul_le_mul (Nat.le_refl n) hj) hm)
    · refine okS_iff.mpr ⟨?_, fun c hc => ?_⟩
      · show ((List.replicate k.toNat z.cps).foldl (· ++ ·) #[]).size ≤ m
        rw [size_reps]
        have h2 : k.toNat ≤ j := by omega
        have h3 := h.len
        have h4 : z.cps.size ≤ n := h3
        have := Nat.mul_le_mul h2 h4
        rw [Nat.mul_comm n j] at hm
        simp only [Array.size_empty]
        omega
      · have key : ∀ (q : Nat) (acc : Array Nat), (∀ c ∈ acc.toList, c < 128) → ∀ c ∈ ((List.replicate q z.cps).foldl (· ++ ·) acc).toList, c < 128 := by
          intro q
          induction q with
          | zero => intro acc ha c hc; exact ha c hc
          | succ q ih =>
            intro acc ha
            rw [List.replicate_succ, List.foldl_cons]
            refine ih _ fun c hc => ?_
            rw [Array.toList_append] at hc
            rcases List.mem_append.mp hc with a | a
            · exact ha c a
            · exact (okS_iff.mp h).2 c a
        exact key k.toNat #[] (by simp) c hc
theorem ite_f {b : Bool} {A B : Prop} (e : b = false) (h : B) : if b = true then A else B := by rw [e]; exact iteF h
theorem ite_t {b : Bool} {A B : Prop} (e : b = true) (h : A) : if b = true then A else B := by rw [e]; exact iteT h
section
variable {P : Program} {w : World} {K : PySem.W.Frag} {mg : Str → Option Value} {base : Heap} {C CD : Addr}
/-! ### _law_unused -/
def spUnused : Sp := fun vs H Q _ => ∃ a, ∃ U : List Str, vs = [.ref a] ∧ H a = some (.lst (U.map V.str)) ∧ U.length ≤ 1000 ∧ ∀ z H', OkS 10 z → Same H H' → Q (.str z) H'
theorem ok_unused {k : Nat} {f : Addr} {fd : FuncData} (F : Fun K "_law_unused" "_law_unused" s_law_unused f fd) (T : Blt mg) : FnOk P w K mg base CX0 (k + 1) f fd ["used"] spUnused := by
  refine F.ok sc_law_unused (fun vs H Q E h => ?_) (fun cdv A outer s H vs Q E hr h => ?_)
  · obtain ⟨a, U, rfl, _⟩ := h; rfl
  · obtain ⟨a, U, rfl, hA, hl, h⟩ := h
    refine ⟨_, (pss_cons (ps_for PassesOwn.never rfl (pi_range1 rfl T.range (pa_cons (pe_op op_add (pe_callB call_len_seq (by rfl) T.len (by decide +kernel) (pa_cons (pv 0) pa_nil)) pe_int) pa_nil)) (pg_name (i := 1) sc_law_unused.nd rfl (.inl rfl)) (pss_one (ps_if (pt_cmpR op_notIn_seq (pe_op op_add_str pe_str (pe_callTy call_str_int (by rfl) T.str (by decide +kernel) (pa_cons (pv 1) pa_nil))) (pv 0) (by rfl)) (pss_one (ps_ret (pe_op op_add_str pe_str (pe_callTy call_str_int (by rfl) T.str (by decide +kernel) (pa_cons (pv 1) pa_nil))))) pss_nil)))
 (pss_one (ps_ret pe_str))), ?_⟩
    have hx : OkS 1 ("x" : Str) := by decide +kernel
    walk_at "rdD"
    refine ⟨a, _, rfl, .inl (sl_of hA), ?_⟩
    walk_at "rdD"
    rw [List.length_map]
    refine ⟨by omega, by omega, for_rng (fun i σ H' => ∃ y, σ = [some (.ref a), y] ∧ H' = H) ⟨_, rfl, rfl⟩ ?_ ?_⟩
    · rintro i σ H' hi ⟨y, rfl, rfl⟩
      have hni := numS_len (n := i) (by omega)
      have h1 := hx.len
      have ok := hx.app (OkS.num (n := i) (by omega)) (by omega : 1 + 5 ≤ 10)
      walk_at "rdD"
      refine ⟨log_ok (by omega), ?_⟩
      walk_at "rdD"
      refine ⟨sz (by show ("x" : Str).length + (numS i).length ≤ 100000; omega), ?_⟩
      walk_at "rdD"
      refine ⟨a, _, rfl, .inl (sl_of hA), rfl, flat_strs _, ?_⟩
      refine ⟨_, rfl, ?_⟩
      refine if_bool (fun _ => ?_) (fun _ => ?_)
      · walk_at "rdD"
        refine ⟨log_ok (by omega), ?_⟩
        walk_at "rdD"
        refine ⟨sz (by show ("x" : Str).length + (numS i).length ≤ 100000; omega), ?_⟩
        exact h _ _ ok (Same.refl _)
      · walk_at "rdD"
        exact ⟨_, rfl, rfl⟩
    · rintro σ H' ⟨y, rfl, rfl⟩
      walk_at "rdD"
      exact h _ _ (hx.mono (by omega)) (Same.refl _)
/-! ### _law_fresh_names -/
def spFreshNames : Sp := fun vs H Q _ => ∃ S : Sto, ∃ m : Nat, ∃ b, vs = [.ref S.1, .int m, .ref b] ∧ m ≤ 30 ∧ StoreOk S H ∧ At S H b (.lst []) ∧
  ∀ (p : Addr) (U : List Str) (H' : Hp), (∀ z ∈ U, OkS 40 z) → U.length ≤ 30 → H p = none → At S H' p (.lst (U.map V.str)) → StoreOk S H' → ExS S H H' → Q (.ref p) H'
theorem ok_fresh_names {k : Nat} {f : Addr} {fd : FuncData} (F : Fun K "_law_fresh_names" "_law_fresh_names" s_law_fresh_names f fd) (T : Blt mg) (H_law_name : Has P w K mg base "_law_name" k ["store"] spName) (H_law_unused : Has P w K mg base "_law_unused" k ["used"] spUnused) : FnOk P w K mg base CX0 (k + 1) f fd ["store", "many", "used"] spFreshNames := by
  refine F.ok sc_law_fresh_names (fun vs H Q E h => ?_) (fun cdv A outer s H vs Q E hr h => ?_)
  · obtain ⟨S, m, b, rfl, _⟩ := h; rfl
  · obtain ⟨S, m, b, rfl, hm, hS, hb, h⟩ := h
    refine ⟨_, (pss_cons (ps_set (i := 3) sc_law_fresh_names.nd rfl (.inl rfl) (pe_lst pa_nil))
 (pss_cons (ps_for PassesOwn.never rfl (pi_range1 rfl T.range (pa_cons (pv 1) pa_nil)) (pg_name (i := 4) sc_law_fresh_names.nd rfl (.inl rfl)) (pss_cons (ps_set (i := 5) sc_law_fresh_names.nd rfl (.inl rfl) (pe_callH H_law_name hr (by rfl) (pa_cons (pv 0) pa_nil)))
 (C8.pss_cut (ps_if (PW.pt (pw_or (pt_cmpR op_in_seq (pv 5) (pv 2) (by rfl)) (pw_or1 (pt_cmpR op_in_seq (pv 5) (pv 3) (by rfl))))) (pss_one (ps_set (i := 5) sc_law_fresh_names.nd rfl (.inl rfl) (pe_callH H_law_unused hr (by rfl) (pa_cons (pe_op op_cat (pe_callTy call_list_of (by rfl) T.list' (by decide +kernel) (pa_cons (pv 2) pa_nil)) (pv 3)) pa_nil)))) pss_nil)
 (pss_one (ps_expr (pe_bm PySem.F.plainAttrs_list PySem.F.slot_list_append PySem.F.type_list_append mt_append (pv 3) (pa_cons (pv 5) pa_nil)))))))
 (pss_one (ps_ret (pv 3))))), ?_⟩
    walk_at "rdD"
    refine ⟨sz (by simp), fun p np => ?_⟩
    have p1 := hS.ne1 np
    have p2 := hS.ne2 np
    walk_at "rdD"
    refine ⟨by omega, by omega, for_rng (fun i σ H' => ∃ y y2, ∃ U : List Str, σ = [some (.ref S.1), some (.int m), some (.ref b), some (.ref p), y, y2] ∧ (∀ z ∈ U, OkS 40 z) ∧ U.length = i ∧ H' p = some (.lst (U.map V.str)) ∧ StoreOk S H' ∧ ExS S H H') ⟨_, _, [], rfl, by simp, rfl, upd_same, hS.new np, ExS.new np⟩ ?_ ?_⟩
    · rintro i σ H' hi ⟨y, y2, U, rfl, hU, lU, hp, hS', e'⟩
      have hi : i < m := by simpa using hi
      walk_at "rdD"
      refine ⟨S, rfl, hS', fun z H2 hz hS2 e2 => ?_⟩
      have hz8 := OkS.nm hz
      have hp2 := e2 _ _ p1 hp
      have hb2 := (hb.back e').back e2
      have e2' := e'.trans e2
      walk_at "rdD"
      refine rd_cut (fun σ' H3 => ∃ z, σ' = [some (.ref S.1), some (.int m), some (.ref b), some (.ref p), some (.int i), some (.str z)] ∧ OkS 40 z ∧ H3 p = some (.lst (U.map V.str)) ∧ StoreOk S H3 ∧ ExS S H H3) ?_ ?_
      · walk_at "rdD"
        refine ⟨b, [], rfl, .inl (sl_of hb2.2), rfl, rfl, _, rfl, ?_⟩
        walk_at "rdD"
        refine ite_f rfl ?_
        walk_at "rdD"
        refine ⟨p, _, rfl, .inl (sl_of hp2), rfl, flat_strs _, _, rfl, ?_⟩
        refine if_bool (fun _ => ?_) (fun _ => ?_)
        · walk_at "rdD"
          refine ⟨b, _, rfl, .inl (sl_of hb2.2), fun l nl => ?_⟩
          have l1 := hS2.ne1 nl
          have hp3 := same_new (o := .lst []) nl _ _ hp2
          walk_at "rdD"
          refine ⟨l, p, _, _, rfl, rfl, upd_same, hp3, sz (by simp; omega), fun l' nl' => ?_⟩
          have sm := (same_new (o := .lst []) nl).trans (same_new (o := .lst ([] ++ U.map V.str)) nl')
          walk_at "rdD"
          refine ⟨l', U, rfl, upd_same, by omega, fun z2 H3 hz2 s3 => ?_⟩
          walk_at "rdD"
          exact ⟨z2, rfl, hz2.mono (by omega), (sm.trans s3) _ _ hp2, hS2.same (sm.trans s3), e2'.trans (same_ex (sm.trans s3))⟩
        · walk_at "rdD"
          exact ⟨z, rfl, hz8.mono (by omega), hp2, hS2, e2'⟩
      · rintro σ' H3 ⟨z, rfl, hz, hp3, hS3, e3⟩
        walk_at "rdD"
        refine ⟨.inl ⟨rfl, _, .inl (.inl hp3)⟩, ?_⟩
        walk_at "rdD"
        refine ⟨p, _, _, rfl, rfl, hp3, by rw [List.length_map]; exact Nat.lt_of_le_of_lt (by omega : U.length ≤ 30) (by decide), ?_⟩
        refine ⟨_, _, U ++ [z], rfl, fun x hx => ?_, by rw [List.length_append, lU]; rfl, by rw [upd_same, List.map_append]; rfl, store_upd hS3 p1 p2, e3.mut np⟩
        rcases List.mem_append.mp hx with q | q
        · exact hU x q
        · rw [List.mem_singleton.mp q]; exact hz
    · rintro σ H' ⟨y, y2, U, rfl, hU, lU, hp, hS', e'⟩
      walk_at "rdD"
      exact h p U H' hU (by simp at lU; omega) np ⟨p1, hp⟩ hS' e'
/-! ### _law_names -/
def spNames : Sp := fun vs H Q _ => ∃ S : Sto, ∃ m : Nat, vs = [.ref S.1, .int m] ∧ m ≤ 30 ∧ StoreOk S H ∧
  ∀ (p : Addr) (U : List Str) (H' : Hp), (∀ z ∈ U, OkS 40 z) → U.length ≤ 30 → H p = none → At S H' p (.lst (U.map V.str)) → StoreOk S H' → ExS S H H' → Q (.ref p) H'
theorem ok_names {k : Nat} {f : Addr} {fd : FuncData} (F : Fun K "_law_names" "_law_names" s_law_names f fd) (T : Blt mg) (H_law_take : Has P w K mg base "_law_take" k ["store", "many"] spTake) (H_law_fresh_names : Has P w K mg base "_law_fresh_names" k ["store", "many", "used"] spFreshNames) (H_law_name : Has P w K mg base "_law_name" k ["store"] spName) (H_law_shuffled : Has P w K mg base "_law_shuffled" k ["store", "items"] spShuffled) : FnOk P w K mg base CX0 (k + 1) f fd ["store", "many"] spNames := by
  refine F.ok sc_law_names (fun vs H Q E h => ?_) (fun cdv A outer s H vs Q E hr h => ?_)
  · obtain ⟨S, m, rfl, _⟩ := h; rfl
  · obtain ⟨S, m, rfl, hm, hS, h⟩ := h
    refine ⟨_, (pss_cons (ps_set (i := 2) sc_law_names.nd rfl (.inl rfl) pe_str)
 (pss_cons (ps_set (i := 3) sc_law_names.nd rfl (.inl rfl) (pe_callH H_law_take hr (by rfl) (pa_cons (pv 0) (pa_cons pe_int pa_nil))))
 (pss_cons (ps_set (i := 4) sc_law_names.nd rfl (.inl rfl) (pe_callH H_law_take hr (by rfl) (pa_cons (pv 0) (pa_cons pe_int pa_nil))))
 (pss_cons (ps_if (pt_cmpR op_eq (pv 3) pe_int (nomark _)) (pss_one (ps_ret (pe_callH H_law_fresh_names hr (by rfl) (pa_cons (pv 0) (pa_cons (pv 1) (pa_cons (pe_lst pa_nil) pa_nil)))))) pss_nil)
 (pss_cons (ps_set (i := 5) sc_law_names.nd rfl (.inl rfl) (pe_callH H_law_name hr (by rfl) (pa_cons (pv 0) pa_nil)))
 (pss_cons (ps_set (i := 6) sc_law_names.nd rfl (.inl rfl) (pe_callH H_law_take hr (by rfl) (pa_cons (pv 0) (pa_cons (pe_callB call_len_str (by rfl) T.len (by decide +kernel) (pa_cons (pv 5) pa_nil)) pa_nil))))
 (pss_cons (ps_set (i := 7) sc_law_names.nd rfl (.inl rfl) (pe_lst pa_nil))
 (pss_cons (ps_for PassesOwn.never rfl (pi_range1 rfl T.range (pa_cons (pv 1) pa_nil)) (pg_name (i := 8) sc_law_names.nd rfl (.inl rfl)) (pss_cons (ps_set (i := 9) sc_law_names.nd rfl (.inl rfl) (pe_ix ix_str (pv 2) (pe_op op_mod (pe_callTy call_int1 (by rfl) T.int (by decide +kernel) (pa_cons (pe_op op_add (pv 4) (pv 8)) pa_nil)) pe_int) (fun _ _ => rfl)))
 (C8.pss_cut (ps_if (pt_cmpR op_eq (pv 3) pe_int (nomark _)) (pss_one (ps_set (i := 9) sc_law_names.nd rfl (.inl rfl) (pe_op op_add_str (pe_op op_add_str (pe_slice sl_str (pv 5) po_none (po_some (pv 6))) (pv 9)) (pe_slice sl_str (pv 5) (po_some (pe_op op_add (pv 6) pe_int)) po_none)))) pss_nil)
 (C8.pss_cut (ps_if (pt_cmpR op_eq (pv 3) pe_int (nomark _)) (pss_one (ps_set (i := 9) sc_law_names.nd rfl (.inl rfl) (pe_op op_add_str (pe_slice sl_str (pv 5) po_none (po_some pe_int)) (pe_callTy call_str_int (by rfl) T.str (by decide +kernel) (pa_cons (pe_op op_add (pe_op op_add (pe_op op_mod (pe_callTy call_int1 (by rfl) T.int (by decide +kernel) (pa_cons (pv 4) pa_nil)) pe_int) pe_int) (pe_op op_mul (pv 8) (pe_op op_add pe_int (pe_op op_mod (pe_callTy call_int1 (by rfl) T.int (by decide +kernel) (pa_cons (pv 4) pa_nil)) pe_int)))) pa_nil))))) pss_nil)
 (C8.pss_cut (ps_if (pt_cmpR op_eq (pv 3) pe_int (nomark _)) (pss_one (ps_set (i := 9) sc_law_names.nd rfl (.inl rfl) (pe_op op_mul_str (pe_ix ix_str (pv 2) (pe_op op_mod (pe_callTy call_int1 (by rfl) T.int (by decide +kernel) (pa_cons (pe_op op_add (pv 4) (pe_op op_fdivW (pv 8) pe_int)) pa_nil)) pe_int) (fun _ _ => rfl)) (pe_op op_add pe_int (pe_op op_mod (pe_callTy call_int1 (by rfl) T.int (by decide +kernel) (pa_cons (pv 8) pa_nil)) pe_int))))) pss_nil)
 (pss_one (ps_expr (pe_bm PySem.F.plainAttrs_list PySem.F.slot_list_append PySem.F.type_list_append mt_append (pv 7) (pa_cons (pv 9) pa_nil)))))))))
 (pss_one (ps_ret (pe_callH H_law_shuffled hr (by rfl) (pa_cons (pv 0) (pa_cons (pv 7) pa_nil))))))))))))), ?_⟩
    walk_at "rdD"
    refine ⟨S, 5, rfl, by omega, hS, fun fam H1 f0 f1 hS1 e1 => ?_⟩
    walk_at "rdD"
    refine ⟨S, 26, rfl, by omega, hS1, fun st H2 t0 t1 hS2 e2 => ?_⟩
    have e2' := e1.trans e2
    walk_at "rdD"
    refine if_dec (fun h3 => ?_) (fun h3 => ?_)
    · walk_at "rdD"
      refine ⟨sz (by simp), fun b nb => ?_⟩
      walk_at "rdD"
      exact ⟨S, m, b, rfl, hm, hS2.new nb, .new hS2 nb, fun p U H' hU lU np hA hS' e' => h p U H' hU lU (e2'.free hS2 ((ExS.new (S := S) nb).free (hS2.new nb) np |> fun q => by
        cases q2 : H2 p with
        | none => rfl
        | some o => rw [(same_new nb) p o q2] at np; cases np)) hA hS' (e2'.trans ((ExS.new nb).trans e'))⟩
    · walk_at "rdD"
      refine ⟨S, rfl, hS2, fun z H3 hz hS3 e3 => ?_⟩
      obtain ⟨z1, z8⟩ := isNm_len hz
      have e3' := e2'.trans e3
      walk_at "rdD"
      refine ⟨sz (by omega), ?_⟩
      walk_at "rdD"
      refine ⟨S, _, rfl, by omega, hS3, fun r H4 r0 r1 hS4 e4 => ?_⟩
      have e4' := e3'.trans e4
      walk_at "rdD"
      refine ⟨sz (by simp), fun p np => ?_⟩
      have p1 := hS4.ne1 np
      have p2 := hS4.ne2 np
      walk_at "rdD"
      have hlets : (lets).cps.toList.length = 26 := by decide +kernel
      have pick : ∀ {H' : Hp} {Q' : VK} {j : Int}, 0 ≤ j → j < 26 → (∀ x : Str, OkS 1 x → Q' (.str x) H') → rIxS (.str lets) (.int j) H' Q' := fun {H' Q' j} j0 j1 q => by
        obtain ⟨c, hc, _, ec⟩ := atI_nats (l := lets.cps.toList) (i := j) j0 (by rw [hlets]; exact j1)
        exact rd_ixS (by decide +kernel) ec (q _ (.one ((okS_iff.mp (show OkS 26 lets from by decide +kernel)).2 c hc)))
      refine ⟨by omega, by omega, for_rng (fun i σ H' => ∃ y y2, ∃ U : List Str, σ = [some (.ref S.1), some (.int m), some (.str lets), some (.int fam), some (.int st), some (.str z), some (.int r), some (.ref p), y, y2] ∧ (∀ z ∈ U, OkS 40 z) ∧ U.length = i ∧ H' p = some (.lst (U.map V.str)) ∧ StoreOk S H' ∧ ExS S H4 H') ⟨_, _, [], rfl, by simp, rfl, upd_same, hS4.new np, ExS.new np⟩ ?_ ?_⟩
      · rintro i σ H5 hi ⟨y, y2, U, rfl, hU, lU, hp, hS5, e5⟩
        have hi : i < m := by simpa using hi
        walk_at "rdD"
        refine pick (Int.emod_nonneg _ (by decide)) (Int.emod_lt_of_pos _ (by decide)) fun x hx => ?_
        walk_at "rdD"
        have one : ∀ {q : Prop}, q → q := fun h => h
        refine rd_cut (fun σ' H3 => ∃ x, σ' = [some (.ref S.1), some (.int m), some (.str lets), some (.int fam), some (.int st), some (.str z), some (.int r), some (.ref p), some (.int i), some (.str x)] ∧ OkS 40 x ∧ H3 = H5) ?_ ?_
        · walk_at "rdD"
          refine if_dec (fun hf => ?_) (fun hf => ?_)
          · walk_at "rdD"
            refine rd_slS (by omega) ?_
            walk_at "rdD"
            have c1 := (OkS.nm hz).cut (lo := none) (hi := some r)
            have c2 := (OkS.nm hz).cut (lo := some (r + 1)) (hi := none)
            have l1 := c1.len
            have l2 := c2.len
            have l3 := hx.len
            have l4 := app_len (cutS z none (some r)) x
            refine ⟨sz (by omega), ?_⟩
            walk_at "rdD"
            refine rd_slS (by omega) ?_
            walk_at "rdD"
            refine ⟨sz (by omega), ?_⟩
            walk_at "rdD"
            exact ⟨_, rfl, (c1.app hx (by omega : 8 + 1 ≤ 9)).app c2 (by omega), rfl⟩
          · walk_at "rdD"
            exact ⟨_, rfl, hx.mono (by omega), rfl⟩
        · rintro σ' H6 ⟨x, rfl, hx, rfl⟩
          refine rd_cut (fun σ' H3 => ∃ x, σ' = [some (.ref S.1), some (.int m), some (.str lets), some (.int fam), some (.int st), some (.str z), some (.int r), some (.ref p), some (.int i), some (.str x)] ∧ OkS 40 x ∧ H3 = H6) ?_ ?_
          · walk_at "rdD"
            refine if_dec (fun hf => ?_) (fun hf => ?_)
            · walk_at "rdD"
              refine rd_slS (by omega) ?_
              walk_at "rdD"
              have c1 := (OkS.nm hz).cut (lo := none) (hi := some 2)
              have l1 := c1.len
              obtain ⟨n, en, hn⟩ := num_ex (st := st) (i := i) (by omega)
              rw [en]
              have hns := numS_len (n := n) (by omega)
              refine ⟨log_ok (by omega), ?_⟩
              walk_at "rdD"
              refine ⟨sz (by show (cutS z none (some 2)).length + (numS n).length ≤ 100000; omega), ?_⟩
              walk_at "rdD"
              exact ⟨_, rfl, c1.app (OkS.num (n := n) (by omega)) (by omega), rfl⟩
            · walk_at "rdD"
              exact ⟨_, rfl, hx, rfl⟩
          · rintro σ' H7 ⟨x, rfl, hx, rfl⟩
            refine rd_cut (fun σ' H3 => ∃ x, σ' = [some (.ref S.1), some (.int m), some (.str lets), some (.int fam), some (.int st), some (.str z), some (.int r), some (.ref p), some (.int i), some (.str x)] ∧ OkS 40 x ∧ H3 = H7) ?_ ?_
            · walk_at "rdD"
              refine if_dec (fun hf => ?_) (fun hf => ?_)
              · walk_at "rdD"
                refine ⟨_, _, rfl, rfl, ⟨by decide, by decide⟩, ?_⟩
                walk_at "rdD"
                refine pick (Int.emod_nonneg _ (by decide)) (Int.emod_lt_of_pos _ (by decide)) fun x hx => ?_
                walk_at "rdD"
                have k8 := Int.emod_nonneg (i : Int) (by decide : (8 : Int) ≠ 0)
                have k9 := Int.emod_lt_of_pos (i : Int) (by decide : (0 : Int) < 8)
                refine ⟨_, _, rfl, rfl, by omega, by omega, by have := hx.len; omega, ?_⟩
                walk_at "rdD"
                exact ⟨_, rfl, mul_ok hx (by omega) (j := 8) (by omega) (by omega), rfl⟩
              · walk_at "rdD"
                exact ⟨_, rfl, hx, rfl⟩
            · rintro σ' H8 ⟨x, rfl, hx, rfl⟩
              walk_at "rdD"
              refine ⟨.inl ⟨rfl, _, .inl (.inl hp)⟩, ?_⟩
              walk_at "rdD"
              refine ⟨p, _, _, rfl, rfl, hp, by rw [List.length_map]; exact Nat.lt_of_le_of_lt (by omega : U.length ≤ 30) (by decide), ?_⟩
              refine ⟨_, _, U ++ [x], rfl, fun x' hx' => ?_, by rw [List.length_append, lU]; rfl, by rw [upd_same, List.map_append]; rfl, store_upd hS5 p1 p2, e5.mut np⟩
              rcases List.mem_append.mp hx' with q | q
              · exact hU x' q
              · rw [List.mem_singleton.mp q]; exact hx
      · rintro σ H5 ⟨y, y2, U, rfl, hU, lU, hp, hS5, e5⟩
        have lU : U.length = m := by simpa using lU
        walk_at "rdD"
        refine ⟨S, p, _, rfl, hS5, ⟨p1, hp⟩, by rw [List.length_map]; omega, fun q ys H6 hperm nq hq hS6 e6 => ?_⟩
        obtain ⟨V', rfl, hV⟩ := strs_of (ns := U) (ys := ys) fun y hy => hperm.mem_iff.mp hy
        have hl := hperm.length_eq
        simp only [List.length_map] at hl
        exact h q V' H6 (fun z hz => hU z (hV z hz)) (by omega) ((e4'.trans e5).free hS5 nq) hq hS6 ((e4'.trans e5).trans e6)
end

abbrev s_law_numbered : Stmt := topS 31
theorem sc_law_numbered : FnScope ["store", "many", "stem", "start", "step", "k"] ["store"] (defScope s_law_numbered) := ⟨rfl, rfl, rfl, by decide +kernel, rfl, by decide +kernel, by decide +kernel⟩
abbrev s_law_listed : Stmt := topS 32
theorem sc_law_listed : FnScope ["store", "listed", "kind", "k", "again", "at", "odd"] ["store"] (defScope s_law_listed) := ⟨rfl, rfl, rfl, by decide +kernel, rfl, by decide +kernel, by decide +kernel⟩

theorem at3 {r : Int} (r0 : 0 ≤ r) (r1 : r < max 1 3) : ∃ m : Nat, m ≤ 1000 ∧ atI [V.int 60, V.int 250, V.int 1000] r = some (V.int m) := by
  obtain rfl | rfl | rfl : r = 0 ∨ r = 1 ∨ r = 2 := by omega
  · exact ⟨60, by omega, rfl⟩
  · exact ⟨250, by omega, rfl⟩
  · exact ⟨1000, by omega, rfl⟩
theorem at4 {r : Int} (r0 : 0 ≤ r) (r1 : r < max 1 4) : ∃ m : Nat, m ≤ 333 ∧ atI [V.int 1, V.int 7, V.int 77, V.int 333] r = some (V.int m) := by
  obtain rfl | rfl | rfl | rfl : r = 0 ∨ r = 1 ∨ r = 2 ∨ r = 3 := by omega
  · exact ⟨1, by omega, rfl⟩
  · exact ⟨7, by omega, rfl⟩
  · exact ⟨77, by omega, rfl⟩
  · exact ⟨333, by omega, rfl⟩
theorem at8a {r : Int} (r0 : 0 ≤ r) (r1 : r < max 1 8) : ∃ m : Nat, m ≤ 2 ∧ atI [V.int 0, V.int 0, V.int 0, V.int 0, V.int 1, V.int 2, V.int 0, V.int 1] r = some (V.int m) := by
  obtain rfl | rfl | rfl | rfl | rfl | rfl | rfl | rfl : r = 0 ∨ r = 1 ∨ r = 2 ∨ r = 3 ∨ r = 4 ∨ r = 5 ∨ r = 6 ∨ r = 7 := by omega
  · exact ⟨0, by omega, rfl⟩
  · exact ⟨0, by omega, rfl⟩
  · exact ⟨0, by omega, rfl⟩
  · exact ⟨0, by omega, rfl⟩
  · exact ⟨1, by omega, rfl⟩
  · exact ⟨2, by omega, rfl⟩
  · exact ⟨0, by omega, rfl⟩
  · exact ⟨1, by omega, rfl⟩
theorem at8b {r : Int} (r0 : 0 ≤ r) (r1 : r < max 1 8) : ∃ m : Nat, m ≤ 2 ∧ atI [V.int 0, V.int 0, V.int 0, V.int 0, V.int 0, V.int 0, V.int 2, V.int 1] r = some (V.int m) := by
  obtain rfl | rfl | rfl | rfl | rfl | rfl | rfl | rfl : r = 0 ∨ r = 1 ∨ r = 2 ∨ r = 3 ∨ r = 4 ∨ r = 5 ∨ r = 6 ∨ r = 7 := by omega
  · exact ⟨0, by omega, rfl⟩
  · exact ⟨0, by omega, rfl⟩
  · exact ⟨0, by omega, rfl⟩
  · exact ⟨0, by omega, rfl⟩
  · exact ⟨0, by omega, rfl⟩
  · exact ⟨0, by omega, rfl⟩
  · exact ⟨2, by omega, rfl⟩
  · exact ⟨1, by omega, rfl⟩
section
variable {P : Program} {w : World} {K : PySem.W.Frag} {mg : Str → Option Value} {base : Heap} {C CD : Addr}
/-! ### _law_numbered -/
def spNumb : Sp := fun vs H Q _ => ∃ S : Sto, vs = [.ref S.1] ∧ StoreOk S H ∧
  ∀ (p : Addr) (U : List Str) (H' : Hp), (∀ z ∈ U, OkS 40 z) → U.length ≤ 1000 → H p = none → At S H' p (.lst (U.map V.str)) → StoreOk S H' → ExS S H H' → Q (.ref p) H'
theorem ok_numb {k : Nat} {f : Addr} {fd : FuncData} (F : Fun K "_law_numbered" "_law_numbered" s_law_numbered f fd) (T : Blt mg) (H_law_take : Has P w K mg base "_law_take" k ["store", "many"] spTake) (H_law_name : Has P w K mg base "_law_name" k ["store"] spName) : FnOk P w K mg base CX0 (k + 1) f fd ["store"] spNumb := by
  refine F.ok sc_law_numbered (fun vs H Q E h => ?_) (fun cdv A outer s H vs Q E hr h => ?_)
  · obtain ⟨S, rfl, _⟩ := h; rfl
  · obtain ⟨S, rfl, hS, h⟩ := h
    refine ⟨_, (pss_cons (ps_set (i := 1) sc_law_numbered.nd rfl (.inl rfl) (pe_ix ix_list (pe_lst (pa_cons pe_int (pa_cons pe_int (pa_cons pe_int pa_nil)))) (pe_callH H_law_take hr (by rfl) (pa_cons (pv 0) (pa_cons pe_int pa_nil))) (fun _ _ => rfl)))
 (pss_cons (ps_set (i := 2) sc_law_numbered.nd rfl (.inr rfl) (pe_slice sl_str (pe_callH H_law_name hr (by rfl) (pa_cons (pv 0) pa_nil)) po_none (po_some pe_int)))
 (pss_cons (ps_set (i := 3) sc_law_numbered.nd rfl (.inr rfl) (pe_callH H_law_take hr (by rfl) (pa_cons (pv 0) (pa_cons pe_int pa_nil))))
 (pss_cons (ps_set (i := 4) sc_law_numbered.nd rfl (.inr rfl) (pe_ix ix_list (pe_lst (pa_cons pe_int (pa_cons pe_int (pa_cons pe_int (pa_cons pe_int pa_nil))))) (pe_callH H_law_take hr (by rfl) (pa_cons (pv 0) (pa_cons pe_int pa_nil))) (fun _ _ => rfl)))
 (pss_one (ps_ret (pe_lc (own := [("k", 5)]) (g := gName 5) (by rfl) sc_law_numbered.nd (pi_range1 rfl T.range (pa_cons (pv 1) pa_nil)) (blkOk_by (own := [("k", 5)]) (N := ["store", "many", "stem", "start", "step", "k"]) (sc := defScope s_law_numbered) (by decide +kernel)) (fun _ _ _ _ _ => pg_name (i := 5) sc_law_numbered.nd rfl (Or.inl rfl)) (fun _ _ _ _ _ => pts_nil) (fun _ _ _ _ _ => (pe_op op_add_str (pv 2) (pe_callTy call_str_int (by rfl) T.str (by decide +kernel) (pa_cons (pe_op op_mod (pe_callTy call_int1 (by rfl) T.int (by decide +kernel) (pa_cons (pe_op op_add (pv 3) (pe_op op_mul (pv 5) (pv 4))) pa_nil)) pe_int) pa_nil))))))))))), ?_⟩
    walk_at "rdD"
    refine ⟨sz (by simp), fun l nl => ?_⟩
    walk_at "rdD"
    refine ⟨S, 3, rfl, by omega, hS.new nl, fun r H1 r0 r1 hS1 e1 => ?_⟩
    have e1' := (ExS.new (S := S) nl).trans e1
    obtain ⟨m, hm, em⟩ := at3 r0 r1
    refine rd_ixL (e1 _ _ (hS.ne1 nl) upd_same) em ?_
    walk_at "rdD"
    refine ⟨S, rfl, hS1, fun z H2 hz hS2 e2 => ?_⟩
    have e2' := e1'.trans e2
    obtain ⟨z1, z8⟩ := isNm_len hz
    walk_at "rdD"
    refine rd_slS (by omega) ?_
    have hc := (OkS.nm hz).cut (lo := none) (hi := some 4)
    walk_at "rdD"
    refine ⟨S, 1000, rfl, by omega, hS2, fun st H3 t0 t1 hS3 e3 => ?_⟩
    have e3' := e2'.trans e3
    walk_at "rdD"
    refine ⟨sz (by simp), fun l2 nl2 => ?_⟩
    walk_at "rdD"
    refine ⟨S, 4, rfl, by omega, hS3.new nl2, fun r5 H5 r50 r51 hS5 e5 => ?_⟩
    have e5' := e3'.trans ((ExS.new (S := S) nl2).trans e5)
    obtain ⟨q, hq, eq⟩ := at4 r50 r51
    refine rd_ixL (e5 _ _ (hS3.ne1 nl2) upd_same) eq ?_
    walk_at "rdD"
    refine ⟨by omega, by omega, fun D nD => lc_rng (fun i H' => ∃ U : List Str, H' = upd H5 D (.lst (U.map V.str)) ∧ U.length = i ∧ ∀ z ∈ U, OkS 40 z) ⟨[], rfl, rfl, by simp⟩ ?_ ?_⟩
    · rintro i H6 hi ⟨U, rfl, lU, hU⟩
      have hi : i < m := by simpa using hi
      refine ⟨rfl, ?_⟩
      walk_at "rdD"
      obtain ⟨n, en, hn⟩ : ∃ n : Nat, (st + (i : Int) * (q : Int)) % 1000 = n ∧ n < 1000 := by
        have h0 := Int.emod_nonneg (st + (i : Int) * (q : Int)) (by decide : (1000 : Int) ≠ 0)
        have h1 := Int.emod_lt_of_pos (st + (i : Int) * (q : Int)) (by decide : (0 : Int) < 1000)
        exact ⟨((st + (i : Int) * (q : Int)) % 1000).toNat, by omega, by omega⟩
      rw [en]
      have hns := numS_len (n := n) (by omega)
      have l1 := hc.len
      refine ⟨log_ok (by omega), ?_⟩
      walk_at "rdD"
      refine ⟨sz (by show (cutS z none (some 4)).length + (numS n).length ≤ 100000; omega), _, upd_same, ?_, U ++ [cutS z none (some 4) ++ numS n], ?_, by rw [List.length_append, lU]; rfl, fun x hx => ?_⟩
      · rw [List.length_map]; exact Nat.lt_of_le_of_lt (by omega : _ ≤ 1000) (by decide)
      · rw [upd_upd, List.map_append]; rfl
      · rcases List.mem_append.mp hx with a | a
        · exact hU x a
        · rw [List.mem_singleton.mp a]; exact hc.app (OkS.num (n := n) (by omega)) (by omega)
    · rintro H6 ⟨U, rfl, lU, hU⟩
      have lU : U.length = m := by simpa using lU
      exact h D U _ hU (by omega) (e5'.free hS5 nD) (.new hS5 nD) (hS5.new nD) (e5'.trans (ExS.new nD))
/-! ### _law_listed -/
/-- listed[:at] + [x] + listed[at:] -/
theorem put_in {xs : List V} {U : List Str} (e : xs = U.map V.str) (x : Str) (r : Int) (r0 : 0 ≤ r) : ∃ W : List Str, cutV xs none (some r) ++ [V.str x] ++ cutV xs (some r) none = W.map V.str ∧ W.length ≤ U.length + 1 ∧ ∀ z ∈ W, z ∈ U ∨ z = x := by
  subst e
  obtain ⟨n, rfl⟩ : ∃ n : Nat, r = n := ⟨r.toNat, by omega⟩
  obtain ⟨U1, e1, h1⟩ := cut_strs U none (some (n : Int))
  obtain ⟨U2, e2, h2⟩ := cut_strs U (some (n : Int)) none
  have l1 := cut_to_len (xs := U.map V.str) (k := n)
  have l2 := cut_from_len (xs := U.map V.str) (k := n)
  have m1 := map_str_len e1
  have m2 := map_str_len e2
  refine ⟨U1 ++ [x] ++ U2, by rw [e1, e2, List.map_append, List.map_append]; rfl, ?_, fun z hz => ?_⟩
  · have l3 : (cutV (U.map V.str) none (some (n : Int))).length ≤ U.length := by
      rw [cut_to, List.length_take, List.length_map]; omega
    rw [List.length_map] at l2
    rw [List.length_append, List.length_append, m1, m2]
    simp only [List.length_singleton]
    by_cases q : n ≤ U.length
    · omega
    · omega
  · rcases List.mem_append.mp hz with a | a
    · rcases List.mem_append.mp a with b | b
      · exact .inl (h1 z b)
      · exact .inr (List.mem_singleton.mp b)
    · exact .inl (h2 z a)
theorem ok_listed {k : Nat} {f : Addr} {fd : FuncData} (F : Fun K "_law_listed" "_law_listed" s_law_listed f fd) (T : Blt mg) (H_law_take : Has P w K mg base "_law_take" k ["store", "many"] spTake) (H_law_numbered : Has P w K mg base "_law_numbered" k ["store"] spNumb) (H_law_names : Has P w K mg base "_law_names" k ["store", "many"] spNames) (H_law_pick : Has P w K mg base "_law_pick" k ["store", "items"] spPick) (H_law_bad_name : Has P w K mg base "_law_bad_name" k ["store"] spBad) : FnOk P w K mg base CX0 (k + 1) f fd ["store"] spNumb := by
  refine F.ok sc_law_listed (fun vs H Q E h => ?_) (fun cdv A outer s H vs Q E hr h => ?_)
  · obtain ⟨S, rfl, _⟩ := h; rfl
  · obtain ⟨S, rfl, hS, h⟩ := h
    refine ⟨_, (C8.pss_cut (ps_if (pt_cmpR op_eq (pe_callH H_law_take hr (by rfl) (pa_cons (pv 0) (pa_cons pe_int pa_nil))) pe_int (nomark _)) (pss_one (ps_set (i := 1) sc_law_listed.nd rfl (.inl rfl) (pe_callH H_law_numbered hr (by rfl) (pa_cons (pv 0) pa_nil)))) (pss_one (ps_set (i := 1) sc_law_listed.nd rfl (.inl rfl) (pe_callH H_law_names hr (by rfl) (pa_cons (pv 0) (pa_cons (pe_callH H_law_take hr (by rfl) (pa_cons (pv 0) (pa_cons pe_int pa_nil))) pa_nil))))))
 (pss_cons (ps_set (i := 2) sc_law_listed.nd rfl (.inl rfl) (pe_callH H_law_take hr (by rfl) (pa_cons (pv 0) (pa_cons pe_int pa_nil))))
 (C8.pss_cut (ps_for PassesOwn.never rfl (pi_range1 rfl T.range (pa_cons (pe_ix ix_list (pe_lst (pa_cons pe_int (pa_cons pe_int (pa_cons pe_int (pa_cons pe_int (pa_cons pe_int (pa_cons pe_int (pa_cons pe_int (pa_cons pe_int pa_nil))))))))) (pv 2) (fun _ _ => rfl)) pa_nil)) (pg_name (i := 3) sc_law_listed.nd rfl (.inl rfl)) (pss_one (ps_if (pt_cmpR op_gt (pe_callB call_len_seq (by rfl) T.len (by decide +kernel) (pa_cons (pv 1) pa_nil)) pe_int (nomark _)) (pss_cons (ps_set (i := 4) sc_law_listed.nd rfl (.inl rfl) (pe_callH H_law_pick hr (by rfl) (pa_cons (pv 0) (pa_cons (pv 1) pa_nil))))
 (pss_cons (ps_set (i := 5) sc_law_listed.nd rfl (.inl rfl) (pe_callH H_law_take hr (by rfl) (pa_cons (pv 0) (pa_cons (pe_op op_add (pe_callB call_len_seq (by rfl) T.len (by decide +kernel) (pa_cons (pv 1) pa_nil)) pe_int) pa_nil))))
 (pss_one (ps_set (i := 1) sc_law_listed.nd rfl (.inl rfl) (pe_op op_cat (pe_op op_cat (pe_slice sl_list (pv 1) po_none (po_some (pv 5))) (pe_lst (pa_cons (pv 4) pa_nil))) (pe_slice sl_list (pv 1) (po_some (pv 5)) po_none)))))) pss_nil)))
 (pss_cons (ps_for PassesOwn.never rfl (pi_range1 rfl T.range (pa_cons (pe_ix ix_list (pe_lst (pa_cons pe_int (pa_cons pe_int (pa_cons pe_int (pa_cons pe_int (pa_cons pe_int (pa_cons pe_int (pa_cons pe_int (pa_cons pe_int pa_nil))))))))) (pv 2) (fun _ _ => rfl)) pa_nil)) (pg_name (i := 3) sc_law_listed.nd rfl (.inl rfl)) (pss_cons (ps_set (i := 6) sc_law_listed.nd rfl (.inl rfl) (pe_callH H_law_bad_name hr (by rfl) (pa_cons (pv 0) pa_nil)))
 (pss_cons (ps_set (i := 5) sc_law_listed.nd rfl (.inl rfl) (pe_callH H_law_take hr (by rfl) (pa_cons (pv 0) (pa_cons (pe_op op_add (pe_callB call_len_seq (by rfl) T.len (by decide +kernel) (pa_cons (pv 1) pa_nil)) pe_int) pa_nil))))
 (pss_one (ps_set (i := 1) sc_law_listed.nd rfl (.inl rfl) (pe_op op_cat (pe_op op_cat (pe_slice sl_list (pv 1) po_none (po_some (pv 5))) (pe_lst (pa_cons (pv 6) pa_nil))) (pe_slice sl_list (pv 1) (po_some (pv 5)) po_none)))))))
 (pss_one (ps_ret (pe_slice sl_list (pv 1) po_none (po_some pe_int)))))))), ?_⟩
    walk_at "rdD"
    refine rd_cut (fun σ' H' => ∃ p, ∃ U : List Str, σ' = [some (.ref S.1), some (.ref p), none, none, none, none, none] ∧ (∀ z ∈ U, OkS 40 z) ∧ U.length ≤ 1000 ∧ At S H' p (.lst (U.map V.str)) ∧ StoreOk S H' ∧ ExS S H H') ?_ ?_
    · walk_at "rdD"
      refine ⟨S, 12, rfl, by omega, hS, fun r H1 r0 r1 hS1 e1 => ?_⟩
      walk_at "rdD"
      refine if_dec (fun hk => ?_) (fun hk => ?_)
      · walk_at "rdD"
        exact ⟨S, rfl, hS1, fun p U H2 hU lU _ hA hS2 e2 => ⟨p, U, rfl, hU, lU, hA, hS2, e1.trans e2⟩⟩
      · walk_at "rdD"
        refine ⟨S, 27, rfl, by omega, hS1, fun q H2 q0 q1 hS2 e2 => ?_⟩
        obtain ⟨n, rfl⟩ : ∃ n : Nat, q = n := ⟨q.toNat, by omega⟩
        walk_at "rdD"
        exact ⟨S, n, rfl, by omega, hS2, fun p U H3 hU lU _ hA hS3 e3 => ⟨p, U, rfl, hU, by omega, hA, hS3, (e1.trans e2).trans e3⟩⟩
    · rintro σ' H1 ⟨p, U, rfl, hU, lU, hA, hS1, e1⟩
      walk_at "rdD"
      refine ⟨S, 8, rfl, by omega, hS1, fun kd H2 k0 k1 hS2 e2 => ?_⟩
      have hA2 := hA.back e2
      have e2' := e1.trans e2
      walk_at "rdD"
      refine rd_cut (fun σ' H' => ∃ p y y4 y5, ∃ U : List Str, σ' = [some (.ref S.1), some (.ref p), some (.int kd), y, y4, y5, none] ∧ (∀ z ∈ U, OkS 40 z) ∧ U.length ≤ 1002 ∧ At S H' p (.lst (U.map V.str)) ∧ StoreOk S H' ∧ ExS S H H') ?_ ?_
      · walk_at "rdD"
        refine ⟨sz (by simp), fun l nl => ?_⟩
        obtain ⟨m, hm, em⟩ := at8a k0 k1
        walk_at "rdD"
        refine rd_ixL upd_same em ?_
        walk_at "rdD"
        have hA3 := hA2.back (ExS.new (S := S) (o := .lst [.int 0, .int 0, .int 0, .int 0, .int 1, .int 2, .int 0, .int 1]) nl)
        refine ⟨by omega, by omega, for_rng (fun i σ H' => ∃ p y y4 y5, ∃ U : List Str, σ = [some (.ref S.1), some (.ref p), some (.int kd), y, y4, y5, none] ∧ (∀ z ∈ U, OkS 40 z) ∧ U.length ≤ 1000 + i ∧ At S H' p (.lst (U.map V.str)) ∧ StoreOk S H' ∧ ExS S H H') ⟨p, _, _, _, U, rfl, hU, by omega, hA3, hS2.new nl, e2'.trans (ExS.new nl)⟩ ?_ ?_⟩
        · rintro i σ H4 hi ⟨p, y, y4, y5, U, rfl, hU, lU, hA4, hS4, e4⟩
          have hi : i < m := by simpa using hi
          walk_at "rdD"
          refine ⟨p, _, rfl, .inl (sl_of hA4.2), ?_⟩
          walk_at "rdD"
          rw [List.length_map]
          refine if_dec (fun hp => ?_) (fun hp => ?_)
          · walk_at "rdD"
            refine ⟨S, _, rfl, hS4, .inl ⟨p, _, rfl, hA4, by rw [List.length_map]; omega, by rw [List.length_map]; omega, fun v H5 hv hS5 e5 => ?_⟩⟩
            obtain ⟨x, hx, rfl⟩ := List.mem_map.mp hv
            have hA5 := hA4.back e5
            have e5' := e4.trans e5
            walk_at "rdD"
            refine ⟨p, _, rfl, .inl (sl_of hA5.2), ?_⟩
            walk_at "rdD"
            rw [List.length_map]
            refine ⟨S, _, rfl, by omega, hS5, fun r H6 r0 r1 hS6 e6 => ?_⟩
            have hA6 := hA5.back e6
            have e6' := e5'.trans e6
            obtain ⟨W, eW, lW, hW⟩ := put_in (xs := U.map V.str) rfl x r r0
            walk_at "rdD"
            refine ⟨p, _, rfl, sl_of hA6.2, fun q1 n1 => ?_⟩
            have s1 := same_new (o := .lst (cutV (U.map V.str) none (some r))) n1
            walk_at "rdD"
            refine ⟨sz (by simp), fun q2 n2 => ?_⟩
            have s2 := same_new (o := .lst [V.str x]) n2
            walk_at "rdD"
            have c1 : (cutV (U.map V.str) none (some r)).length ≤ 1000 + i := by
              obtain ⟨n, rfl⟩ : ∃ n : Nat, r = n := ⟨r.toNat, by omega⟩
              rw [cut_to, List.length_take, List.length_map]; omega
            have c2 : (cutV (U.map V.str) (some r) none).length ≤ 1000 + i := by
              obtain ⟨n, rfl⟩ : ∃ n : Nat, r = n := ⟨r.toNat, by omega⟩
              have := cut_from_len (xs := U.map V.str) (k := n)
              rw [List.length_map] at this; omega
            refine ⟨q1, q2, _, _, rfl, rfl, s2 _ _ upd_same, upd_same, sz (by rw [List.length_singleton]; omega), fun q3 n3 => ?_⟩
            have s3 := same_new (o := .lst (cutV (U.map V.str) none (some r) ++ [V.str x])) n3
            walk_at "rdD"
            refine ⟨p, _, rfl, sl_of ((s1.trans (s2.trans s3)) _ _ hA6.2), fun q4 n4 => ?_⟩
            have s4 := same_new (o := .lst (cutV (U.map V.str) (some r) none)) n4
            refine ⟨q3, q4, _, _, rfl, rfl, s4 _ _ upd_same, upd_same, sz (by rw [List.length_append, List.length_singleton]; omega), fun q5 n5 => ?_⟩
            rw [eW]
            have sA := (s1.trans (s2.trans s3)).trans s4
            have hSA := hS6.same sA
            walk_at "rdD"
            refine ⟨q5, _, _, _, W, rfl, fun z hz => ?_, by omega, .new hSA n5, hSA.new n5, (e6'.trans (same_ex sA)).trans (ExS.new n5)⟩
            rcases hW z hz with b | rfl
            · exact hU z b
            · exact hU _ hx
          · walk_at "rdD"
            exact ⟨p, _, _, _, U, rfl, hU, by omega, hA4, hS4, e4⟩
        · rintro σ H4 ⟨p, y, y4, y5, U, rfl, hU, lU, hA4, hS4, e4⟩
          exact ⟨p, _, _, _, U, rfl, hU, by simp at lU; omega, hA4, hS4, e4⟩
      · rintro σ' H3 ⟨p, y, y4, y5, U, rfl, hU, lU, hA3, hS3, e3⟩
        walk_at "rdD"
        refine ⟨sz (by simp), fun l nl => ?_⟩
        obtain ⟨m, hm, em⟩ := at8b k0 k1
        walk_at "rdD"
        refine rd_ixL upd_same em ?_
        walk_at "rdD"
        have hA4 := hA3.back (ExS.new (S := S) (o := .lst [.int 0, .int 0, .int 0, .int 0, .int 0, .int 0, .int 2, .int 1]) nl)
        refine ⟨by omega, by omega, for_rng (fun i σ H' => ∃ p y y4 y5 y6, ∃ U : List Str, σ = [some (.ref S.1), some (.ref p), some (.int kd), y, y4, y5, y6] ∧ (∀ z ∈ U, OkS 40 z) ∧ U.length ≤ 1002 + i ∧ At S H' p (.lst (U.map V.str)) ∧ StoreOk S H' ∧ ExS S H H') ⟨p, _, _, _, _, U, rfl, hU, by omega, hA4, hS3.new nl, e3.trans (ExS.new nl)⟩ ?_ ?_⟩
        · rintro i σ H4 hi ⟨p, y, y4, y5, y6, U, rfl, hU, lU, hA4, hS4, e4⟩
          have hi : i < m := by simpa using hi
          walk_at "rdD"
          refine ⟨S, rfl, hS4, fun x H5 hx hS5 e5 => ?_⟩
          have hA5 := hA4.back e5
          have e5' := e4.trans e5
          walk_at "rdD"
          refine ⟨p, _, rfl, .inl (sl_of hA5.2), ?_⟩
          walk_at "rdD"
          rw [List.length_map]
          refine ⟨S, _, rfl, by omega, hS5, fun r H6 r0 r1 hS6 e6 => ?_⟩
          have hA6 := hA5.back e6
          have e6' := e5'.trans e6
          obtain ⟨W, eW, lW, hW⟩ := put_in (xs := U.map V.str) rfl x r r0
          walk_at "rdD"
          refine ⟨p, _, rfl, sl_of hA6.2, fun q1 n1 => ?_⟩
          have s1 := same_new (o := .lst (cutV (U.map V.str) none (some r))) n1
          walk_at "rdD"
          refine ⟨sz (by simp), fun q2 n2 => ?_⟩
          have s2 := same_new (o := .lst [V.str x]) n2
          walk_at "rdD"
          have c1 : (cutV (U.map V.str) none (some r)).length ≤ 1002 + i := by
            obtain ⟨n, rfl⟩ : ∃ n : Nat, r = n := ⟨r.toNat, by omega⟩
            rw [cut_to, List.length_take, List.length_map]; omega
          have c2 : (cutV (U.map V.str) (some r) none).length ≤ 1002 + i := by
            obtain ⟨n, rfl⟩ : ∃ n : Nat, r = n := ⟨r.toNat, by omega⟩
            have := cut_from_len (xs := U.map V.str) (k := n)
            rw [List.length_map] at this; omega
          refine ⟨q1, q2, _, _, rfl, rfl, s2 _ _ upd_same, upd_same, sz (by rw [List.length_singleton]; omega), fun q3 n3 => ?_⟩
          have s3 := same_new (o := .lst (cutV (U.map V.str) none (some r) ++ [V.str x])) n3
          walk_at "rdD"
          refine ⟨p, _, rfl, sl_of ((s1.trans (s2.trans s3)) _ _ hA6.2), fun q4 n4 => ?_⟩
          have s4 := same_new (o := .lst (cutV (U.map V.str) (some r) none)) n4
          refine ⟨q3, q4, _, _, rfl, rfl, s4 _ _ upd_same, upd_same, sz (by rw [List.length_append, List.length_singleton]; omega), fun q5 n5 => ?_⟩
          rw [eW]
          have sA := (s1.trans (s2.trans s3)).trans s4
          have hSA := hS6.same sA
          walk_at "rdD"
          refine ⟨q5, _, _, _, _, W, rfl, fun z hz => ?_, by omega, .new hSA n5, hSA.new n5, (e6'.trans (same_ex sA)).trans (ExS.new n5)⟩
          rcases hW z hz with b | rfl
          · exact hU z b
          · exact hx.mono (by omega)
        · rintro σ H4 ⟨p, y, y4, y5, y6, U, rfl, hU, lU, hA4, hS4, e4⟩
          walk_at "rdD"
          refine ⟨p, _, rfl, sl_of hA4.2, fun q nq => ?_⟩
          obtain ⟨W, eW, hW⟩ := cut_strs U none (some ((1000 : Nat) : Int))
          have lW := map_str_len eW
          have lc := cut_to_len (xs := U.map V.str) (k := 1000)
          have eW : cutV (U.map V.str) none (some 1000) = W.map V.str := eW
          rw [eW]
          exact h q W _ (fun z hz => hU z (hW z hz)) (by omega) (e4.free hS4 nq) (.new hS4 nq) (hS4.new nq) (e4.trans (ExS.new nq))
end

abbrev s_law_due : Stmt := topS 33
theorem sc_law_due : FnScope ["listed", "item", "seen"] ["listed"] (defScope s_law_due) := ⟨rfl, rfl, rfl, by decide +kernel, rfl, by decide +kernel, by decide +kernel⟩
abbrev s_law_asked : Stmt := topS 34
theorem sc_law_asked : FnScope ["listed", "named", "told", "e"] ["listed", "named"] (defScope s_law_asked) := ⟨rfl, rfl, rfl, by decide +kernel, rfl, by decide +kernel, by decide +kernel⟩

theorem rd_din {ty td : TE} {σ : L2.St} {H : Hp} {Q : VK} (h : ty σ H fun y H1 => td σ H1 fun x H2 => ∃ a o, x = .ref a ∧ DGet H2 a y o ∧ Q (.bl o.isSome) H2) : tDIn ty td σ H Q := h
theorem pe_globC {X : Cx} {x : Str} {C : Addr} {pos : Pos} (hg : Gl X x) (hm : X.mg x = some (.ref C)) (hd : (x == ("__debug__" : Str)) = false := by decide) : PE X (.Name x pos) (tC (.ref C)) := pe_glob hg hm rfl hd
structure Errs (K : PySem.W.Frag) (mg : Str → Option Value) (C CD cO cN cU : Addr) : Prop where
  g_OutshinerError : mg "OutshinerError" = some (.ref cO)
  g_BadName : mg "BadName" = some (.ref C)
  g_Doubled : mg "Doubled" = some (.ref CD)
  g_BadNumber : mg "BadNumber" = some (.ref cN)
  g_Unknown : mg "Unknown" = some (.ref cU)
  nO : PySem.W.kitOne K (.ref C) (.ref cO) = some true
  nD : PySem.W.kitOne K (.ref C) (.ref CD) = some false
  nN : PySem.W.kitOne K (.ref C) (.ref cN) = some false
  nU : PySem.W.kitOne K (.ref C) (.ref cU) = some false
  dO : PySem.W.kitOne K (.ref CD) (.ref cO) = some true
  dB : PySem.W.kitOne K (.ref CD) (.ref C) = some false
  dN : PySem.W.kitOne K (.ref CD) (.ref cN) = some false
  dU : PySem.W.kitOne K (.ref CD) (.ref cU) = some false
  ne : PySem.W.exmOne K (.ref CD) (.ref C) = some false
section
variable {P : Program} {w : World} {K : PySem.W.Frag} {mg : Str → Option Value} {base : Heap} {C CD cO cN cU : Addr}
/-! ### _law_due -/
def spDue : Sp := fun vs H Q _ => ∃ a, ∃ U : List Str, vs = [.ref a] ∧ H a = some (.lst (U.map V.str)) ∧ U.length ≤ 2000 ∧ (∀ z ∈ U, z.length ≤ 1000) ∧ (dueL U = none → ∀ H', Same H H' → Q .non H') ∧ (∀ (xs : List V) (p : Addr) (H' : Hp), dueL U = some xs → Same H H' → H p = none → H' p = some (.tup xs) → Q (.ref p) H')
theorem due_bad {U : List Str} {z : Str} (h : firstBad U = some z) : dueL U = some [.str "BadName", .str z, .bl true, .bl false] := by unfold dueL; rw [h]
theorem due_dup {U : List Str} {z : Str} (h0 : firstBad U = none) (h : firstDup [] U = some z) : dueL U = some [.str "Doubled", .str z, .bl true, .bl false] := by unfold dueL; rw [h0]; simp only [h]
theorem due_ok {U : List Str} (h0 : firstBad U = none) (h : firstDup [] U = none) : dueL U = none := by unfold dueL; rw [h0]; simp only [h]
theorem ok_due {k : Nat} {f : Addr} {fd : FuncData} (F : Fun K "_law_due" "_law_due" s_law_due f fd) (T : Blt mg) (H_law_is_name : Has P w K mg base "_law_is_name" k ["text"] spIsName) : FnOk P w K mg base CX0 (k + 1) f fd ["listed"] spDue := by
  refine F.ok sc_law_due (fun vs H Q E h => ?_) (fun cdv A outer s H vs Q E hr h => ?_)
  · obtain ⟨a, U, rfl, _⟩ := h; rfl
  · obtain ⟨a, U, rfl, hA, lU, hzl, h1, h2⟩ := h
    refine ⟨_, (pss_cons (ps_for PassesOwn.never rfl (pi_list (pv 0)) (pg_name (i := 1) sc_law_due.nd rfl (.inl rfl)) (pss_one (ps_if (pt_not (pt_val (pe_callH H_law_is_name hr (by rfl) (pa_cons (pv 1) pa_nil)))) (pss_one (ps_ret (pe_tup (pa_cons pe_str (pa_cons (pv 1) (pa_cons pe_bl (pa_cons pe_bl pa_nil))))))) pss_nil)))
 (pss_cons (ps_set (i := 2) sc_law_due.nd rfl (.inl rfl) pe_dnewK)
 (pss_cons (ps_for PassesOwn.never rfl (pi_list (pv 0)) (pg_name (i := 1) sc_law_due.nd rfl (.inl rfl)) (pss_cons (ps_if (pt_cmp (pc_din (hu_of hr) (pv 1) (pv 2)) (by rfl)) (pss_one (ps_ret (pe_tup (pa_cons pe_str (pa_cons (pv 1) (pa_cons pe_bl (pa_cons pe_bl pa_nil))))))) pss_nil)
 (pss_one (ps_dput (hu_of hr) (pv 2) (pv 1) pe_bl rfl))))
 (pss_one (ps_ret pe_non))))), ?_⟩
    walk_at "rdD"
    refine ⟨a, rfl, ⟨_, sl_of hA⟩, for_lst (xs := U.map V.str) (fun i σ H' => ∃ y, σ = [some (.ref a), y, none] ∧ firstBad (U.drop i) = firstBad U ∧ Same H H') ⟨_, rfl, rfl, Same.refl _⟩ ?_ ?_ ?_⟩
    · rintro i σ H' ⟨y, rfl, _, sm⟩
      exact sm _ _ hA
    · rintro i x σ H' hx ⟨y, rfl, hB, sm⟩
      obtain ⟨z, hz, rfl⟩ := get_strs hx
      rw [bad_step hz] at hB
      walk_at "rdD"
      refine ⟨z, rfl, hzl z (List.mem_of_getElem? hz), fun H2 s2 => ?_⟩
      walk_at "rdD"
      refine if_nbool (fun hn => ?_) (fun hn => ?_)
      · rw [if_neg (by rw [hn]; simp)] at hB
        walk_at "rdD"
        exact ⟨sz (by simp), fun p np => h2 _ p _ (due_bad hB.symm) ((sm.trans s2).trans (same_new np)) ((sm.trans s2).free np) upd_same⟩
      · rw [if_pos hn] at hB
        walk_at "rdD"
        exact ⟨_, rfl, hB, sm.trans s2⟩
    · rintro σ H' ⟨y, rfl, hB, sm⟩
      rw [List.length_map, bad_end] at hB
      walk_at "rdD"
      refine fun D nD => ?_
      have nDH := sm.free nD
      walk_at "rdD"
      refine ⟨a, rfl, ⟨_, sl_of ((sm.trans (same_new nD)) _ _ hA)⟩, for_lst (xs := U.map V.str) (fun i σ H' => ∃ y, ∃ kvs : List (Key × V), σ = [some (.ref a), y, some (.ref D)] ∧ KeysAre kvs (U.take i) ∧ kvs.length ≤ i ∧ H' D = some (.dK kvs) ∧ firstDup (U.take i) (U.drop i) = firstDup [] U ∧ Same H H') ⟨_, [], rfl, keys_nil, Nat.zero_le _, upd_same, rfl, sm.trans (same_new nD)⟩ ?_ ?_ ?_⟩
      · rintro i σ H' ⟨y, kvs, rfl, _, _, _, _, sm⟩
        exact sm _ _ hA
      · rintro i x σ H' hx ⟨y, kvs, rfl, hk, hkl, hD, hF, sm⟩
        obtain ⟨z, hz, rfl⟩ := get_strs hx
        have hil : i < U.length := (List.getElem?_eq_some_iff.mp hz).1
        rw [dup_step hz] at hF
        walk_at "rdD"
        refine rd_din ?_
        walk_at "rdD"
        refine ⟨D, _, rfl, DGet.k (k := Sum.inr z) hD, _, rfl, ?_⟩
        rw [hk]
        refine if_dec (fun hin => ?_) (fun hout => ?_)
        · rw [if_pos hin] at hF
          walk_at "rdD"
          exact ⟨sz (by simp), fun p np => h2 _ p _ (due_dup hB.symm hF.symm) (sm.trans (same_new np)) (sm.free np) upd_same⟩
        · rw [if_neg hout] at hF
          walk_at "rdD"
          refine ⟨D, _, rfl, DPut.k (k := Sum.inr z) hD (Nat.lt_of_le_of_lt (by omega : kvs.length ≤ 2000) (by decide)), _, _, rfl, ?_, ?_, upd_same, hF, same_mut sm nDH⟩
          · rw [List.take_add_one, hz]; exact hk.put
          · have := length_putK kvs (Sum.inr z : Key) (.bl true); omega
      · rintro σ H' ⟨y, kvs, rfl, hk, hkl, hD, hF, sm⟩
        rw [List.length_map, dup_end] at hF
        walk_at "rdD"
        exact h1 (due_ok hB.symm hF.symm) H' sm
/-! ### _law_asked -/
def spAsked : Sp := fun vs H Q _ => ∃ a, ∃ U : List Str, ∃ b : Bool, vs = [.ref a, .bl b] ∧ Strs H a U ∧ U.length ≤ 2000 ∧ (∀ z ∈ U, z.length ≤ 1000) ∧ (∀ (xs : List V) (p : Addr) (H' : Hp), dueL U = some xs → Same H H' → H p = none → H' p = some (.tup xs) → Q (.ref p) H') ∧
  (dueL U = none → ∀ (ys : List Str) (p : Addr) (H' : Hp), ys.Perm U → ys.Pairwise (fun x y => ¬ ltS y x) → Same H H' → H p = none → H' p = some (.lst (ys.map V.str)) → Q (.ref p) H')
theorem ok_asked {k : Nat} {f : Addr} {fd : FuncData} (F : Fun K "_law_asked" "_law_asked" s_law_asked f fd) (T : Blt mg) (TE : Errs K mg C CD cO cN cU) (E_BadName : ErrC K mg "BadName" C) (E_Doubled : ErrC K mg "Doubled" CD) (N_BadName_name : PySem.W.findIn K (.ref C) "name" = some none) (N_Doubled_name : PySem.W.findIn K (.ref CD) "name" = some none)
    (Hordered : HasX P w K mg base "ordered" k ["names"] (spOrdered C CD)) (HKordered_names : HasK P w K mg base (L2.CX P w) "ordered" k ["names"] ["names"] id (spOrdered C CD)) : FnOk P w K mg base CX0 (k + 1) f fd ["listed", "named"] spAsked := by
  refine F.ok sc_law_asked (fun vs H Q E h => ?_) (fun cdv A outer s H vs Q E hr h => ?_)
  · obtain ⟨a, U, b, rfl, _⟩ := h; rfl
  · obtain ⟨a, U, b, rfl, hA, lU, hzl, h1, h2⟩ := h
    refine ⟨_, (pss_cons (ps_try_asM (Wout := fun _ _ _ _ => False) rfl rfl sc_law_asked.nd takes0 (fun W pn xe tk _ => (pss_one (ps_if (pt_val (pv 1)) (pss_one (ps_set (i := 2) sc_law_asked.nd rfl (.inl rfl) (pe_callKS (ks := ["names"]) HKordered_names hr (by rfl) (fun σ => passAt tk σ) (pk_cons (pv 0) pk_nil)))) (pss_one (ps_set (i := 2) sc_law_asked.nd rfl (.inl rfl) (pe_callX Hordered hr (by rfl) tk (pa_cons (pv 0) pa_nil))))))) (.cons (i := 3) rfl rfl ⟨rfl, by decide, Or.inl E_BadName.gC⟩ (fun a oe cls d pn hz hf => (pss_one (ps_ret (pe_tup (pa_cons pe_str (pa_cons (pe_xf E_BadName.xf N_BadName_name hz hf (pv 3)) (pa_cons (pe_callB (call_isX (K := K) rfl hz hf) (by rfl) T.isinstance (by decide +kernel) (pa_cons (pv 3) (pa_cons (pe_globC rfl TE.g_OutshinerError) pa_nil))) (pa_cons (pe_callB (call_isXT (K := K) rfl hz hf) (by rfl) T.isinstance (by decide +kernel) (pa_cons (pv 3) (pa_cons (pe_tup (pa_cons (pe_globC rfl TE.g_Doubled) (pa_cons (pe_globC rfl TE.g_BadNumber) (pa_cons (pe_globC rfl TE.g_Unknown) pa_nil)))) pa_nil))) pa_nil)))))))) (.cons (i := 3) rfl rfl ⟨rfl, by decide, Or.inl E_Doubled.gC⟩ (fun a oe cls d pn hz hf => (pss_one (ps_ret (pe_tup (pa_cons pe_str (pa_cons (pe_xf E_Doubled.xf N_Doubled_name hz hf (pv 3)) (pa_cons (pe_callB (call_isX (K := K) rfl hz hf) (by rfl) T.isinstance (by decide +kernel) (pa_cons (pv 3) (pa_cons (pe_globC rfl TE.g_OutshinerError) pa_nil))) (pa_cons (pe_callB (call_isXT (K := K) rfl hz hf) (by rfl) T.isinstance (by decide +kernel) (pa_cons (pv 3) (pa_cons (pe_tup (pa_cons (pe_globC rfl TE.g_BadName) (pa_cons (pe_globC rfl TE.g_BadNumber) (pa_cons (pe_globC rfl TE.g_Unknown) pa_nil)))) pa_nil))) pa_nil)))))))) .nil)))
 (pss_one (ps_ret (pv 2)))), ?_⟩
    have kN : PySem.W.kitAny K (.ref C) [.ref CD, .ref cN, .ref cU] = some false := kitAny_cons TE.nD (fun _ => kitAny_cons TE.nN (fun _ => kitAny_cons TE.nU (fun _ => rfl) (fun h => by cases h)) (fun h => by cases h)) (fun h => by cases h)
    have kD : PySem.W.kitAny K (.ref CD) [.ref C, .ref cN, .ref cU] = some false := kitAny_cons TE.dB (fun _ => kitAny_cons TE.dN (fun _ => kitAny_cons TE.dU (fun _ => rfl) (fun h => by cases h)) (fun h => by cases h)) (fun h => by cases h)
    walk_at "rdD"
    refine if_bool (fun hb => ?_) (fun hb => ?_)
    · walk_at "rdD"
      refine ⟨rfl, ?_⟩
      refine ⟨a, U, rfl, hA, lU, hzl, fun z hz => ?_, fun z hb0 hd => ?_, fun hb0 hd ys p H' hp hs sm np hH => ?_⟩
      · refine fun d H' sm e => ⟨true, E_BadName.self, fun _ x na => ?_, fun q => Bool.noConfusion q⟩
        walk_at "rdD"
        refine ⟨rfl, rfl, d, _, .str z, rfl, e, (by simp [List.lookup]), ?_⟩
        walk_at "rdD"
        refine ⟨C, d, _, .ref cO, .ref cO, true, rfl, rfl, e, E_BadName.ec, rfl, fun _ r => r, TE.nO, ?_⟩
        walk_at "rdD"
        refine ⟨sz (by simp), fun tp ntp => ?_⟩
        walk_at "rdD"
        refine ⟨C, d, _, tp, _, _, false, rfl, rfl, same_new ntp _ _ e, E_BadName.ec, rfl, upd_same, .cons (.own _) (.cons (.own _) (.cons (.own _) .nil)), kN, ?_⟩
        walk_at "rdD"
        have s1 := sm.trans (same_new (o := .tup [.ref CD, .ref cN, .ref cU]) ntp)
        exact ⟨sz (by simp), fun p np => h1 _ p _ (due_bad hz) (s1.trans (same_new np)) (s1.free np) upd_same⟩
      · refine fun d H' sm e => ⟨false, TE.ne, fun q => Bool.noConfusion q, fun _ => ⟨true, E_Doubled.self, fun _ x na => ?_, fun q => Bool.noConfusion q⟩⟩
        walk_at "rdD"
        refine ⟨rfl, rfl, d, _, .str z, rfl, e, (by simp [List.lookup]), ?_⟩
        walk_at "rdD"
        refine ⟨CD, d, _, .ref cO, .ref cO, true, rfl, rfl, e, E_Doubled.ec, rfl, fun _ r => r, TE.dO, ?_⟩
        walk_at "rdD"
        refine ⟨sz (by simp), fun tp ntp => ?_⟩
        walk_at "rdD"
        refine ⟨CD, d, _, tp, _, _, false, rfl, rfl, same_new ntp _ _ e, E_Doubled.ec, rfl, upd_same, .cons (.own _) (.cons (.own _) (.cons (.own _) .nil)), kD, ?_⟩
        walk_at "rdD"
        have s1 := sm.trans (same_new (o := .tup [.ref C, .ref cN, .ref cU]) ntp)
        exact ⟨sz (by simp), fun p np => h1 _ p _ (due_dup hb0 hd) (s1.trans (same_new np)) (s1.free np) upd_same⟩
      · walk_at "rdD"
        exact h2 (due_ok hb0 hd) ys p H' hp hs sm np hH
    · walk_at "rdD"
      refine ⟨a, U, rfl, hA, lU, hzl, fun z hz => ?_, fun z hb0 hd => ?_, fun hb0 hd ys p H' hp hs sm np hH => ?_⟩
      · refine fun d H' sm e => ⟨true, E_BadName.self, fun _ x na => ?_, fun q => Bool.noConfusion q⟩
        walk_at "rdD"
        refine ⟨rfl, rfl, d, _, .str z, rfl, e, (by simp [List.lookup]), ?_⟩
        walk_at "rdD"
        refine ⟨C, d, _, .ref cO, .ref cO, true, rfl, rfl, e, E_BadName.ec, rfl, fun _ r => r, TE.nO, ?_⟩
        walk_at "rdD"
        refine ⟨sz (by simp), fun tp ntp => ?_⟩
        walk_at "rdD"
        refine ⟨C, d, _, tp, _, _, false, rfl, rfl, same_new ntp _ _ e, E_BadName.ec, rfl, upd_same, .cons (.own _) (.cons (.own _) (.cons (.own _) .nil)), kN, ?_⟩
        walk_at "rdD"
        have s1 := sm.trans (same_new (o := .tup [.ref CD, .ref cN, .ref cU]) ntp)
        exact ⟨sz (by simp), fun p np => h1 _ p _ (due_bad hz) (s1.trans (same_new np)) (s1.free np) upd_same⟩
      · refine fun d H' sm e => ⟨false, TE.ne, fun q => Bool.noConfusion q, fun _ => ⟨true, E_Doubled.self, fun _ x na => ?_, fun q => Bool.noConfusion q⟩⟩
        walk_at "rdD"
        refine ⟨rfl, rfl, d, _, .str z, rfl, e, (by simp [List.lookup]), ?_⟩
        walk_at "rdD"
        refine ⟨CD, d, _, .ref cO, .ref cO, true, rfl, rfl, e, E_Doubled.ec, rfl, fun _ r => r, TE.dO, ?_⟩
        walk_at "rdD"
        refine ⟨sz (by simp), fun tp ntp => ?_⟩
        walk_at "rdD"
        refine ⟨CD, d, _, tp, _, _, false, rfl, rfl, same_new ntp _ _ e, E_Doubled.ec, rfl, upd_same, .cons (.own _) (.cons (.own _) (.cons (.own _) .nil)), kD, ?_⟩
        walk_at "rdD"
        have s1 := sm.trans (same_new (o := .tup [.ref C, .ref cN, .ref cU]) ntp)
        exact ⟨sz (by simp), fun p np => h1 _ p _ (due_dup hb0 hd) (s1.trans (same_new np)) (s1.free np) upd_same⟩
      · walk_at "rdD"
        exact h2 (due_ok hb0 hd) ys p H' hp hs sm np hH
end

abbrev s_law_is_list_of_names : Stmt := topS 30
theorem sc_law_is_list_of_names : FnScope ["value", "item"] ["value"] (defScope s_law_is_list_of_names) := ⟨rfl, rfl, rfl, by decide +kernel, rfl, by decide +kernel, by decide +kernel⟩
abbrev s_law_is_order : Stmt := topS 35
theorem sc_law_is_order : FnScope ["told", "listed", "among", "item", "k"] ["told", "listed"] (defScope s_law_is_order) := ⟨rfl, rfl, rfl, by decide +kernel, rfl, by decide +kernel, by decide +kernel⟩
abbrev s_law_holds : Stmt := topS 36
theorem sc_law_holds : FnScope ["listed", "due", "handed", "told"] ["listed", "due"] (defScope s_law_holds) := ⟨rfl, rfl, rfl, by decide +kernel, rfl, by decide +kernel, by decide +kernel⟩

theorem call_isiK {X : Cx} {K : PySem.W.Frag} (e : X.K = K) : CallR X (.builtin "isinstance") (rIsi K) := e ▸ call_isi
theorem at_str {ys : List Str} {i : Nat} (h : i < ys.length) : ∃ z, ys[i]? = some z ∧ atI (ys.map V.str) (i : Int) = some (.str z) := by
  refine ⟨ys[i], by simp [h], ?_⟩
  unfold atI ixN
  rw [if_pos (by omega), if_pos (by rw [List.length_map]; omega)]
  simp [h]
section
variable {P : Program} {w : World} {K : PySem.W.Frag} {mg : Str → Option Value} {base : Heap} {C CD cO cN cU : Addr}
/-! ### _law_is_list_of_names -/
def spIsLN : Sp := fun vs H Q _ => ∃ a, ∃ U : List Str, vs = [.ref a] ∧ H a = some (.lst (U.map V.str)) ∧ U.length ≤ 2000 ∧ ∀ H', Same H H' → Q (.bl true) H'
theorem ok_isLN {k : Nat} {f : Addr} {fd : FuncData} (F : Fun K "_law_is_list_of_names" "_law_is_list_of_names" s_law_is_list_of_names f fd) (T : Blt mg) : FnOk P w K mg base CX0 (k + 1) f fd ["value"] spIsLN := by
  refine F.ok sc_law_is_list_of_names (fun vs H Q E h => ?_) (fun cdv A outer s H vs Q E hr h => ?_)
  · obtain ⟨a, U, rfl, _⟩ := h; rfl
  · obtain ⟨a, U, rfl, hA, lU, h⟩ := h
    refine ⟨_, (pss_cons (ps_if (pt_not (pt_val (pe_callB call_isi (by rfl) T.isinstance (by decide +kernel) (pa_cons (pv 0) (pa_cons (pe_bltn (v := .ty "list") rfl T.list' (by decide +kernel) rfl) pa_nil))))) (pss_one (ps_ret pe_bl)) pss_nil)
 (pss_one (ps_ret (pe_cmpR op_eq (pe_callB call_len_seq (by rfl) T.len (by decide +kernel) (pa_cons (pe_lc (own := [("item", 1)]) (g := gName 1) (by rfl) sc_law_is_list_of_names.nd (pi_list (pv 0)) (blkOk_by (own := [("item", 1)]) (N := ["value", "item"]) (sc := defScope s_law_is_list_of_names) (by decide +kernel)) (fun _ _ _ _ _ => pg_name (i := 1) sc_law_is_list_of_names.nd rfl (Or.inl rfl)) (fun _ _ _ _ _ => (pts_one (pt_val (pe_callB (call_isiK (K := K) rfl) (by rfl) T.isinstance (by decide +kernel) (pa_cons (pv 1) (pa_cons (pe_bltn (v := .ty "str") rfl T.str (by decide +kernel) rfl) pa_nil)))))) (fun _ _ _ _ _ => (pv 1))) pa_nil)) (pe_callB call_len_seq (by rfl) T.len (by decide +kernel) (pa_cons (pv 0) pa_nil)) (nomark _))))), ?_⟩
    walk_at "rdD"
    refine ⟨a, rfl, ⟨_, sl_of hA⟩, fun D nD => lc_list (xs := U.map V.str) (fun i H' => H' = upd H D (.lst ((U.take i).map V.str))) rfl (fun i H' _ hp => ?_) ?_ ?_⟩
    · subst hp
      exact sl_of (same_new nD _ _ hA)
    · rintro i x H1 hx rfl
      obtain ⟨z, hz, rfl⟩ := get_strs hx
      refine ⟨rfl, ?_⟩
      walk_at "rdD"
      refine ⟨_, upd_same, ?_, ?_⟩
      · rw [List.length_map, List.length_take]; exact Nat.lt_of_le_of_lt (by omega : _ ≤ 2000) (by decide)
      · rw [upd_upd, List.take_add_one, hz, List.map_append]; rfl
    · rintro H1 rfl
      rw [List.length_map, List.take_length]
      walk_at "rdD"
      refine ⟨D, _, rfl, .inl (sl_of upd_same), ?_⟩
      walk_at "rdD"
      refine ⟨a, _, rfl, .inl (sl_of (same_new nD _ _ hA)), ?_⟩
      walk_at "rdD"
      rw [decide_eq_true rfl]
      exact h _ (same_new nD)
/-! ### _law_is_order -/
def spIsOrder : Sp := fun vs H Q _ => ∃ p a, ∃ ys U : List Str, vs = [.ref p, .ref a] ∧ H p = some (.lst (ys.map V.str)) ∧ H a = some (.lst (U.map V.str)) ∧ U.length ≤ 2000 ∧ ys.Perm U ∧ ys.Pairwise (fun x y => ¬ ltS y x) ∧ U.Nodup ∧ ∀ H', Same H H' → Q (.bl true) H'
theorem ok_is_order {k : Nat} {f : Addr} {fd : FuncData} (F : Fun K "_law_is_order" "_law_is_order" s_law_is_order f fd) (T : Blt mg) (H_law_is_list_of_names : Has P w K mg base "_law_is_list_of_names" k ["value"] spIsLN) : FnOk P w K mg base CX0 (k + 1) f fd ["told", "listed"] spIsOrder := by
  refine F.ok sc_law_is_order (fun vs H Q E h => ?_) (fun cdv A outer s H vs Q E hr h => ?_)
  · obtain ⟨p, a, ys, U, rfl, _⟩ := h; rfl
  · obtain ⟨p, a, ys, U, rfl, hp, hA, lU, hperm, hs, hn, h⟩ := h
    have ly := hperm.length_eq
    refine ⟨_, (pss_cons (ps_if (PW.pt (pw_or (pt_not (pt_val (pe_callH H_law_is_list_of_names hr (by rfl) (pa_cons (pv 0) pa_nil)))) (pw_or1 (pt_cmpR op_ne (pe_callB call_len_seq (by rfl) T.len (by decide +kernel) (pa_cons (pv 0) pa_nil)) (pe_callB call_len_seq (by rfl) T.len (by decide +kernel) (pa_cons (pv 1) pa_nil)) (nomark _))))) (pss_one (ps_ret pe_bl)) pss_nil)
 (pss_cons (ps_set (i := 2) sc_law_is_order.nd rfl (.inl rfl) pe_dnewK)
 (pss_cons (ps_for PassesOwn.never rfl (pi_list (pv 1)) (pg_name (i := 3) sc_law_is_order.nd rfl (.inl rfl)) (pss_one (ps_dput (hu_of hr) (pv 2) (pv 3) pe_bl rfl)))
 (pss_cons (ps_for PassesOwn.never rfl (pi_range1 rfl T.range (pa_cons (pe_callB call_len_seq (by rfl) T.len (by decide +kernel) (pa_cons (pv 0) pa_nil)) pa_nil)) (pg_name (i := 4) sc_law_is_order.nd rfl (.inl rfl)) (pss_one (ps_if (PW.pt (pw_or (pt_cmp (pc_dnotin (hu_of hr) (pe_ix ix_list (pv 0) (pv 4) (fun _ _ => rfl)) (pv 2)) (by rfl)) (pw_or1 (PW.pt (pw_and (pt_cmpR op_gt (pv 4) pe_int (nomark _)) (pw_and1 (pt_cmpR op_le_str (pe_ix ix_list (pv 0) (pv 4) (fun _ _ => rfl)) (pe_ix ix_list (pv 0) (pe_op op_sub (pv 4) pe_int) (fun _ _ => rfl)) (nomark _)))))))) (pss_one (ps_ret pe_bl)) pss_nil)))
 (pss_one (ps_ret pe_bl)))))), ?_⟩
    walk_at "rdD"
    refine ⟨p, ys, rfl, hp, by omega, fun H1 s1 => ?_⟩
    walk_at "rdD"
    refine ⟨p, _, rfl, .inl (sl_of (s1 _ _ hp)), ?_⟩
    walk_at "rdD"
    refine ⟨a, _, rfl, .inl (sl_of (s1 _ _ hA)), ?_⟩
    walk_at "rdD"
    rw [List.length_map, List.length_map, ly]
    refine ite_f (by simp) ?_
    walk_at "rdD"
    refine fun D nD => ?_
    have nDH := s1.free nD
    walk_at "rdD"
    refine ⟨a, rfl, ⟨_, sl_of ((s1.trans (same_new nD)) _ _ hA)⟩, for_lst (xs := U.map V.str) (fun i σ H' => ∃ y, ∃ kvs : List (Key × V), σ = [some (.ref p), some (.ref a), some (.ref D), y, none] ∧ KeysAre kvs (U.take i) ∧ kvs.length ≤ i ∧ H' D = some (.dK kvs) ∧ Same H H') ⟨_, [], rfl, keys_nil, Nat.zero_le _, upd_same, s1.trans (same_new nD)⟩ ?_ ?_ ?_⟩
    · rintro i σ H' ⟨y, kvs, rfl, _, _, _, sm⟩
      exact sm _ _ hA
    · rintro i x σ H' hx ⟨y, kvs, rfl, hk, hkl, hD, sm⟩
      obtain ⟨z, hz, rfl⟩ := get_strs hx
      have hil : i < U.length := (List.getElem?_eq_some_iff.mp hz).1
      walk_at "rdD"
      refine ⟨D, _, rfl, DPut.k (k := Sum.inr z) hD (Nat.lt_of_le_of_lt (by omega : kvs.length ≤ 2000) (by decide)), _, _, rfl, ?_, ?_, upd_same, same_mut sm nDH⟩
      · rw [List.take_add_one, hz]; exact hk.put
      · have := length_putK kvs (Sum.inr z : Key) (.bl true); omega
    · rintro σ H' ⟨y, kvs, rfl, hk, hkl, hD, sm⟩
      rw [List.length_map, List.take_length] at hk
      walk_at "rdD"
      refine ⟨p, _, rfl, .inl (sl_of (sm _ _ hp)), ?_⟩
      walk_at "rdD"
      rw [List.length_map]
      refine ⟨by omega, by omega, for_rng (fun i σ H2 => ∃ y5, σ = [some (.ref p), some (.ref a), some (.ref D), y, y5] ∧ H2 = H') ⟨_, rfl, rfl⟩ ?_ ?_⟩
      · rintro i σ H2 hi ⟨y5, rfl, rfl⟩
        have hi : i < ys.length := by simpa using hi
        walk_at "rdD"
        obtain ⟨z, hz, ez⟩ := at_str hi
        refine rd_ixL (sm _ _ hp) ez ?_
        walk_at "rdD"
        have hm : z ∈ U := hperm.mem_iff.mp (List.mem_of_getElem? hz)
        refine ⟨D, _, rfl, DGet.k (k := Sum.inr z) hD, ?_⟩
        rw [hk, decide_eq_true hm]
        walk_at "rdD"
        refine if_dec (fun h0 => ?_) (fun h0 => ?_)
        · obtain ⟨j, rfl⟩ : ∃ j, i = j + 1 := ⟨i - 1, by omega⟩
          obtain ⟨y0, hy0, ey0⟩ := at_str (ys := ys) (i := j) (by omega)
          walk_at "rdD"
          refine rd_ixL (sm _ _ hp) ez ?_
          walk_at "rdD"
          refine rd_ixL (sm _ _ hp) (by rw [show (((j + 1 : Nat) : Int) - 1) = (j : Int) from by omega]; exact ey0) ?_
          walk_at "rdD"
          have lt : y0.cps.toList < z.cps.toList := sorted_strict hs (hperm.nodup_iff.mpr hn) hy0 hz
          rw [decide_eq_true lt]
          walk_at "rdD"
          exact ⟨_, rfl, rfl⟩
        · walk_at "rdD"
          exact ⟨_, rfl, rfl⟩
      · rintro σ H2 ⟨y5, rfl, rfl⟩
        walk_at "rdD"
        exact h _ sm
/-! ### _law_holds -/
theorem shaped_U {U : List Str} (h : ∀ z ∈ U, OkS 40 z) : SeqAt.shaped (.list (U.map PyData.str)) = true := shaped_strs h
def spHolds : Sp := fun vs H Q _ => ∃ a d, ∃ U : List Str, vs = [.ref a, d] ∧ H a = some (.lst (U.map V.str)) ∧ U.length ≤ 1000 ∧ (∀ z ∈ U, OkS 40 z) ∧ ((dueL U = none ∧ d = .non) ∨ ∃ xs q, dueL U = some xs ∧ d = .ref q ∧ H q = some (.tup xs)) ∧ ∀ H', Same H H' → Q (.bl true) H'
theorem alike_tup1 {H : Hp} {p q : Addr} {xs : List V} {n : Nat} (hp : H p = some (.tup xs)) (hq : H q = some (.tup xs)) (hl : xs.length ≤ 100000) (sc : ∀ x ∈ xs, Sc x) : Alike H (n + 1) (.ref p) (.ref q) :=
  .inr ⟨p, q, xs, xs, rfl, rfl, .inr ⟨hp, hq⟩, rfl, hl, fun i u v h1 h2 => by
    have e : u = v := Option.some.inj (h1.symm.trans h2)
    subst e
    cases n with
    | zero => exact ⟨sc u (List.mem_of_getElem? h1), rfl⟩
    | succ n => exact .inl ⟨sc u (List.mem_of_getElem? h1), rfl⟩⟩
theorem ok_holds {k : Nat} {f : Addr} {fd : FuncData} (F : Fun K "_law_holds" "_law_holds" s_law_holds f fd) (T : Blt mg) (H_law_asked : Has P w K mg base "_law_asked" k ["listed", "named"] spAsked) (H_law_same : Has P w K mg base "_law_same" k ["actual", "expected"] (spSame 2)) (H_law_is_order : Has P w K mg base "_law_is_order" k ["told", "listed"] spIsOrder) : FnOk P w K mg base CX0 (k + 1) f fd ["listed", "due"] spHolds := by
  refine F.ok sc_law_holds (fun vs H Q E h => ?_) (fun cdv A outer s H vs Q E hr h => ?_)
  · obtain ⟨a, d, U, rfl, _⟩ := h; rfl
  · obtain ⟨a, d, U, rfl, hA, lU, hU, hd, h⟩ := h
    refine ⟨_, (pss_cons (ps_set (i := 2) sc_law_holds.nd rfl (.inl rfl) (pe_callTy call_list_of (by rfl) T.list' (by decide +kernel) (pa_cons (pv 0) pa_nil)))
 (pss_cons (ps_set (i := 3) sc_law_holds.nd rfl (.inl rfl) (pe_callH H_law_asked hr (by rfl) (pa_cons (pv 2) (pa_cons pe_bl pa_nil))))
 (pss_cons (ps_if (pt_cmpR (op_neD hr.units) (pv 2) (pv 0) (nomark _)) (pss_one (ps_ret pe_bl)) pss_nil)
 (pss_cons (ps_if (pt_cmpR op_notN (pv 1) pe_non (nomark _)) (pss_one (ps_ret (pe_callH H_law_same hr (by rfl) (pa_cons (pv 3) (pa_cons (pv 1) pa_nil))))) pss_nil)
 (pss_cons (ps_if (pt_not (pt_val (pe_callH H_law_is_order hr (by rfl) (pa_cons (pv 3) (pa_cons (pv 0) pa_nil))))) (pss_one (ps_ret pe_bl)) pss_nil)
 (pss_cons (ps_expr (pe_bm PySem.F.plainAttrs_list PySem.F.slot_list_append PySem.F.type_list_append mt_append (pv 3) (pa_cons pe_str pa_nil)))
 (pss_cons (ps_asg pe_str (pg_sub (pv 3) pe_int set_list))
 (pss_one (ps_ret (pe_cmpR (op_eqD hr.units) (pv 2) (pv 0) (nomark _))))))))))), ?_⟩
    have hzl : ∀ z ∈ U, z.length ≤ 1000 := fun z hz => by have := (hU z hz).len; omega
    walk_at "rdD"
    refine ⟨a, _, rfl, .inl (sl_of hA), fun c nc => ?_⟩
    have s0 := same_new (o := .lst (U.map V.str)) nc
    have ne : ∀ {p : Addr}, upd H c (.lst (U.map V.str)) p = none → p ≠ c := fun {p} np e => by rw [e, upd_same] at np; cases np
    walk_at "rdD"
    refine ⟨c, U, false, rfl, .inl upd_same, by omega, hzl, fun xs p H2 ex s2 np hp => ?_, fun en ys p H2 hperm hs s2 np hp => ?_⟩
    all_goals have hc2 := s2 _ _ (upd_same (H := H) (a := c) (o := .lst (U.map V.str)))
    all_goals have hA2 := s2 _ _ (s0 _ _ hA)
    all_goals walk_at "rdD"
    all_goals refine ⟨_, _, .lst (sl_of hc2) (dp_strs U), .lst (sl_of hA2) (dp_strs U), shaped_U hU, shaped_U hU, ?_⟩
    all_goals rw [eqv_strs]
    · obtain ⟨lx, sx⟩ := due_sc ex
      rcases hd with ⟨e, _⟩ | ⟨xs', q, e, rfl, hq⟩
      · rw [ex] at e; cases e
      · obtain rfl : xs = xs' := Option.some.inj (ex.symm.trans e)
        walk_at "rdD"
        exact ⟨_, _, rfl, .inr ⟨alike_tup1 (n := 1) hp (s2 _ _ (s0 _ _ hq)) (by omega) sx, fun H3 s3 => h H3 ((s0.trans s2).trans s3)⟩⟩
    · rcases hd with ⟨_, rfl⟩ | ⟨xs', q, e, _⟩
      · walk_at "rdD"
        refine ⟨p, a, ys, U, rfl, hp, hA2, by omega, hperm, hs, (due_none.mp en).2, fun H3 s3 => ?_⟩
        have hp3 := s3 _ _ hp
        have npH := s0.free np
        have sm3 := (s0.trans s2).trans s3
        walk_at "rdD"
        refine ⟨.inl ⟨rfl, _, .inl (.inl hp3)⟩, ?_⟩
        walk_at "rdD"
        have ly := hperm.length_eq
        refine ⟨p, _, _, rfl, rfl, hp3, by rw [List.length_map]; exact Nat.lt_of_le_of_lt (by omega : ys.length ≤ 1000) (by decide), ?_⟩
        walk_at "rdD"
        have hlen : 0 < (ys.map V.str ++ [V.str "z"]).length := by simp
        refine rd_setL upd_same (ixN_nat (by omega) (by omega)) ?_
        rw [upd_upd]
        walk_at "rdD"
        have sF := same_mut (o := .lst ((ys.map V.str ++ [V.str "z"]).set (0 : Int).toNat (V.str "zz"))) sm3 npH
        have hpc : c ≠ p := (ne np).symm
        have hc3 := s3 _ _ hc2
        refine ⟨_, _, .lst (sl_of (by rw [upd_ne hpc]; exact hc3)) (dp_strs U), .lst (sl_of (sF _ _ hA)) (dp_strs U), shaped_U hU, shaped_U hU, ?_⟩
        rw [eqv_strs]
        exact h _ sF
      · rw [en] at e; cases e
end

abbrev slaw : Stmt := topS 37
theorem sclaw : FnScope ["script", "store", "listed", "due"] ["script"] (defScope slaw) := ⟨rfl, rfl, rfl, by decide +kernel, rfl, by decide +kernel, by decide +kernel⟩

theorem alike_lst1 {H : Hp} {p q : Addr} {xs : List V} {n : Nat} (hp : H p = some (.lst xs)) (hq : H q = some (.lst xs)) (hl : xs.length ≤ 100000) (sc : ∀ x ∈ xs, Sc x) : Alike H (n + 1) (.ref p) (.ref q) :=
  .inr ⟨p, q, xs, xs, rfl, rfl, .inl ⟨hp, hq⟩, rfl, hl, fun i u v h1 h2 => by
    have e : u = v := Option.some.inj (h1.symm.trans h2)
    subst e
    cases n with
    | zero => exact ⟨sc u (List.mem_of_getElem? h1), rfl⟩
    | succ n => exact .inl ⟨sc u (List.mem_of_getElem? h1), rfl⟩⟩
theorem due_perm {U W : List Str} (h : W.Perm U) (e : dueL U = none) : dueL W = none := by
  obtain ⟨a, b⟩ := due_none.mp e
  exact due_none.mpr ⟨fun z hz => a z (h.mem_iff.mp hz), h.nodup_iff.mpr b⟩
/-- what _law_asked tells of the texts U -/
def Told (U : List Str) (H : Hp) (p : Addr) : Prop := (∃ xs, dueL U = some xs ∧ H p = some (.tup xs)) ∨ (dueL U = none ∧ ∃ ys : List Str, ys.Perm U ∧ ys.Pairwise (fun x y => ¬ ltS y x) ∧ H p = some (.lst (ys.map V.str)))
theorem Told.same {U : List Str} {H H' : Hp} {p : Addr} (t : Told U H p) (s : Same H H') : Told U H' p := by
  rcases t with ⟨xs, e, h⟩ | ⟨e, ys, a, b, h⟩
  · exact .inl ⟨xs, e, s _ _ h⟩
  · exact .inr ⟨e, ys, a, b, s _ _ h⟩
theorem told_alike {U : List Str} {H : Hp} {p q : Addr} (lU : U.length ≤ 2000) (t : Told U H p) (u : Told U H q) : Alike H 2 (.ref p) (.ref q) := by
  rcases t with ⟨xs, e, h⟩ | ⟨e, ys, a, b, h⟩ <;> rcases u with ⟨xs', e', h'⟩ | ⟨e', ys', a', b', h'⟩
  · obtain rfl := Option.some.inj (e.symm.trans e')
    obtain ⟨lx, sx⟩ := due_sc e
    exact alike_tup1 (n := 1) h h' (by omega) sx
  · rw [e] at e'; cases e'
  · rw [e] at e'; cases e'
  · obtain rfl := sorted_eq (a.trans a'.symm) b b'
    have := a.length_eq
    exact alike_lst1 (n := 1) h h' (by rw [List.length_map]; omega) fun x hx => by
      obtain ⟨z, _, rfl⟩ := List.mem_map.mp hx
      trivial
section
variable {P : Program} {w : World} {K : PySem.W.Frag} {mg : Str → Option Value} {base : Heap} {C CD cO cN cU : Addr}
theorem asked_of {H : Hp} {Q : VK} {E : XK} {a : Addr} {U : List Str} {b : Bool} (hA : Strs H a U) (lU : U.length ≤ 2000) (hzl : ∀ z ∈ U, z.length ≤ 1000) (q : ∀ p H', Same H H' → Told U H' p → Q (.ref p) H') : spAsked [.ref a, .bl b] H Q E :=
  ⟨a, U, b, rfl, hA, lU, hzl, fun xs p H' e s _ h => q p H' s (.inl ⟨xs, e, h⟩), fun e ys p H' a b s _ h => q p H' s (.inr ⟨e, ys, a, b, h⟩)⟩
def spLaw (K : PySem.W.Frag) : Sp := fun vs H Q _ => ∃ (a : Addr) (ns : List Int), vs = [.ref a] ∧ SqL K H a (ns.map V.int) ∧ ns.length ≤ 63 ∧ ∀ H', Q (.bl true) H'
theorem ok_law {k : Nat} {f : Addr} {fd : FuncData} (F : Fun K "law" "law" slaw f fd) (T : Blt mg) (H_law_store : Has P w K mg base "_law_store" k ["script"] (spStore K)) (H_law_listed : Has P w K mg base "_law_listed" k ["store"] spNumb) (H_law_due : Has P w K mg base "_law_due" k ["listed"] spDue) (H_law_holds : Has P w K mg base "_law_holds" k ["listed", "due"] spHolds) (H_law_same : Has P w K mg base "_law_same" k ["actual", "expected"] (spSame 2)) (H_law_asked : Has P w K mg base "_law_asked" k ["listed", "named"] spAsked) : FnOk P w K mg base CX0 (k + 1) f fd ["script"] (spLaw K) := by
  refine F.ok sclaw (fun vs H Q E h => ?_) (fun cdv A outer s H vs Q E hr h => ?_)
  · obtain ⟨a, ns, rfl, _⟩ := h; rfl
  · obtain ⟨a, ns, rfl, hL, _, h⟩ := h
    refine ⟨_, (pss_cons (ps_set (i := 1) sclaw.nd rfl (.inl rfl) (pe_callH H_law_store hr (by rfl) (pa_cons (pv 0) pa_nil)))
 (pss_cons (ps_set (i := 2) sclaw.nd rfl (.inl rfl) (pe_callH H_law_listed hr (by rfl) (pa_cons (pv 1) pa_nil)))
 (pss_cons (ps_set (i := 3) sclaw.nd rfl (.inl rfl) (pe_callH H_law_due hr (by rfl) (pa_cons (pv 2) pa_nil)))
 (pss_cons (ps_if (PW.pt (pw_or (pt_not (pt_val (pe_callH H_law_holds hr (by rfl) (pa_cons (pv 2) (pa_cons (pv 3) pa_nil))))) (pw_or1 (pt_not (pt_val (pe_callH H_law_holds hr (by rfl) (pa_cons (pv 2) (pa_cons (pv 3) pa_nil)))))))) (pss_one (ps_ret pe_bl)) pss_nil)
 (pss_cons (ps_if (pt_not (pt_val (pe_callH H_law_same hr (by rfl) (pa_cons (pe_callH H_law_asked hr (by rfl) (pa_cons (pe_callTy call_tuple_of (by rfl) T.tuple (by decide +kernel) (pa_cons (pv 2) pa_nil)) (pa_cons pe_bl pa_nil))) (pa_cons (pe_callH H_law_asked hr (by rfl) (pa_cons (pe_callTy call_list_of (by rfl) T.list' (by decide +kernel) (pa_cons (pv 2) pa_nil)) (pa_cons pe_bl pa_nil))) pa_nil))))) (pss_one (ps_ret pe_bl)) pss_nil)
 (pss_cons (ps_if (pt_not (pt_val (pe_callH H_law_same hr (by rfl) (pa_cons (pe_callH H_law_asked hr (by rfl) (pa_cons (pe_callTy call_list_of (by rfl) T.list' (by decide +kernel) (pa_cons (pv 2) pa_nil)) (pa_cons pe_bl pa_nil))) (pa_cons (pe_callH H_law_asked hr (by rfl) (pa_cons (pe_callTy call_list_of (by rfl) T.list' (by decide +kernel) (pa_cons (pv 2) pa_nil)) (pa_cons pe_bl pa_nil))) pa_nil))))) (pss_one (ps_ret pe_bl)) pss_nil)
 (pss_one (ps_ret (pe_or (pe_cmpR op_notN (pv 3) pe_non (nomark _)) (pe_one (pe_and (pe_callH H_law_holds hr (by rfl) (pa_cons (pe_lstRev rfl (by rfl) T.list' (by rfl) T.reversed (pv 2)) (pa_cons pe_non pa_nil))) (pe_one (pe_callH H_law_holds hr (by rfl) (pa_cons (pe_callB cr_sortedX (by rfl) T.sorted (by decide +kernel) (pa_cons (pv 2) pa_nil)) (pa_cons pe_non pa_nil))))))))))))))), ?_⟩
    walk_at "rdD"
    refine ⟨a, ns, rfl, hL, fun S H1 hS1 s1 => ?_⟩
    walk_at "rdD"
    refine ⟨S, rfl, hS1, fun u U H2 hU lU _ hA2 hS2 e2 => ?_⟩
    have hzl : ∀ z ∈ U, z.length ≤ 1000 := fun z hz => by have := (hU z hz).len; omega
    have hu2 := hA2.2
    clear hA2 hS2 e2
    have rest : ∀ (d : V) (H3 : Hp), Same H2 H3 → ((dueL U = none ∧ d = .non) ∨ ∃ xs q, dueL U = some xs ∧ d = .ref q ∧ H3 q = some (.tup xs)) →
        (∀ Hx, Same H3 Hx → ((dueL U = none ∧ d = .non) ∨ ∃ xs q, dueL U = some xs ∧ d = .ref q ∧ Hx q = some (.tup xs))) := fun d H3 s3 hd Hx sx => by
      rcases hd with hd | ⟨xs, q, e1, e2, e3⟩
      · exact .inl hd
      · exact .inr ⟨xs, q, e1, e2, sx _ _ e3⟩
    walk_at "rdD"
    refine ⟨u, U, rfl, hu2, by omega, hzl, fun en H3 s3 => ?_, fun xs q H3 ex s3 nq hq => ?_⟩
    · have hd : ((dueL U = none ∧ (V.non) = .non) ∨ ∃ xs q, dueL U = some xs ∧ V.non = .ref q ∧ H3 q = some (.tup xs)) := .inl ⟨en, rfl⟩
      walk_at "rdD"
      refine ⟨u, .non, U, rfl, s3 _ _ hu2, lU, hU, hd, fun H4 s4 => ?_⟩
      walk_at "rdD"
      refine ⟨u, .non, U, rfl, (s3.trans s4) _ _ hu2, lU, hU, rest _ H3 s3 hd H4 s4, fun H5 s5 => ?_⟩
      have s5' := (s3.trans s4).trans s5
      walk_at "rdD"
      refine ⟨u, _, rfl, .inl ⟨sl_of (s5' _ _ hu2), fun t nt => ?_⟩⟩
      have st := s5'.trans (same_new (o := .tup (U.map V.str)) nt)
      walk_at "rdD"
      refine asked_of (.inr upd_same) (by omega) hzl fun p6 H6 s6 t6 => ?_
      have s6' := st.trans s6
      walk_at "rdD"
      refine ⟨u, _, rfl, .inl (sl_of (s6' _ _ hu2)), fun l nl => ?_⟩
      have sl := same_new (o := .lst (U.map V.str)) nl
      walk_at "rdD"
      refine asked_of (.inl upd_same) (by omega) hzl fun p7 H7 s7 t7 => ?_
      walk_at "rdD"
      refine ⟨_, _, rfl, .inr ⟨told_alike (by omega) (t6.same (sl.trans s7)) t7, fun H8 s8 => ?_⟩⟩
      have s8' := (s6'.trans (sl.trans s7)).trans s8
      walk_at "rdD"
      refine ⟨u, _, rfl, .inl (sl_of (s8' _ _ hu2)), fun l2 nl2 => ?_⟩
      have sl2 := same_new (o := .lst (U.map V.str)) nl2
      walk_at "rdD"
      refine asked_of (.inl upd_same) (by omega) hzl fun p9 H9 s9 t9 => ?_
      have s9' := (s8'.trans sl2).trans s9
      walk_at "rdD"
      refine ⟨u, _, rfl, .inl (sl_of (s9' _ _ hu2)), fun l3 nl3 => ?_⟩
      have sl3 := same_new (o := .lst (U.map V.str)) nl3
      walk_at "rdD"
      refine asked_of (.inl upd_same) (by omega) hzl fun p10 H10 s10 t10 => ?_
      walk_at "rdD"
      refine ⟨_, _, rfl, .inr ⟨told_alike (by omega) (t9.same (sl3.trans s10)) t10, fun H11 s11 => ?_⟩⟩
      have s11' := (s9'.trans (sl3.trans s10)).trans s11
      walk_at "rdD"
      refine ⟨u, _, rfl, sl_of (s11' _ _ hu2), fun l4 nl4 => ?_⟩
      have sl4 := same_new (o := .lst (U.map V.str).reverse) nl4
      walk_at "rdD"
      refine ⟨l4, .non, U.reverse, rfl, by rw [upd_same, List.map_reverse], by rw [List.length_reverse]; exact lU, fun z hz => hU z (List.mem_reverse.mp hz), .inl ⟨due_perm (List.reverse_perm U) en, rfl⟩, fun H12 s12 => ?_⟩
      have s12' := (s11'.trans sl4).trans s12
      walk_at "rdD"
      refine ⟨u, U, rfl, .inl (sl_of (s12' _ _ hu2)), fun ys p hperm _ np => ?_⟩
      walk_at "rdD"
      have ly := hperm.length_eq
      exact ⟨p, .non, ys, rfl, upd_same, by omega, fun z hz => hU z (hperm.mem_iff.mp hz), .inl ⟨due_perm hperm en, rfl⟩, fun H13 s13 => h H13⟩
    · have hd : ((dueL U = none ∧ (V.ref q) = .non) ∨ ∃ xs q', dueL U = some xs ∧ V.ref q = .ref q' ∧ H3 q' = some (.tup xs)) := .inr ⟨xs, q, ex, rfl, hq⟩
      walk_at "rdD"
      refine ⟨u, .ref q, U, rfl, s3 _ _ hu2, lU, hU, hd, fun H4 s4 => ?_⟩
      walk_at "rdD"
      refine ⟨u, .ref q, U, rfl, (s3.trans s4) _ _ hu2, lU, hU, rest _ H3 s3 hd H4 s4, fun H5 s5 => ?_⟩
      have s5' := (s3.trans s4).trans s5
      walk_at "rdD"
      refine ⟨u, _, rfl, .inl ⟨sl_of (s5' _ _ hu2), fun t nt => ?_⟩⟩
      have st := s5'.trans (same_new (o := .tup (U.map V.str)) nt)
      walk_at "rdD"
      refine asked_of (.inr upd_same) (by omega) hzl fun p6 H6 s6 t6 => ?_
      have s6' := st.trans s6
      walk_at "rdD"
      refine ⟨u, _, rfl, .inl (sl_of (s6' _ _ hu2)), fun l nl => ?_⟩
      have sl := same_new (o := .lst (U.map V.str)) nl
      walk_at "rdD"
      refine asked_of (.inl upd_same) (by omega) hzl fun p7 H7 s7 t7 => ?_
      walk_at "rdD"
      refine ⟨_, _, rfl, .inr ⟨told_alike (by omega) (t6.same (sl.trans s7)) t7, fun H8 s8 => ?_⟩⟩
      have s8' := (s6'.trans (sl.trans s7)).trans s8
      walk_at "rdD"
      refine ⟨u, _, rfl, .inl (sl_of (s8' _ _ hu2)), fun l2 nl2 => ?_⟩
      have sl2 := same_new (o := .lst (U.map V.str)) nl2
      walk_at "rdD"
      refine asked_of (.inl upd_same) (by omega) hzl fun p9 H9 s9 t9 => ?_
      have s9' := (s8'.trans sl2).trans s9
      walk_at "rdD"
      refine ⟨u, _, rfl, .inl (sl_of (s9' _ _ hu2)), fun l3 nl3 => ?_⟩
      have sl3 := same_new (o := .lst (U.map V.str)) nl3
      walk_at "rdD"
      refine asked_of (.inl upd_same) (by omega) hzl fun p10 H10 s10 t10 => ?_
      walk_at "rdD"
      refine ⟨_, _, rfl, .inr ⟨told_alike (by omega) (t9.same (sl3.trans s10)) t10, fun H11 s11 => ?_⟩⟩
      have s11' := (s9'.trans (sl3.trans s10)).trans s11
      walk_at "rdD"
      exact h _
end

theorem kb_of {K : PySem.W.Frag} {x qual : Str} {st : Stmt} {f : Addr} {fd : FuncData} {ps ks : List Str} {g : List Value → List Value} (F : Fun K x qual st f fd)
    (h : ∀ (kV doc pm : Value) (an : Option Addr) (cdv ct : Value) (ws : List Value), ws.length = ks.length → bindArgs (PySem.W.fnOf x qual (defArgs st) (defBody st) (defScope st) .none kV doc pm an cdv ct) ⟨[], ks.zip ws⟩ = pure (ps.zip (g ws))) : ∀ (s : Shared) (ws : List Value), ws.length = ks.length → BindsTo s fd ⟨[], ks.zip ws⟩ (ps.zip (g ws)) := by
  obtain ⟨oc, od, kV, doc, pm, an, cdv, ct, osl, rfl, lk, hcd⟩ := F.ex
  exact fun s ws hl => .of_eq (h kV doc pm an cdv ct ws hl)
theorem vals_id {vs : List V} {ws : List Value} (r : Vals vs ws) : Vals (id vs) (id ws) := r
theorem vals_rev2 : ∀ (vs : List V) (ws : List Value), vs.length = 2 → Vals vs ws → Vals vs.reverse ws.reverse
  | [_, _], _, _, .cons a (.cons b .nil) => .cons b (.cons a .nil)
theorem vals_rev : ∀ {vs : List V} {ws : List Value}, Vals vs ws → Vals vs.reverse ws.reverse
  | _, _, .nil => .nil
  | _, _, .cons a r => by
    rw [List.reverse_cons, List.reverse_cons]
    exact (vals_rev r).append (.cons a .nil)
theorem kb_cm {K : PySem.W.Frag} {x qual : Str} {st : Stmt} {f : Addr} {fd : FuncData} {ps ks : List Str} (F : Fun K x qual st f fd)
    (h : ∀ (kV doc pm : Value) (an : Option Addr) (cdv ct : Value) (u : Value) (ws : List Value), ws.length = ks.length → bindArgs (PySem.W.fnOf x qual (defArgs st) (defBody st) (defScope st) .none kV doc pm an cdv ct) ⟨[u], ks.zip ws⟩ = pure (ps.zip (u :: ws))) : ∀ (s : Shared) (u : Value) (ws : List Value), ws.length = ks.length → BindsTo s fd ⟨[u], ks.zip ws⟩ (ps.zip (u :: ws)) := by
  obtain ⟨oc, od, kV, doc, pm, an, cdv, ct, osl, rfl, lk, hcd⟩ := F.ex
  exact fun s u ws hl => .of_eq (h kV doc pm an cdv ct u ws hl)
theorem fund_mk {K : PySem.W.Frag} {x qual : Str} {st : Stmt} {f T : Addr} {dvs : List V} {its : List Value} {oc oT kV doc pm cdv ct : Value} {od an oD : Option Addr} {osl tsl : Array (Option Value)} {n : Nat} (hne : dvs ≠ []) (l : K.lookup f = some ⟨oc, od, .func (PySem.W.fnOf x qual (defArgs st) (defBody st) (defScope st) (.ref T) kV doc pm an cdv ct), osl⟩)
    (c : PySem.W.codeIn K cdv qual = true) (kp : PySem.W.keepIn K (.ref f) = true) (t : K.lookup T = some ⟨oT, oD, .seq its.toArray n, tsl⟩) (r : Vals dvs its) : FunD K x qual (defArgs st) (defBody st) (defScope st) dvs [] f (PySem.W.fnOf x qual (defArgs st) (defBody st) (defScope st) (.ref T) kV doc pm an cdv ct) :=
  ⟨⟨oc, od, .ref T, kV, doc, pm, an, cdv, ct, osl, rfl, l, c, .inr ⟨hne, T, _, its, n, rfl, t, rfl, r⟩, .inl rfl⟩, kp⟩

set_option maxHeartbeats 0 in
theorem all_mk {l : PySem.W.OpenLaw} {w : World} {K : PySem.W.Frag} {h : Heap} {mg : Str → Option Value} {fa : Addr} {C fC : Addr} {nmC qC : Str} {NC : Addr} {bsC bmC : List Value} {snC : List Str} {subC : List Value} {abC : Bool} {colC : Option Bool} {ddC : Option Addr} {m0C m1C m2C m3C m5C : Option Value} {odC anC : Option Addr} {slC : Array (Option Value)} {ocC kVC dcC pmC cdC ctC : Value} {CD fCD : Addr} {nmCD qCD : Str} {NCD : Addr} {bsCD bmCD : List Value} {snCD : List Str} {subCD : List Value} {abCD : Bool} {colCD : Option Bool} {ddCD : Option Addr} {m0CD m1CD m2CD m3CD m5CD : Option Value} {odCD anCD : Option Addr} {slCD : Array (Option Value)} {ocCD kVCD dcCD pmCD cdCD ctCD : Value} {cO : Addr} {cN : Addr} {cU : Addr} {f0 : Addr} {od0 an0 : Option Addr} {sl0 : Array (Option Value)} {oc0 kV0 dc0 pm0 cd0 ct0 : Value} {f1 : Addr} {od1 an1 : Option Addr} {sl1 : Array (Option Value)} {oc1 kV1 dc1 pm1 cd1 ct1 : Value} {f2 : Addr} {od2 an2 : Option Addr} {sl2 : Array (Option Value)} {oc2 kV2 dc2 pm2 cd2 ct2 : Value} {f3 : Addr} {od3 an3 : Option Addr} {sl3 : Array (Option Value)} {oc3 kV3 dc3 pm3 cd3 ct3 : Value} {f4 : Addr} {od4 an4 : Option Addr} {sl4 : Array (Option Value)} {oc4 kV4 dc4 pm4 cd4 ct4 : Value} {f5 : Addr} {od5 an5 : Option Addr} {sl5 : Array (Option Value)} {oc5 kV5 dc5 pm5 cd5 ct5 : Value} {f6 : Addr} {od6 an6 : Option Addr} {sl6 : Array (Option Value)} {oc6 kV6 dc6 pm6 cd6 ct6 : Value} {f7 : Addr} {od7 an7 : Option Addr} {sl7 : Array (Option Value)} {oc7 kV7 dc7 pm7 cd7 ct7 : Value} {f8 : Addr} {od8 an8 : Option Addr} {sl8 : Array (Option Value)} {oc8 kV8 dc8 pm8 cd8 ct8 : Value} {f9 : Addr} {od9 an9 : Option Addr} {sl9 : Array (Option Value)} {oc9 kV9 dc9 pm9 cd9 ct9 : Value} {f10 : Addr} {od10 an10 : Option Addr} {sl10 : Array (Option Value)} {oc10 kV10 dc10 pm10 cd10 ct10 : Value} {f11 : Addr} {od11 an11 : Option Addr} {sl11 : Array (Option Value)} {oc11 kV11 dc11 pm11 cd11 ct11 : Value} {f12 : Addr} {od12 an12 : Option Addr} {sl12 : Array (Option Value)} {oc12 kV12 dc12 pm12 cd12 ct12 : Value} {f13 : Addr} {od13 an13 : Option Addr} {sl13 : Array (Option Value)} {oc13 kV13 dc13 pm13 cd13 ct13 : Value} {f14 : Addr} {od14 an14 : Option Addr} {sl14 : Array (Option Value)} {oc14 kV14 dc14 pm14 cd14 ct14 : Value} {f15 : Addr} {od15 an15 : Option Addr} {sl15 : Array (Option Value)} {oc15 kV15 dc15 pm15 cd15 ct15 : Value} {f16 : Addr} {od16 an16 : Option Addr} {sl16 : Array (Option Value)} {oc16 kV16 dc16 pm16 cd16 ct16 : Value} {f17 : Addr} {od17 an17 : Option Addr} {sl17 : Array (Option Value)} {oc17 kV17 dc17 pm17 cd17 ct17 : Value} {f18 : Addr} {od18 an18 : Option Addr} {sl18 : Array (Option Value)} {oc18 kV18 dc18 pm18 cd18 ct18 : Value} {f19 : Addr} {od19 an19 : Option Addr} {sl19 : Array (Option Value)} {oc19 kV19 dc19 pm19 cd19 ct19 : Value} {f20 : Addr} {od20 an20 : Option Addr} {sl20 : Array (Option Value)} {oc20 kV20 dc20 pm20 cd20 ct20 : Value} {f21 : Addr} {od21 an21 : Option Addr} {sl21 : Array (Option Value)} {oc21 kV21 dc21 pm21 cd21 ct21 : Value} {f22 : Addr} {od22 an22 : Option Addr} {sl22 : Array (Option Value)} {oc22 kV22 dc22 pm22 cd22 ct22 : Value} {f23 : Addr} {od23 an23 : Option Addr} {sl23 : Array (Option Value)} {oc23 kV23 dc23 pm23 cd23 ct23 : Value} {f24 : Addr} {od24 an24 : Option Addr} {sl24 : Array (Option Value)} {oc24 kV24 dc24 pm24 cd24 ct24 : Value}
    (X : K.In h) (G : h.Ns mainGlobals mg) (hfa : mg "law" = some (.ref fa))
    (gC : PySem.W.nsIn K mainGlobals "BadName" = some (some (.ref C)))
    (xC : K.lookup C = some (excClassObj nmC qC C NC bsC bmC true snC subC abC colC ddC m0C m1C m2C m3C m5C "ValueError.__new__"))
    (rC : PySem.HandSPX.refsVE bmC = true)
    (saC : PySem.W.findIn K (.ref C) "__setattr__" = some (some (.builtin "object.__setattr__")))
    (gaC : PySem.W.findIn K (.ref C) "__getattribute__" = some (some (.builtin "BaseException.__getattribute__")))
    (ggC : PySem.W.findIn K (.ref C) "__getattr__" = some none)
    (nfCname : PySem.W.findIn K (.ref C) "name" = some none)
    (kpC : PySem.W.keepIn K (.ref C) = true)
    (exC : PySem.W.subIn K (.ref C) (.type "BaseException") = some true)
    (tyC : PySem.W.typeIn K (.ref C) = some (.type "type"))
    (hdC : PySem.W.hasDictIn K C = true)
    (haC : PySem.W.findIn K (.ref C) "__class__" = some (some (.builtin "object.__class__")))
    (hnC : PySem.W.specialIn K (.builtin "object.__class__") "__get__" = some (some (.builtin "getset_descriptor.__get__")))
    (htC : PySem.W.takesIn K (.builtin "object.__class__") = some true)
    (hmC : PySem.W.mroIn K C (.type "object") = some true)
    (suC : PySem.W.subIn K (.ref C) (.ref C) = some true)
    (iC : PySem.W.findIn K (.ref C) "__init__" = some (some (.ref fC)))
    (tiC : PySem.W.typeIn K (.ref fC) = some (.type "function"))
    (lC : K.lookup fC = some ⟨ocC, odC, .func (PySem.W.fnOf "__init__" "BadName.__init__" (defArgs sBadName___init__) (defBody sBadName___init__) (defScope sBadName___init__) .none kVC dcC pmC anC cdC ctC), slC⟩)
    (cC : PySem.W.codeIn K cdC "BadName.__init__" = true)
    (kC : PySem.W.keepIn K (.ref fC) = true)
    (gCD : PySem.W.nsIn K mainGlobals "Doubled" = some (some (.ref CD)))
    (xCD : K.lookup CD = some (excClassObj nmCD qCD CD NCD bsCD bmCD true snCD subCD abCD colCD ddCD m0CD m1CD m2CD m3CD m5CD "ValueError.__new__"))
    (rCD : PySem.HandSPX.refsVE bmCD = true)
    (saCD : PySem.W.findIn K (.ref CD) "__setattr__" = some (some (.builtin "object.__setattr__")))
    (gaCD : PySem.W.findIn K (.ref CD) "__getattribute__" = some (some (.builtin "BaseException.__getattribute__")))
    (ggCD : PySem.W.findIn K (.ref CD) "__getattr__" = some none)
    (nfCDname : PySem.W.findIn K (.ref CD) "name" = some none)
    (kpCD : PySem.W.keepIn K (.ref CD) = true)
    (exCD : PySem.W.subIn K (.ref CD) (.type "BaseException") = some true)
    (tyCD : PySem.W.typeIn K (.ref CD) = some (.type "type"))
    (hdCD : PySem.W.hasDictIn K CD = true)
    (haCD : PySem.W.findIn K (.ref CD) "__class__" = some (some (.builtin "object.__class__")))
    (hnCD : PySem.W.specialIn K (.builtin "object.__class__") "__get__" = some (some (.builtin "getset_descriptor.__get__")))
    (htCD : PySem.W.takesIn K (.builtin "object.__class__") = some true)
    (hmCD : PySem.W.mroIn K CD (.type "object") = some true)
    (suCD : PySem.W.subIn K (.ref CD) (.ref CD) = some true)
    (iCD : PySem.W.findIn K (.ref CD) "__init__" = some (some (.ref fCD)))
    (tiCD : PySem.W.typeIn K (.ref fCD) = some (.type "function"))
    (lCD : K.lookup fCD = some ⟨ocCD, odCD, .func (PySem.W.fnOf "__init__" "Doubled.__init__" (defArgs sDoubled___init__) (defBody sDoubled___init__) (defScope sDoubled___init__) .none kVCD dcCD pmCD anCD cdCD ctCD), slCD⟩)
    (cCD : PySem.W.codeIn K cdCD "Doubled.__init__" = true)
    (kCD : PySem.W.keepIn K (.ref fCD) = true)
    (gcO : PySem.W.nsIn K mainGlobals "OutshinerError" = some (some (.ref cO)))
    (gcN : PySem.W.nsIn K mainGlobals "BadNumber" = some (some (.ref cN)))
    (gcU : PySem.W.nsIn K mainGlobals "Unknown" = some (some (.ref cU)))
    (nO : PySem.W.kitOne K (.ref C) (.ref cO) = some true)
    (nD : PySem.W.kitOne K (.ref C) (.ref CD) = some false)
    (nN : PySem.W.kitOne K (.ref C) (.ref cN) = some false)
    (nU : PySem.W.kitOne K (.ref C) (.ref cU) = some false)
    (dO : PySem.W.kitOne K (.ref CD) (.ref cO) = some true)
    (dB : PySem.W.kitOne K (.ref CD) (.ref C) = some false)
    (dN : PySem.W.kitOne K (.ref CD) (.ref cN) = some false)
    (dU : PySem.W.kitOne K (.ref CD) (.ref cU) = some false)
    (ne : PySem.W.subIn K (.ref CD) (.ref C) = some false)
    (a0 : PySem.W.nsIn K mainGlobals "check_unlike" = some (some (.ref f0)))
    (l0 : K.lookup f0 = some ⟨oc0, od0, .func (PySem.W.fnOf "check_unlike" "check_unlike" (defArgs scheck_unlike) (defBody scheck_unlike) (defScope scheck_unlike) .none kV0 dc0 pm0 an0 cd0 ct0), sl0⟩)
    (c0 : PySem.W.codeIn K cd0 "check_unlike" = true)
    (k0 : PySem.W.keepIn K (.ref f0) = true)
    (a1 : PySem.W.nsIn K mainGlobals "is_name" = some (some (.ref f1)))
    (l1 : K.lookup f1 = some ⟨oc1, od1, .func (PySem.W.fnOf "is_name" "is_name" (defArgs sis_name) (defBody sis_name) (defScope sis_name) .none kV1 dc1 pm1 an1 cd1 ct1), sl1⟩)
    (c1 : PySem.W.codeIn K cd1 "is_name" = true)
    (k1 : PySem.W.keepIn K (.ref f1) = true)
    (a2 : PySem.W.nsIn K mainGlobals "check_name" = some (some (.ref f2)))
    (l2 : K.lookup f2 = some ⟨oc2, od2, .func (PySem.W.fnOf "check_name" "check_name" (defArgs scheck_name) (defBody scheck_name) (defScope scheck_name) .none kV2 dc2 pm2 an2 cd2 ct2), sl2⟩)
    (c2 : PySem.W.codeIn K cd2 "check_name" = true)
    (k2 : PySem.W.keepIn K (.ref f2) = true)
    (a3 : PySem.W.nsIn K mainGlobals "ordered" = some (some (.ref f3)))
    (l3 : K.lookup f3 = some ⟨oc3, od3, .func (PySem.W.fnOf "ordered" "ordered" (defArgs sordered) (defBody sordered) (defScope sordered) .none kV3 dc3 pm3 an3 cd3 ct3), sl3⟩)
    (c3 : PySem.W.codeIn K cd3 "ordered" = true)
    (k3 : PySem.W.keepIn K (.ref f3) = true)
    (a4 : PySem.W.nsIn K mainGlobals "_law_store" = some (some (.ref f4)))
    (l4 : K.lookup f4 = some ⟨oc4, od4, .func (PySem.W.fnOf "_law_store" "_law_store" (defArgs s_law_store) (defBody s_law_store) (defScope s_law_store) .none kV4 dc4 pm4 an4 cd4 ct4), sl4⟩)
    (c4 : PySem.W.codeIn K cd4 "_law_store" = true)
    (k4 : PySem.W.keepIn K (.ref f4) = true)
    (a5 : PySem.W.nsIn K mainGlobals "_law_stir" = some (some (.ref f5)))
    (l5 : K.lookup f5 = some ⟨oc5, od5, .func (PySem.W.fnOf "_law_stir" "_law_stir" (defArgs s_law_stir) (defBody s_law_stir) (defScope s_law_stir) .none kV5 dc5 pm5 an5 cd5 ct5), sl5⟩)
    (c5 : PySem.W.codeIn K cd5 "_law_stir" = true)
    (k5 : PySem.W.keepIn K (.ref f5) = true)
    (a6 : PySem.W.nsIn K mainGlobals "_law_take" = some (some (.ref f6)))
    (l6 : K.lookup f6 = some ⟨oc6, od6, .func (PySem.W.fnOf "_law_take" "_law_take" (defArgs s_law_take) (defBody s_law_take) (defScope s_law_take) .none kV6 dc6 pm6 an6 cd6 ct6), sl6⟩)
    (c6 : PySem.W.codeIn K cd6 "_law_take" = true)
    (k6 : PySem.W.keepIn K (.ref f6) = true)
    (a7 : PySem.W.nsIn K mainGlobals "_law_pick" = some (some (.ref f7)))
    (l7 : K.lookup f7 = some ⟨oc7, od7, .func (PySem.W.fnOf "_law_pick" "_law_pick" (defArgs s_law_pick) (defBody s_law_pick) (defScope s_law_pick) .none kV7 dc7 pm7 an7 cd7 ct7), sl7⟩)
    (c7 : PySem.W.codeIn K cd7 "_law_pick" = true)
    (k7 : PySem.W.keepIn K (.ref f7) = true)
    (a8 : PySem.W.nsIn K mainGlobals "_law_shuffled" = some (some (.ref f8)))
    (l8 : K.lookup f8 = some ⟨oc8, od8, .func (PySem.W.fnOf "_law_shuffled" "_law_shuffled" (defArgs s_law_shuffled) (defBody s_law_shuffled) (defScope s_law_shuffled) .none kV8 dc8 pm8 an8 cd8 ct8), sl8⟩)
    (c8 : PySem.W.codeIn K cd8 "_law_shuffled" = true)
    (k8 : PySem.W.keepIn K (.ref f8) = true)
    (a9 : PySem.W.nsIn K mainGlobals "_law_name" = some (some (.ref f9)))
    (l9 : K.lookup f9 = some ⟨oc9, od9, .func (PySem.W.fnOf "_law_name" "_law_name" (defArgs s_law_name) (defBody s_law_name) (defScope s_law_name) .none kV9 dc9 pm9 an9 cd9 ct9), sl9⟩)
    (c9 : PySem.W.codeIn K cd9 "_law_name" = true)
    (k9 : PySem.W.keepIn K (.ref f9) = true)
    (a10 : PySem.W.nsIn K mainGlobals "_law_unused" = some (some (.ref f10)))
    (l10 : K.lookup f10 = some ⟨oc10, od10, .func (PySem.W.fnOf "_law_unused" "_law_unused" (defArgs s_law_unused) (defBody s_law_unused) (defScope s_law_unused) .none kV10 dc10 pm10 an10 cd10 ct10), sl10⟩)
    (c10 : PySem.W.codeIn K cd10 "_law_unused" = true)
    (k10 : PySem.W.keepIn K (.ref f10) = true)
    (a11 : PySem.W.nsIn K mainGlobals "_law_fresh_names" = some (some (.ref f11)))
    (l11 : K.lookup f11 = some ⟨oc11, od11, .func (PySem.W.fnOf "_law_fresh_names" "_law_fresh_names" (defArgs s_law_fresh_names) (defBody s_law_fresh_names) (defScope s_law_fresh_names) .none kV11 dc11 pm11 an11 cd11 ct11), sl11⟩)
    (c11 : PySem.W.codeIn K cd11 "_law_fresh_names" = true)
    (k11 : PySem.W.keepIn K (.ref f11) = true)
    (a12 : PySem.W.nsIn K mainGlobals "_law_names" = some (some (.ref f12)))
    (l12 : K.lookup f12 = some ⟨oc12, od12, .func (PySem.W.fnOf "_law_names" "_law_names" (defArgs s_law_names) (defBody s_law_names) (defScope s_law_names) .none kV12 dc12 pm12 an12 cd12 ct12), sl12⟩)
    (c12 : PySem.W.codeIn K cd12 "_law_names" = true)
    (k12 : PySem.W.keepIn K (.ref f12) = true)
    (a13 : PySem.W.nsIn K mainGlobals "_law_bad_name" = some (some (.ref f13)))
    (l13 : K.lookup f13 = some ⟨oc13, od13, .func (PySem.W.fnOf "_law_bad_name" "_law_bad_name" (defArgs s_law_bad_name) (defBody s_law_bad_name) (defScope s_law_bad_name) .none kV13 dc13 pm13 an13 cd13 ct13), sl13⟩)
    (c13 : PySem.W.codeIn K cd13 "_law_bad_name" = true)
    (k13 : PySem.W.keepIn K (.ref f13) = true)
    (a14 : PySem.W.nsIn K mainGlobals "_law_is_name" = some (some (.ref f14)))
    (l14 : K.lookup f14 = some ⟨oc14, od14, .func (PySem.W.fnOf "_law_is_name" "_law_is_name" (defArgs s_law_is_name) (defBody s_law_is_name) (defScope s_law_is_name) .none kV14 dc14 pm14 an14 cd14 ct14), sl14⟩)
    (c14 : PySem.W.codeIn K cd14 "_law_is_name" = true)
    (k14 : PySem.W.keepIn K (.ref f14) = true)
    (a15 : PySem.W.nsIn K mainGlobals "_law_match" = some (some (.ref f15)))
    (l15 : K.lookup f15 = some ⟨oc15, od15, .func (PySem.W.fnOf "_law_match" "_law_match" (defArgs s_law_match) (defBody s_law_match) (defScope s_law_match) .none kV15 dc15 pm15 an15 cd15 ct15), sl15⟩)
    (c15 : PySem.W.codeIn K cd15 "_law_match" = true)
    (k15 : PySem.W.keepIn K (.ref f15) = true)
    (a16 : PySem.W.nsIn K mainGlobals "_law_same" = some (some (.ref f16)))
    (l16 : K.lookup f16 = some ⟨oc16, od16, .func (PySem.W.fnOf "_law_same" "_law_same" (defArgs s_law_same) (defBody s_law_same) (defScope s_law_same) .none kV16 dc16 pm16 an16 cd16 ct16), sl16⟩)
    (c16 : PySem.W.codeIn K cd16 "_law_same" = true)
    (k16 : PySem.W.keepIn K (.ref f16) = true)
    (a17 : PySem.W.nsIn K mainGlobals "_law_is_list_of_names" = some (some (.ref f17)))
    (l17 : K.lookup f17 = some ⟨oc17, od17, .func (PySem.W.fnOf "_law_is_list_of_names" "_law_is_list_of_names" (defArgs s_law_is_list_of_names) (defBody s_law_is_list_of_names) (defScope s_law_is_list_of_names) .none kV17 dc17 pm17 an17 cd17 ct17), sl17⟩)
    (c17 : PySem.W.codeIn K cd17 "_law_is_list_of_names" = true)
    (k17 : PySem.W.keepIn K (.ref f17) = true)
    (a18 : PySem.W.nsIn K mainGlobals "_law_numbered" = some (some (.ref f18)))
    (l18 : K.lookup f18 = some ⟨oc18, od18, .func (PySem.W.fnOf "_law_numbered" "_law_numbered" (defArgs s_law_numbered) (defBody s_law_numbered) (defScope s_law_numbered) .none kV18 dc18 pm18 an18 cd18 ct18), sl18⟩)
    (c18 : PySem.W.codeIn K cd18 "_law_numbered" = true)
    (k18 : PySem.W.keepIn K (.ref f18) = true)
    (a19 : PySem.W.nsIn K mainGlobals "_law_listed" = some (some (.ref f19)))
    (l19 : K.lookup f19 = some ⟨oc19, od19, .func (PySem.W.fnOf "_law_listed" "_law_listed" (defArgs s_law_listed) (defBody s_law_listed) (defScope s_law_listed) .none kV19 dc19 pm19 an19 cd19 ct19), sl19⟩)
    (c19 : PySem.W.codeIn K cd19 "_law_listed" = true)
    (k19 : PySem.W.keepIn K (.ref f19) = true)
    (a20 : PySem.W.nsIn K mainGlobals "_law_due" = some (some (.ref f20)))
    (l20 : K.lookup f20 = some ⟨oc20, od20, .func (PySem.W.fnOf "_law_due" "_law_due" (defArgs s_law_due) (defBody s_law_due) (defScope s_law_due) .none kV20 dc20 pm20 an20 cd20 ct20), sl20⟩)
    (c20 : PySem.W.codeIn K cd20 "_law_due" = true)
    (k20 : PySem.W.keepIn K (.ref f20) = true)
    (a21 : PySem.W.nsIn K mainGlobals "_law_asked" = some (some (.ref f21)))
    (l21 : K.lookup f21 = some ⟨oc21, od21, .func (PySem.W.fnOf "_law_asked" "_law_asked" (defArgs s_law_asked) (defBody s_law_asked) (defScope s_law_asked) .none kV21 dc21 pm21 an21 cd21 ct21), sl21⟩)
    (c21 : PySem.W.codeIn K cd21 "_law_asked" = true)
    (k21 : PySem.W.keepIn K (.ref f21) = true)
    (a22 : PySem.W.nsIn K mainGlobals "_law_is_order" = some (some (.ref f22)))
    (l22 : K.lookup f22 = some ⟨oc22, od22, .func (PySem.W.fnOf "_law_is_order" "_law_is_order" (defArgs s_law_is_order) (defBody s_law_is_order) (defScope s_law_is_order) .none kV22 dc22 pm22 an22 cd22 ct22), sl22⟩)
    (c22 : PySem.W.codeIn K cd22 "_law_is_order" = true)
    (k22 : PySem.W.keepIn K (.ref f22) = true)
    (a23 : PySem.W.nsIn K mainGlobals "_law_holds" = some (some (.ref f23)))
    (l23 : K.lookup f23 = some ⟨oc23, od23, .func (PySem.W.fnOf "_law_holds" "_law_holds" (defArgs s_law_holds) (defBody s_law_holds) (defScope s_law_holds) .none kV23 dc23 pm23 an23 cd23 ct23), sl23⟩)
    (c23 : PySem.W.codeIn K cd23 "_law_holds" = true)
    (k23 : PySem.W.keepIn K (.ref f23) = true)
    (a24 : PySem.W.nsIn K mainGlobals "law" = some (some (.ref f24)))
    (l24 : K.lookup f24 = some ⟨oc24, od24, .func (PySem.W.fnOf "law" "law" (defArgs slaw) (defBody slaw) (defScope slaw) .none kV24 dc24 pm24 an24 cd24 ct24), sl24⟩)
    (c24 : PySem.W.codeIn K cd24 "law" = true)
    (k24 : PySem.W.keepIn K (.ref f24) = true)
    (z_ValueError : PySem.W.nsIn K mainGlobals "ValueError" = some none)
    (z_all : PySem.W.nsIn K mainGlobals "all" = some none)
    (z_bool : PySem.W.nsIn K mainGlobals "bool" = some none)
    (z_dict : PySem.W.nsIn K mainGlobals "dict" = some none)
    (z_int : PySem.W.nsIn K mainGlobals "int" = some none)
    (z_isinstance : PySem.W.nsIn K mainGlobals "isinstance" = some none)
    (z_len : PySem.W.nsIn K mainGlobals "len" = some none)
    (z_list : PySem.W.nsIn K mainGlobals "list" = some none)
    (z_max : PySem.W.nsIn K mainGlobals "max" = some none)
    (z_range : PySem.W.nsIn K mainGlobals "range" = some none)
    (z_reversed : PySem.W.nsIn K mainGlobals "reversed" = some none)
    (z_set : PySem.W.nsIn K mainGlobals "set" = some none)
    (z_sorted : PySem.W.nsIn K mainGlobals "sorted" = some none)
    (z_str : PySem.W.nsIn K mainGlobals "str" = some none)
    (z_tuple : PySem.W.nsIn K mainGlobals "tuple" = some none)
    (zc_LETTERS : ∃ t, PySem.W.nsIn K mainGlobals "LETTERS" = some (some (.str "abcdefghijklmnopqrstuvwxyz" t)))
    (zc_LETTERS_AND_DIGITS : ∃ t, PySem.W.nsIn K mainGlobals "LETTERS_AND_DIGITS" = some (some (.str "abcdefghijklmnopqrstuvwxyz0123456789" t)))
    (zc_LONGEST_NAME : ∃ t, PySem.W.nsIn K mainGlobals "LONGEST_NAME" = some (some (.int 8 t)))
    : ∃ fd : FuncData, (∀ (s : Shared) (v : Value), BindsTo s fd ⟨[v], []⟩ [("script", v)]) ∧ ∀ base : Heap, K.In base → base.Ns mainGlobals mg → FnOk l.prog w K mg base CX0 9 fa fd ["script"] (spLaw K) := by
  have e := hfa.symm.trans (PySem.W.mg_of X G a24)
  cases e
  have T : Blt mg := { ValueError := PySem.W.mg_none_of X G z_ValueError, all := PySem.W.mg_none_of X G z_all, bool := PySem.W.mg_none_of X G z_bool, dict := PySem.W.mg_none_of X G z_dict, int := PySem.W.mg_none_of X G z_int, isinstance := PySem.W.mg_none_of X G z_isinstance, len := PySem.W.mg_none_of X G z_len, list' := PySem.W.mg_none_of X G z_list, max := PySem.W.mg_none_of X G z_max, range := PySem.W.mg_none_of X G z_range, reversed := PySem.W.mg_none_of X G z_reversed, set := PySem.W.mg_none_of X G z_set, sorted := PySem.W.mg_none_of X G z_sorted, str := PySem.W.mg_none_of X G z_str, tuple := PySem.W.mg_none_of X G z_tuple, g_LETTERS := by obtain ⟨t, e⟩ := zc_LETTERS; exact ⟨t, PySem.W.mg_of X G e⟩, g_LETTERS_AND_DIGITS := by obtain ⟨t, e⟩ := zc_LETTERS_AND_DIGITS; exact ⟨t, PySem.W.mg_of X G e⟩, g_LONGEST_NAME := by obtain ⟨t, e⟩ := zc_LONGEST_NAME; exact ⟨t, PySem.W.mg_of X G e⟩ }
  have oxC : OexC K C := ⟨⟨nmC, qC, NC, bsC, bmC, snC, subC, abC, colC, ddC, m0C, m1C, m2C, m3C, m5C, xC, rC⟩, saC, exC, tyC, kpC⟩
  have E_BadName : ErrC K mg "BadName" C := ⟨PySem.W.mg_of X G gC, oxC, ⟨gaC, ggC, exC, hdC⟩, ⟨gaC, ggC, exC, hdC, haC, hnC, htC, hmC⟩, PySem.W.exm_ref exC hdC tyC suC⟩
  have FIC := fun_mk (st := sBadName___init__) lC cC kC
  have bIC := FIC.binds (ps := ["self", "name"]) fun _ _ _ _ _ _ us hl => match us, hl with | [_, _], _ => rfl
  have N_BadName_name := nfCname
  have oxCD : OexC K CD := ⟨⟨nmCD, qCD, NCD, bsCD, bmCD, snCD, subCD, abCD, colCD, ddCD, m0CD, m1CD, m2CD, m3CD, m5CD, xCD, rCD⟩, saCD, exCD, tyCD, kpCD⟩
  have E_Doubled : ErrC K mg "Doubled" CD := ⟨PySem.W.mg_of X G gCD, oxCD, ⟨gaCD, ggCD, exCD, hdCD⟩, ⟨gaCD, ggCD, exCD, hdCD, haCD, hnCD, htCD, hmCD⟩, PySem.W.exm_ref exCD hdCD tyCD suCD⟩
  have FICD := fun_mk (st := sDoubled___init__) lCD cCD kCD
  have bICD := FICD.binds (ps := ["self", "name"]) fun _ _ _ _ _ _ us hl => match us, hl with | [_, _], _ => rfl
  have N_Doubled_name := nfCDname
  have G_OutshinerError := PySem.W.mg_of X G gcO
  have G_BadNumber := PySem.W.mg_of X G gcN
  have G_Unknown := PySem.W.mg_of X G gcU
  have TE : Errs K mg C CD cO cN cU := ⟨G_OutshinerError, PySem.W.mg_of X G gC, PySem.W.mg_of X G gCD, G_BadNumber, G_Unknown, nO, nD, nN, nU, dO, dB, dN, dU, PySem.W.exm_ref exC hdC tyC ne⟩
  have F0 := fun_mk (st := scheck_unlike) l0 c0 k0
  have b0 := F0.binds (ps := ["items"]) fun _ _ _ _ _ _ us hl => match us, hl with | [_], _ => rfl
  have F1 := fun_mk (st := sis_name) l1 c1 k1
  have b1 := F1.binds (ps := ["text"]) fun _ _ _ _ _ _ us hl => match us, hl with | [_], _ => rfl
  have F2 := fun_mk (st := scheck_name) l2 c2 k2
  have b2 := F2.binds (ps := ["text"]) fun _ _ _ _ _ _ us hl => match us, hl with | [_], _ => rfl
  have F3 := fun_mk (st := sordered) l3 c3 k3
  have b3 := F3.binds (ps := ["names"]) fun _ _ _ _ _ _ us hl => match us, hl with | [_], _ => rfl
  have F4 := fun_mk (st := s_law_store) l4 c4 k4
  have b4 := F4.binds (ps := ["script"]) fun _ _ _ _ _ _ us hl => match us, hl with | [_], _ => rfl
  have F5 := fun_mk (st := s_law_stir) l5 c5 k5
  have b5 := F5.binds (ps := ["store", "cell"]) fun _ _ _ _ _ _ us hl => match us, hl with | [_, _], _ => rfl
  have F6 := fun_mk (st := s_law_take) l6 c6 k6
  have b6 := F6.binds (ps := ["store", "many"]) fun _ _ _ _ _ _ us hl => match us, hl with | [_, _], _ => rfl
  have F7 := fun_mk (st := s_law_pick) l7 c7 k7
  have b7 := F7.binds (ps := ["store", "items"]) fun _ _ _ _ _ _ us hl => match us, hl with | [_, _], _ => rfl
  have F8 := fun_mk (st := s_law_shuffled) l8 c8 k8
  have b8 := F8.binds (ps := ["store", "items"]) fun _ _ _ _ _ _ us hl => match us, hl with | [_, _], _ => rfl
  have F9 := fun_mk (st := s_law_name) l9 c9 k9
  have b9 := F9.binds (ps := ["store"]) fun _ _ _ _ _ _ us hl => match us, hl with | [_], _ => rfl
  have F10 := fun_mk (st := s_law_unused) l10 c10 k10
  have b10 := F10.binds (ps := ["used"]) fun _ _ _ _ _ _ us hl => match us, hl with | [_], _ => rfl
  have F11 := fun_mk (st := s_law_fresh_names) l11 c11 k11
  have b11 := F11.binds (ps := ["store", "many", "used"]) fun _ _ _ _ _ _ us hl => match us, hl with | [_, _, _], _ => rfl
  have F12 := fun_mk (st := s_law_names) l12 c12 k12
  have b12 := F12.binds (ps := ["store", "many"]) fun _ _ _ _ _ _ us hl => match us, hl with | [_, _], _ => rfl
  have F13 := fun_mk (st := s_law_bad_name) l13 c13 k13
  have b13 := F13.binds (ps := ["store"]) fun _ _ _ _ _ _ us hl => match us, hl with | [_], _ => rfl
  have F14 := fun_mk (st := s_law_is_name) l14 c14 k14
  have b14 := F14.binds (ps := ["text"]) fun _ _ _ _ _ _ us hl => match us, hl with | [_], _ => rfl
  have F15 := fun_mk (st := s_law_match) l15 c15 k15
  have b15 := F15.binds (ps := ["left", "right", "strict"]) fun _ _ _ _ _ _ us hl => match us, hl with | [_, _, _], _ => rfl
  have F16 := fun_mk (st := s_law_same) l16 c16 k16
  have b16 := F16.binds (ps := ["actual", "expected"]) fun _ _ _ _ _ _ us hl => match us, hl with | [_, _], _ => rfl
  have F17 := fun_mk (st := s_law_is_list_of_names) l17 c17 k17
  have b17 := F17.binds (ps := ["value"]) fun _ _ _ _ _ _ us hl => match us, hl with | [_], _ => rfl
  have F18 := fun_mk (st := s_law_numbered) l18 c18 k18
  have b18 := F18.binds (ps := ["store"]) fun _ _ _ _ _ _ us hl => match us, hl with | [_], _ => rfl
  have F19 := fun_mk (st := s_law_listed) l19 c19 k19
  have b19 := F19.binds (ps := ["store"]) fun _ _ _ _ _ _ us hl => match us, hl with | [_], _ => rfl
  have F20 := fun_mk (st := s_law_due) l20 c20 k20
  have b20 := F20.binds (ps := ["listed"]) fun _ _ _ _ _ _ us hl => match us, hl with | [_], _ => rfl
  have F21 := fun_mk (st := s_law_asked) l21 c21 k21
  have b21 := F21.binds (ps := ["listed", "named"]) fun _ _ _ _ _ _ us hl => match us, hl with | [_, _], _ => rfl
  have F22 := fun_mk (st := s_law_is_order) l22 c22 k22
  have b22 := F22.binds (ps := ["told", "listed"]) fun _ _ _ _ _ _ us hl => match us, hl with | [_, _], _ => rfl
  have F23 := fun_mk (st := s_law_holds) l23 c23 k23
  have b23 := F23.binds (ps := ["listed", "due"]) fun _ _ _ _ _ _ us hl => match us, hl with | [_, _], _ => rfl
  have F24 := fun_mk (st := slaw) l24 c24 k24
  have b24 := F24.binds (ps := ["script"]) fun _ _ _ _ _ _ us hl => match us, hl with | [_], _ => rfl
  refine ⟨PySem.W.fnOf "law" "law" (defArgs slaw) (defBody slaw) (defScope slaw) .none kV24 dc24 pm24 an24 cd24 ct24, fun s v => .of_eq rfl, fun base _ _ => ?_⟩
  have I_BadName : HasI l.prog w K mg base C 1 ["self", "name"] (spInit1 K "name") := ⟨fC, _, ok_BadName_init FIC, iC, tiC, bIC⟩
  have I_Doubled : HasI l.prog w K mg base CD 1 ["self", "name"] (spInit1 K "name") := ⟨fCD, _, ok_Doubled_init FICD, iCD, tiCD, bICD⟩
  have H_check_unlike : HasX l.prog w K mg base "check_unlike" 3 ["items"] (spCheckUnlike CD) := ⟨f0, _, ok_check_unlike (k := 2) F0 T E_Doubled I_Doubled N_Doubled_name (by decide), PySem.W.mg_of X G a0, k0, b0⟩
  have H_p_is_name : Has l.prog w K mg base "is_name" 1 ["text"] (spIsName) := ⟨f1, _, ok_p_is_name (k := 0) F1 T, PySem.W.mg_of X G a1, k1, b1⟩
  have H_check_name : HasX l.prog w K mg base "check_name" 3 ["text"] (spCheckName C) := ⟨f2, _, ok_check_name (k := 2) F2 T E_BadName I_BadName N_BadName_name (H_p_is_name.mono (by decide)) (by decide), PySem.W.mg_of X G a2, k2, b2⟩
  have H_ordered : HasX l.prog w K mg base "ordered" 4 ["names"] (spOrdered C CD) := ⟨f3, _, ok_ordered (k := 3) F3 T (H_check_name.mono (by decide)) (H_check_unlike.mono (by decide)), PySem.W.mg_of X G a3, k3, b3⟩
  have HK_ordered_names : HasK l.prog w K mg base (L2.CX l.prog w) "ordered" 4 ["names"] ["names"] id (spOrdered C CD) := ⟨f3, _, ok_ordered (k := 3) F3 T (H_check_name.mono (by decide)) (H_check_unlike.mono (by decide)), PySem.W.mg_of X G a3, k3, kb_of F3 fun _ _ _ _ _ _ ws hl => match ws, hl with | [_], _ => rfl, fun _ _ _ r => vals_id r⟩
  have H_store : Has l.prog w K mg base "_law_store" 1 ["script"] (spStore K) := ⟨f4, _, ok_store (k := 0) F4 T, PySem.W.mg_of X G a4, k4, b4⟩
  have H_stir : Has l.prog w K mg base "_law_stir" 1 ["store", "cell"] (spStir) := ⟨f5, _, ok_stir (k := 0) F5 T, PySem.W.mg_of X G a5, k5, b5⟩
  have H_take : Has l.prog w K mg base "_law_take" 2 ["store", "many"] (spTake) := ⟨f6, _, ok_take (k := 1) F6 T (H_stir.mono (by decide)), PySem.W.mg_of X G a6, k6, b6⟩
  have H_pick : Has l.prog w K mg base "_law_pick" 3 ["store", "items"] (spPick) := ⟨f7, _, ok_pick (k := 2) F7 T (H_take.mono (by decide)), PySem.W.mg_of X G a7, k7, b7⟩
  have H_shuffled : Has l.prog w K mg base "_law_shuffled" 3 ["store", "items"] (spShuffled) := ⟨f8, _, ok_shuffled (k := 2) F8 T (H_take.mono (by decide)), PySem.W.mg_of X G a8, k8, b8⟩
  have H_name : Has l.prog w K mg base "_law_name" 3 ["store"] (spName) := ⟨f9, _, ok_name (k := 2) F9 T (H_take.mono (by decide)), PySem.W.mg_of X G a9, k9, b9⟩
  have H_unused : Has l.prog w K mg base "_law_unused" 1 ["used"] (spUnused) := ⟨f10, _, ok_unused (k := 0) F10 T, PySem.W.mg_of X G a10, k10, b10⟩
  have H_fresh_names : Has l.prog w K mg base "_law_fresh_names" 4 ["store", "many", "used"] (spFreshNames) := ⟨f11, _, ok_fresh_names (k := 3) F11 T (H_name.mono (by decide)) (H_unused.mono (by decide)), PySem.W.mg_of X G a11, k11, b11⟩
  have H_names : Has l.prog w K mg base "_law_names" 5 ["store", "many"] (spNames) := ⟨f12, _, ok_names (k := 4) F12 T (H_take.mono (by decide)) (H_fresh_names.mono (by decide)) (H_name.mono (by decide)) (H_shuffled.mono (by decide)), PySem.W.mg_of X G a12, k12, b12⟩
  have H_bad_name : Has l.prog w K mg base "_law_bad_name" 4 ["store"] (spBad) := ⟨f13, _, ok_bad_name (k := 3) F13 T (H_take.mono (by decide)) (H_pick.mono (by decide)) (H_name.mono (by decide)), PySem.W.mg_of X G a13, k13, b13⟩
  have H_is_name : Has l.prog w K mg base "_law_is_name" 1 ["text"] (spIsName) := ⟨f14, _, ok_is_name (k := 0) F14 T, PySem.W.mg_of X G a14, k14, b14⟩
  have H_match0 : Has l.prog w K mg base "_law_match" 1 ["left", "right", "strict"] (spMatch 0) := ⟨f15, _, ok_match0 (k := 0) F15 T, PySem.W.mg_of X G a15, k15, b15⟩
  have H_match1 : Has l.prog w K mg base "_law_match" 2 ["left", "right", "strict"] (spMatch 1) := ⟨f15, _, ok_matchS (k := 1) F15 T H_match0, PySem.W.mg_of X G a15, k15, b15⟩
  have H_match2 : Has l.prog w K mg base "_law_match" 3 ["left", "right", "strict"] (spMatch 2) := ⟨f15, _, ok_matchS (k := 2) F15 T H_match1, PySem.W.mg_of X G a15, k15, b15⟩
  have H_same : Has l.prog w K mg base "_law_same" 4 ["actual", "expected"] (spSame 2) := ⟨f16, _, ok_same (k := 3) F16 T (H_match2.mono (by decide)), PySem.W.mg_of X G a16, k16, b16⟩
  have H_is_list_of_names : Has l.prog w K mg base "_law_is_list_of_names" 1 ["value"] (spIsLN) := ⟨f17, _, ok_isLN (k := 0) F17 T, PySem.W.mg_of X G a17, k17, b17⟩
  have H_numbered : Has l.prog w K mg base "_law_numbered" 4 ["store"] (spNumb) := ⟨f18, _, ok_numb (k := 3) F18 T (H_take.mono (by decide)) (H_name.mono (by decide)), PySem.W.mg_of X G a18, k18, b18⟩
  have H_listed : Has l.prog w K mg base "_law_listed" 6 ["store"] (spNumb) := ⟨f19, _, ok_listed (k := 5) F19 T (H_take.mono (by decide)) (H_numbered.mono (by decide)) (H_names.mono (by decide)) (H_pick.mono (by decide)) (H_bad_name.mono (by decide)), PySem.W.mg_of X G a19, k19, b19⟩
  have H_due : Has l.prog w K mg base "_law_due" 2 ["listed"] (spDue) := ⟨f20, _, ok_due (k := 1) F20 T (H_is_name.mono (by decide)), PySem.W.mg_of X G a20, k20, b20⟩
  have H_asked : Has l.prog w K mg base "_law_asked" 5 ["listed", "named"] (spAsked) := ⟨f21, _, ok_asked (k := 4) F21 T TE E_BadName E_Doubled N_BadName_name N_Doubled_name (H_ordered.mono (by decide)) (HK_ordered_names.mono (by decide)), PySem.W.mg_of X G a21, k21, b21⟩
  have H_is_order : Has l.prog w K mg base "_law_is_order" 2 ["told", "listed"] (spIsOrder) := ⟨f22, _, ok_is_order (k := 1) F22 T (H_is_list_of_names.mono (by decide)), PySem.W.mg_of X G a22, k22, b22⟩
  have H_holds : Has l.prog w K mg base "_law_holds" 6 ["listed", "due"] (spHolds) := ⟨f23, _, ok_holds (k := 5) F23 T (H_asked.mono (by decide)) (H_same.mono (by decide)) (H_is_order.mono (by decide)), PySem.W.mg_of X G a23, k23, b23⟩
  exact ok_law (k := 8) F24 T (H_store.mono (by decide)) (H_listed.mono (by decide)) (H_due.mono (by decide)) (H_holds.mono (by decide)) (H_same.mono (by decide)) (H_asked.mono (by decide))

end Z
open PySem PySem.W PyProof.Rows
set_option maxRecDepth 100000 in
set_option maxHeartbeats 0 in
theorem PySem.Challenge.cw_outshiners_k01_ordered_names_holds : PySem.Challenge.rw_outshiners_k01_ordered_names.Holds := by
  w_on; o_law; k_head; (case hw => w_witness2)
  k_fill
  refine L2.walk_of (l := PySem.Challenge.rw_outshiners_k01_ordered_names) (n := 63) (k := 9) (x := "script") (CX := fun _ => L2.CX0) (sp := fun w => Z.spLaw _) rfl (by decide) rfl ⟨rfl, by decide, by decide⟩ (fun w h Y => PySem.W.kIn_of Y) ?F (fun _ _ a ns hl _ hS => ⟨a, ns, rfl, hS, hl, fun _ => rfl⟩) (fun _ _ _ _ _ h => h)
  case F =>
    intro w mg fa h KX G hmg
    refine' Z.all_mk KX G hmg ?gC ?xC ?rC ?saC ?gaC ?ggC ?nfCname ?kpC ?exC ?tyC ?hdC ?haC ?hnC ?htC ?hmC ?suC ?iC ?tiC ?lC ?cC ?kC ?gCD ?xCD ?rCD ?saCD ?gaCD ?ggCD ?nfCDname ?kpCD ?exCD ?tyCD ?hdCD ?haCD ?hnCD ?htCD ?hmCD ?suCD ?iCD ?tiCD ?lCD ?cCD ?kCD ?gcO ?gcN ?gcU ?nO ?nD ?nN ?nU ?dO ?dB ?dN ?dU ?ne ?a0 ?l0 ?c0 ?k0 ?a1 ?l1 ?c1 ?k1 ?a2 ?l2 ?c2 ?k2 ?a3 ?l3 ?c3 ?k3 ?a4 ?l4 ?c4 ?k4 ?a5 ?l5 ?c5 ?k5 ?a6 ?l6 ?c6 ?k6 ?a7 ?l7 ?c7 ?k7 ?a8 ?l8 ?c8 ?k8 ?a9 ?l9 ?c9 ?k9 ?a10 ?l10 ?c10 ?k10 ?a11 ?l11 ?c11 ?k11 ?a12 ?l12 ?c12 ?k12 ?a13 ?l13 ?c13 ?k13 ?a14 ?l14 ?c14 ?k14 ?a15 ?l15 ?c15 ?k15 ?a16 ?l16 ?c16 ?k16 ?a17 ?l17 ?c17 ?k17 ?a18 ?l18 ?c18 ?k18 ?a19 ?l19 ?c19 ?k19 ?a20 ?l20 ?c20 ?k20 ?a21 ?l21 ?c21 ?k21 ?a22 ?l22 ?c22 ?k22 ?a23 ?l23 ?c23 ?k23 ?a24 ?l24 ?c24 ?k24 ?z_ValueError ?z_all ?z_bool ?z_dict ?z_int ?z_isinstance ?z_len ?z_list ?z_max ?z_range ?z_reversed ?z_set ?z_sorted ?z_str ?z_tuple ?zc_LETTERS ?zc_LETTERS_AND_DIGITS ?zc_LONGEST_NAME
    case gC => k_is
    case xC => k_is
    case rC => first | rfl | decide +kernel
    case saC => k_is
    case gaC => k_is
    case ggC => k_is
    case nfCname => k_is
    case kpC => k_is
    case exC => k_is
    case tyC => k_is
    case hdC => k_is
    case haC => k_is
    case hnC => k_is
    case htC => k_is
    case hmC => k_is
    case suC => first | rfl | k_is
    case iC => k_is
    case tiC => k_is
    case lC => k_is
    case cC => k_is
    case kC => k_is
    case gCD => k_is
    case xCD => k_is
    case rCD => first | rfl | decide +kernel
    case saCD => k_is
    case gaCD => k_is
    case ggCD => k_is
    case nfCDname => k_is
    case kpCD => k_is
    case exCD => k_is
    case tyCD => k_is
    case hdCD => k_is
    case haCD => k_is
    case hnCD => k_is
    case htCD => k_is
    case hmCD => k_is
    case suCD => first | rfl | k_is
    case iCD => k_is
    case tiCD => k_is
    case lCD => k_is
    case cCD => k_is
    case kCD => k_is
    case gcO => k_is
    case gcN => k_is
    case gcU => k_is
    case nO => first | k_is | kit_is
    case nD => first | k_is | kit_is
    case nN => first | k_is | kit_is
    case nU => first | k_is | kit_is
    case dO => first | k_is | kit_is
    case dB => first | k_is | kit_is
    case dN => first | k_is | kit_is
    case dU => first | k_is | kit_is
    case ne => first | rfl | k_is
    case a0 => k_is
    case l0 => k_is
    case c0 => k_is
    case k0 => k_is
    case a1 => k_is
    case l1 => k_is
    case c1 => k_is
    case k1 => k_is
    case a2 => k_is
    case l2 => k_is
    case c2 => k_is
    case k2 => k_is
    case a3 => k_is
    case l3 => k_is
    case c3 => k_is
    case k3 => k_is
    case a4 => k_is
    case l4 => k_is
    case c4 => k_is
    case k4 => k_is
    case a5 => k_is
    case l5 => k_is
    case c5 => k_is
    case k5 => k_is
    case a6 => k_is
    case l6 => k_is
    case c6 => k_is
    case k6 => k_is
    case a7 => k_is
    case l7 => k_is
    case c7 => k_is
    case k7 => k_is
    case a8 => k_is
    case l8 => k_is
    case c8 => k_is
    case k8 => k_is
    case a9 => k_is
    case l9 => k_is
    case c9 => k_is
    case k9 => k_is
    case a10 => k_is
    case l10 => k_is
    case c10 => k_is
    case k10 => k_is
    case a11 => k_is
    case l11 => k_is
    case c11 => k_is
    case k11 => k_is
    case a12 => k_is
    case l12 => k_is
    case c12 => k_is
    case k12 => k_is
    case a13 => k_is
    case l13 => k_is
    case c13 => k_is
    case k13 => k_is
    case a14 => k_is
    case l14 => k_is
    case c14 => k_is
    case k14 => k_is
    case a15 => k_is
    case l15 => k_is
    case c15 => k_is
    case k15 => k_is
    case a16 => k_is
    case l16 => k_is
    case c16 => k_is
    case k16 => k_is
    case a17 => k_is
    case l17 => k_is
    case c17 => k_is
    case k17 => k_is
    case a18 => k_is
    case l18 => k_is
    case c18 => k_is
    case k18 => k_is
    case a19 => k_is
    case l19 => k_is
    case c19 => k_is
    case k19 => k_is
    case a20 => k_is
    case l20 => k_is
    case c20 => k_is
    case k20 => k_is
    case a21 => k_is
    case l21 => k_is
    case c21 => k_is
    case k21 => k_is
    case a22 => k_is
    case l22 => k_is
    case c22 => k_is
    case k22 => k_is
    case a23 => k_is
    case l23 => k_is
    case c23 => k_is
    case k23 => k_is
    case a24 => k_is
    case l24 => k_is
    case c24 => k_is
    case k24 => k_is
    case z_ValueError => k_is
    case z_all => k_is
    case z_bool => k_is
    case z_dict => k_is
    case z_int => k_is
    case z_isinstance => k_is
    case z_len => k_is
    case z_list => k_is
    case z_max => k_is
    case z_range => k_is
    case z_reversed => k_is
    case z_set => k_is
    case z_sorted => k_is
    case z_str => k_is
    case z_tuple => k_is
    case zc_LETTERS => exact ⟨_, by k_is⟩
    case zc_LETTERS_AND_DIGITS => exact ⟨_, by k_is⟩
    case zc_LONGEST_NAME => exact ⟨_, by k_is⟩
