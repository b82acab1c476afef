import PyProof.Rows.All
import Wide.All
import OpenK.AllK
import Wide.FinOn
import HandS.ForMost
import HandS.ForExc
import HandS.Wide
import HandS.IsInst
import HandS.SortInts
import HandS.Codes
import HandS.ExcInit
import HandS.ExcField
import HandS.ExcIs
import KE.DatumOrd
import KE.KExcIs
import HandS.SortKw
import HandS.TryMany
import HandS.ExcOwn
import HandS.FStr
import HandS.Text
import HandS.Dict
import HandS.Defaults
import HandS.Rev
import HandS.Conv
import HandS.RaiseMore
import HandS.Walk
import HandS.CallSlots
import HandS.MakeKwOnly
import HandS.OwnEq
import HandS.MakeKw
import HandS.ClsMeth
import PyProof.Rows.SortStr
import PyProof.Rows.SortKeyStr
import HandS.SetKeys
import HandS.ExcValue
import HandS.Property
import HandS.StrMore
import PySem.Challenge.RW_outshiners_k03_span_texts_read_back
set_option Elab.async false
set_option linter.all false
set_option maxRecDepth 100000
namespace Z
open PySem PySem.Spec PyProof.Rows L2
/-! ### a def that may be called by its name -/
structure Has (P : Program) (w : World) (K : PySem.W.Frag) (mg : Str → Option Value) (base : Heap) (x : Str) (k : Nat) (ps : List Str) (sp : Sp) : Prop where
  ex : ∃ f fd, FnOk P w K mg base CX0 k f fd ps sp ∧ mg x = some (.ref f) ∧ PySem.W.keepIn K (.ref f) = true ∧ Binds K fd ps []
section
variable {P : Program} {w : World} {K : PySem.W.Frag} {mg : Str → Option Value} {base : Heap}
theorem Has.mk' {x : Str} {k : Nat} {ps : List Str} {sp : Sp} {f : Addr} {fd : FuncData} (F : FnOk P w K mg base CX0 k f fd ps sp) (g : mg x = some (.ref f)) (kp : PySem.W.keepIn K (.ref f) = true) (b : Binds K fd ps []) : Has P w K mg base x k ps sp := ⟨f, fd, F, g, kp, b⟩
theorem Has.mono {x : Str} {j k : Nat} {ps : List Str} {sp : Sp} (h : Has P w K mg base x j ps sp) (l : j ≤ k) : Has P w K mg base x k ps sp := by
  obtain ⟨f, fd, F, r⟩ := h.ex
  exact ⟨f, fd, F.mono l, r⟩
end
theorem pe_callH {X : Cx} {x : Str} {k : Nat} {ps : List Str} {sp : Sp} {e : Expr} {es : List Expr} {t : TA} {p pos : Pos} (h : Has X.prog X.w X.K X.mg X.base x k ps sp) (hr : Room k X.A) (hg : Gl X x) (ha : PA X (e :: es) t)
    (hdb : (x == ("__debug__" : Str)) = false := by decide) (he : starEach (e :: es) X.env = (false, eval e X.env) :: starEach es X.env := by rfl) (hpl : (backTo pos (starEach es X.env)).any (·.1) = false := by rfl) :
    PE X (.Call (.Name x p) (e :: es) [] pos) (tCall sp [] E0 t) := by
  obtain ⟨f, fd, F, hm, hk, hb⟩ := h.ex
  exact pe_call F hr hg hm hk hb .nil pass0 ha hdb he hpl
theorem sl_of' {K : PySem.W.Frag} {H : Hp} {a : Addr} {xs : List V} (h : H a = some (.lst xs)) : SqL K H a xs := .inl (.inl h)
/-! ### readings, step by step -/
section
variable {σ : L2.St} {H : Hp} {D : Ends} {t u : TS} {te ta tb : TE} {tt tu : TT} {Q : VK} {i : Nat} {v x : V} {r : R2} {tA tR : TA} {QA : List V → Hp → Prop} {QT : Bool → Hp → Prop}
theorem rd_seq (h : t { D with nx := u D } σ H) : tSeq t u D σ H := h
theorem rd_asg (h : te σ H fun x H1 => D.nx (σ.set i (some x)) H1) : tAsg te (gName i) D σ H := h
theorem rd_asgS {to ti : TE} {ts : TSet} (h : te σ H fun x H1 => to σ H1 fun o H1 => ti σ H1 fun i H2 => ts o i x H2 fun H3 => D.nx σ H3) : tAsg te (gSub to ti ts) D σ H := h
theorem rd_ret (h : te σ H D.rt) : tRet te D σ H := h
theorem rd_ifS (h : tt σ H fun b H1 => if b = true then t D σ H1 else u D σ H1) : tIfS tt t u D σ H := h
theorem rd_next (h : D.nx σ H) : tNext D σ H := h
theorem rd_drop (h : te σ H fun _ H1 => D.nx σ H1) : tDrop te D σ H := h
theorem rd_var (e : σ[i]? = some (some v)) (h : Q v H) : tVar i σ H Q := ⟨v, e, h⟩
theorem rd_c (h : Q v H) : tC v σ H Q := h
theorem rd_op (h : ta σ H fun x H1 => tb σ H1 fun y H2 => r x y H2 Q) : tOp r ta tb σ H Q := h
theorem rd_un {r : V → Hp → VK → Prop} (h : ta σ H fun x H1 => r x H1 Q) : tUn r ta σ H Q := h
theorem rd_nil (h : QA [] H) : tNil σ H QA := h
theorem rd_cons (h : ta σ H fun x H1 => tR σ H1 fun xs H2 => QA (x :: xs) H2) : tCons ta tR σ H QA := h
theorem rd_cb {r : List V → Hp → VK → Prop} (h : tA σ H fun vs H1 => r vs H1 Q) : tCB r tA σ H Q := h
theorem rd_call {sp : Sp} {E : XK} (h : tA σ H fun vs H1 => sp vs H1 Q E) : tCall sp [] E tA σ H Q := by
  show tA σ H fun vs H1 => sp (vs ++ []) H1 Q E
  simp only [List.append_nil]
  exact h
theorem rd_test (h : te σ H fun x H' => ∃ k, x = .bl k ∧ QT k H') : tTest te σ H QT := h
theorem rd_tB (h : te σ H fun x H' => ∃ k, x = .bl k ∧ QT k H') : tB te σ H QT := h
theorem rd_bx {b : Bool} {R : Bool → Prop} (h : R b) : ∃ k, V.bl b = .bl k ∧ R k := ⟨b, rfl, h⟩
theorem rd_nn {R : Prop} (h : R) : V.non = V.non ∧ R := ⟨rfl, h⟩
theorem rd_not (h : tt σ H fun c H1 => QT (!c) H1) : tNot tt σ H QT := h
theorem rd_and (h : tt σ H fun c H1 => if c = true then tu σ H1 QT else QT false H1) : tAnd tt tu σ H QT := h
theorem rd_or (h : tt σ H fun c H1 => if c = true then QT true H1 else tu σ H1 QT) : tOr tt tu σ H QT := h
theorem rd_andV (h : ta σ H fun x H1 => ∃ c, x = .bl c ∧ if c = true then tb σ H1 Q else Q (.bl false) H1) : tAndV ta tb σ H Q := h
theorem rd_orV (h : ta σ H fun x H1 => ∃ c, x = .bl c ∧ if c = true then Q (.bl true) H1 else tb σ H1 Q) : tOrV ta tb σ H Q := h
theorem rd_notV (h : ta σ H fun x H1 => ∃ c, x = .bl c ∧ Q (.bl (!c)) H1) : tNotV ta σ H Q := h
theorem rd_if (h : tt σ H fun c H1 => if c = true then ta σ H1 Q else tb σ H1 Q) : tIf tt ta tb σ H Q := h
theorem rd_I0 {g : Int → Int → V} {i j : Int} (h : Q (g i j) H) : rI0 g (.int i) (.int j) H Q := ⟨i, j, rfl, rfl, h⟩
theorem rd_I {C : Int → Int → Prop} {g : Int → Int → V} {i j : Int} (c : C i j) (h : Q (g i j) H) : rI C g (.int i) (.int j) H Q := ⟨i, j, rfl, rfl, c, h⟩
theorem rd_U {g : Int → V} {i : Int} (h : Q (g i) H) : rU g (.int i) H Q := ⟨i, rfl, h⟩
theorem rd_eqI {i j : Int} (h : Q (.bl (decide (i = j))) H) : rEq (.int i) (.int j) H Q := ⟨rfl, by
  have e : decide (V.int i = V.int j) = decide (i = j) := by simp
  rw [e]; exact h⟩
theorem rd_neI {i j : Int} (h : Q (.bl (!decide (i = j))) H) : rNe (.int i) (.int j) H Q := ⟨rfl, by
  have e : decide (V.int i = V.int j) = decide (i = j) := by simp
  rw [e]; exact h⟩
theorem rd_lst (h : tA σ H fun xs H1 => xs.length ≤ sizeLine ∧ ∀ p, H1 p = none → Q (.ref p) (upd H1 p (.lst xs))) : tLst tA σ H Q := h
theorem rd_tup (h : tA σ H fun xs H1 => xs.length ≤ sizeLine ∧ ∀ p, H1 p = none → Q (.ref p) (upd H1 p (.tup xs))) : tTup tA σ H Q := h
theorem rd_sl {r : V → Option Int → Option Int → Hp → VK → Prop} {tl th : TO} (h : te σ H fun x H1 => tl σ H1 fun l H2 => th σ H2 fun u H3 => r x l u H3 Q) : tSl r te tl th σ H Q := h
theorem rd_bm {K : PySem.W.Frag} {T : String} {r : V → List V → Hp → VK → Prop} (h : te σ H fun x H1 => tyV K T x H1 ∧ tA σ H1 fun xs H2 => r x xs H2 Q) : tBM K T r te tA σ H Q := h
theorem rd_chain {r r' : R2} {tc : TE} (h : ta σ H fun x H1 => tb σ H1 fun y H2 => r x y H2 fun z H3 => ∃ k, z = .bl k ∧ if k = true then tc σ H3 fun z' H4 => r' y z' H4 Q else Q (.bl false) H3) : tChain r r' ta tb tc σ H Q := h
theorem rd_int1 {i : Int} {R : Int → Prop} {R' : Bool → Prop} (h : R i) : (∃ j, [V.int i] = [V.int j] ∧ R j) ∨ (∃ k, [V.int i] = [V.bl k] ∧ R' k) := .inl ⟨i, rfl, h⟩
theorem rd_max2 {i j : Int} {R : Int → Int → Prop} (h : R i j) : ∃ i' j', [V.int i, V.int j] = [V.int i', V.int j'] ∧ R i' j' := ⟨i, j, rfl, h⟩
theorem rd_min2 {i j : Int} {R : Int → Int → Prop} (h : R i j) : ∃ i' j', [V.int i, V.int j] = [V.int i', V.int j'] ∧ R i' j' := ⟨i, j, rfl, h⟩
theorem rd_ixL {K : PySem.W.Frag} {p : Addr} {xs : List V} {i : Int} {v : V} {Q : VK} (h : H p = some (.lst xs)) (e : atI xs i = some v) (q : Q v H) : rIxL K (.ref p) (.int i) H Q := ⟨p, xs, i, v, rfl, rfl, .inl (.inl h), e, q⟩
theorem rd_setL {p : Addr} {xs : List V} {k : Int} {j : Nat} {v : V} {Q : Hp → Prop} (h : H p = some (.lst xs)) (e : ixN xs.length k = some j) (q : Q (upd H p (.lst (xs.set j v)))) : rSetL (.ref p) (.int k) v H Q := ⟨p, xs, k, j, rfl, rfl, h, e, q⟩
theorem rd_part {te : TE} {Q : Option Int → Hp → Prop} (h : te σ H fun x H1 => ∃ i, x = .int i ∧ Q (some i) H1) : tPart te σ H Q := h
theorem rd_nopart {Q : Option Int → Hp → Prop} (h : Q none H) : tNoPart σ H Q := h
theorem rd_cut (Mid : L2.St → Hp → Prop) (h : t { D with nx := Mid } σ H) (h2 : ∀ σ' H', Mid σ' H' → u D σ' H') : C8.tCut t u D σ H := ⟨Mid, h, h2⟩
theorem rd_setS {p : Addr} {xs : List V} {k : Int} {j : Nat} {v : V} {Q : Hp → Prop} (e : ixN xs.length k = some j) (q : Q (upd H p (.lst (xs.set j v)))) : rSetL (.ref p) (.int k) v (upd H p (.lst xs)) Q := ⟨p, xs, k, j, rfl, rfl, upd_same, e, by rw [upd_upd]; exact q⟩
theorem rd_p9 {Q : VK} (h : Q (.int 1000000000) H) : rI CPow (fun i j => .int (i ^ j.toNat)) (.int 10) (.int 9) H Q := ⟨10, 9, rfl, rfl, ⟨by decide, by decide, by decide⟩, h⟩
theorem rd_p11 {Q : VK} (h : Q (.int 100000000000) H) : rI CPow (fun i j => .int (i ^ j.toNat)) (.int 10) (.int 11) H Q := ⟨10, 11, rfl, rfl, ⟨by decide, by decide, by decide⟩, h⟩
theorem rd_p12 {Q : VK} (h : Q (.int 1000000000000) H) : rI CPow (fun i j => .int (i ^ j.toNat)) (.int 10) (.int 12) H Q := ⟨10, 12, rfl, rfl, ⟨by decide, by decide, by decide⟩, h⟩
theorem rd_p13 {Q : VK} (h : Q (.int 10000000000000) H) : rI CPow (fun i j => .int (i ^ j.toNat)) (.int 10) (.int 13) H Q := ⟨10, 13, rfl, rfl, ⟨by decide, by decide, by decide⟩, h⟩
theorem rd_p18 {Q : VK} (h : Q (.int 1000000000000000000) H) : rI CPow (fun i j => .int (i ^ j.toNat)) (.int 10) (.int 18) H Q := ⟨10, 18, rfl, rfl, ⟨by decide, by decide, by decide⟩, h⟩
theorem rd_p30 {Q : VK} (h : Q (.int 1000000000000000000000000000000) H) : rI CPow (fun i j => .int (i ^ j.toNat)) (.int 10) (.int 30) H Q := ⟨10, 30, rfl, rfl, ⟨by decide, by decide, by decide⟩, h⟩
theorem rd_p40 {Q : VK} (h : Q (.int 10000000000000000000000000000000000000000) H) : rI CPow (fun i j => .int (i ^ j.toNat)) (.int 10) (.int 40) H Q := ⟨10, 40, rfl, rfl, ⟨by decide, by decide, by decide⟩, h⟩
theorem rd_seqL {K : PySem.W.Frag} {a : Addr} {xs : List V} {R : List V → Prop} (h : H a = some (.lst xs)) (q : R xs) : ∃ p ys, [V.ref a] = [V.ref p] ∧ (SqL K H p ys ∨ SqT K H p ys) ∧ R ys := ⟨a, xs, rfl, .inl (.inl (.inl h)), q⟩
theorem rd_seqT {K : PySem.W.Frag} {a : Addr} {xs : List V} {R : List V → Prop} (h : H a = some (.tup xs)) (q : R xs) : ∃ p ys, [V.ref a] = [V.ref p] ∧ (SqL K H p ys ∨ SqT K H p ys) ∧ R ys := ⟨a, xs, rfl, .inr (.inl (.inl h)), q⟩
theorem atI_get {xs : List V} {i : Int} (h0 : 0 ≤ i) (h1 : i < xs.length) : ∃ (hb : i.toNat < xs.length), atI xs i = some (xs[i.toNat]'hb) := by
  have hb : i.toNat < xs.length := by omega
  refine ⟨hb, ?_⟩
  unfold atI ixN
  rw [if_pos h0, if_pos h1]
  simp [hb]
theorem atI_ints {xs : List Int} {i : Int} (h0 : 0 ≤ i) (h1 : i < xs.length) : ∃ n, n ∈ xs ∧ xs[i.toNat]? = some n ∧ atI (xs.map V.int) i = some (.int n) := by
  have hb : i.toNat < xs.length := by omega
  refine ⟨xs[i.toNat], List.getElem_mem hb, by simp [hb], ?_⟩
  unfold atI ixN
  rw [if_pos h0, if_pos (by simpa using h1)]
  simp [hb]
/-! loops -/
theorem rd_for {wi : TI} {g : TG} {tb : TS} (h : wi σ H fun J H1 => ∃ W : Nat → Nat → L2.St → Hp → Prop, (∃ m, W 0 m σ H1) ∧ ∀ i m σ H, W i m σ H →
  (J.stop i H ∧ D.nx σ H) ∨ (J.go i H ∧ ∃ N : L2.St → Hp → Prop, (∀ σ' H', N σ' H' → ∃ m', m' < m ∧ W (i + 1) m' σ' H') ∧ ∀ x H', J.yld i H x H' → g x σ H' fun σ2 H2 => tb { D with nx := N, ct := N, bk := D.nx } σ2 H2)) : tFor wi g tb D σ H := h
theorem rd_iRng1 {ta : TA} {R : It → Hp → Prop} (h : ta σ H fun vs H1 => ∃ j : Int, vs = [.int j] ∧ -(2 ^ 62) ≤ j ∧ j < 2 ^ 62 ∧ R (Itr 0 j.toNat) H1) : iRng1 ta σ H R := h
theorem rd_iList {K : PySem.W.Frag} {R : It → Hp → Prop} (h : te σ H fun x H1 => ∃ a, x = .ref a ∧ (∃ xs, SqL K H1 a xs) ∧ R (Itl K a) H1) : iList K te σ H R := h
theorem for_rng {n : Nat} {k : Nat} {tb : TS} (Pv : Nat → L2.St → Hp → Prop) (h0 : Pv 0 σ H)
    (hs : ∀ i σ H, i < n → Pv i σ H → tb { D with nx := Pv (i + 1), ct := Pv (i + 1), bk := D.nx } (σ.set k (some (.int i))) H) (hd : ∀ σ H, Pv n σ H → D.nx σ H) :
    ∃ W : Nat → Nat → L2.St → Hp → Prop, (∃ m, W 0 m σ H) ∧ ∀ i m σ H, W i m σ H →
      ((Itr 0 n).stop i H ∧ D.nx σ H) ∨ ((Itr 0 n).go i H ∧ ∃ N : L2.St → Hp → Prop, (∀ σ' H', N σ' H' → ∃ m', m' < m ∧ W (i + 1) m' σ' H') ∧ ∀ x H', (Itr 0 n).yld i H x H' → gName k x σ H' fun σ2 H2 => tb { D with nx := N, ct := N, bk := D.nx } σ2 H2) := by
  refine for_range (lo := 0) Pv h0 (fun i σ H hi hp => ?_) hd
  have e : (V.int (0 + (i : Int))) = V.int i := by rw [Int.zero_add]
  rw [e]
  exact hs i σ H hi hp
theorem for_lst {K : PySem.W.Frag} {a : Addr} {xs : List V} {k : Nat} {tb : TS} (Pv : Nat → L2.St → Hp → Prop) (h0 : Pv 0 σ H) (hl : ∀ i σ H, Pv i σ H → H a = some (.lst xs))
    (hs : ∀ i x σ H, xs[i]? = some x → Pv i σ H → tb { D with nx := Pv (i + 1), ct := Pv (i + 1), bk := D.nx } (σ.set k (some x)) H) (hd : ∀ σ H, Pv xs.length σ H → D.nx σ H) :
    ∃ W : Nat → Nat → L2.St → Hp → Prop, (∃ m, W 0 m σ H) ∧ ∀ i m σ H, W i m σ H →
      ((Itl K a).stop i H ∧ D.nx σ H) ∨ ((Itl K a).go i H ∧ ∃ N : L2.St → Hp → Prop, (∀ σ' H', N σ' H' → ∃ m', m' < m ∧ W (i + 1) m' σ' H') ∧ ∀ x H', (Itl K a).yld i H x H' → gName k x σ H' fun σ2 H2 => tb { D with nx := N, ct := N, bk := D.nx } σ2 H2) :=
  for_list Pv h0 (fun i σ H _ hp => sl_of' (hl i σ H hp)) hs hd
theorem kb_NoneType_int : kitB "NoneType" "int" = some false := by decide +kernel
theorem kb_NoneType_bool : kitB "NoneType" "bool" = some false := by decide +kernel
theorem kb_NoneType_str : kitB "NoneType" "str" = some false := by decide +kernel
theorem kb_NoneType_list : kitB "NoneType" "list" = some false := by decide +kernel
theorem kb_NoneType_tuple : kitB "NoneType" "tuple" = some false := by decide +kernel
theorem kb_NoneType_dict : kitB "NoneType" "dict" = some false := by decide +kernel
theorem kb_bool_int : kitB "bool" "int" = some true := by decide +kernel
theorem kb_bool_bool : kitB "bool" "bool" = some true := by decide +kernel
theorem kb_bool_str : kitB "bool" "str" = some false := by decide +kernel
theorem kb_bool_list : kitB "bool" "list" = some false := by decide +kernel
theorem kb_bool_tuple : kitB "bool" "tuple" = some false := by decide +kernel
theorem kb_bool_dict : kitB "bool" "dict" = some false := by decide +kernel
theorem kb_int_int : kitB "int" "int" = some true := by decide +kernel
theorem kb_int_bool : kitB "int" "bool" = some false := by decide +kernel
theorem kb_int_str : kitB "int" "str" = some false := by decide +kernel
theorem kb_int_list : kitB "int" "list" = some false := by decide +kernel
theorem kb_int_tuple : kitB "int" "tuple" = some false := by decide +kernel
theorem kb_int_dict : kitB "int" "dict" = some false := by decide +kernel
theorem kb_str_int : kitB "str" "int" = some false := by decide +kernel
theorem kb_str_bool : kitB "str" "bool" = some false := by decide +kernel
theorem kb_str_str : kitB "str" "str" = some true := by decide +kernel
theorem kb_str_list : kitB "str" "list" = some false := by decide +kernel
theorem kb_str_tuple : kitB "str" "tuple" = some false := by decide +kernel
theorem kb_str_dict : kitB "str" "dict" = some false := by decide +kernel
theorem kb_list_int : kitB "list" "int" = some false := by decide +kernel
theorem kb_list_bool : kitB "list" "bool" = some false := by decide +kernel
theorem kb_list_str : kitB "list" "str" = some false := by decide +kernel
theorem kb_list_list : kitB "list" "list" = some true := by decide +kernel
theorem kb_list_tuple : kitB "list" "tuple" = some false := by decide +kernel
theorem kb_list_dict : kitB "list" "dict" = some false := by decide +kernel
theorem kb_tuple_int : kitB "tuple" "int" = some false := by decide +kernel
theorem kb_tuple_bool : kitB "tuple" "bool" = some false := by decide +kernel
theorem kb_tuple_str : kitB "tuple" "str" = some false := by decide +kernel
theorem kb_tuple_list : kitB "tuple" "list" = some false := by decide +kernel
theorem kb_tuple_tuple : kitB "tuple" "tuple" = some true := by decide +kernel
theorem kb_tuple_dict : kitB "tuple" "dict" = some false := by decide +kernel
theorem kb_dict_int : kitB "dict" "int" = some false := by decide +kernel
theorem kb_dict_bool : kitB "dict" "bool" = some false := by decide +kernel
theorem kb_dict_str : kitB "dict" "str" = some false := by decide +kernel
theorem kb_dict_list : kitB "dict" "list" = some false := by decide +kernel
theorem kb_dict_tuple : kitB "dict" "tuple" = some false := by decide +kernel
theorem kb_dict_dict : kitB "dict" "dict" = some true := by decide +kernel
theorem rd_isi {K : PySem.W.Frag} {a n : String} {b : Bool} (ty : TyOf K H x (.type a)) (k : kitB a n = some b) (q : Q (.bl b) H) : rIsi K [x, .ty n] H Q := ⟨x, .ty n, .type a, .type n, b, rfl, .ty n, .base ty, kit_ty k, q⟩
theorem pe_globI {X : Cx} {x : Str} {n : Int} {pos : Pos} (hg : Gl X x) (hm : ∃ t, X.mg x = some (.int n t)) (hd : (x == ("__debug__" : Str)) = false := by decide) : PE X (.Name x pos) (tC (.int n)) := by
  obtain ⟨t, e⟩ := hm
  exact pe_glob hg e ⟨t, rfl⟩ hd
theorem if_nf {A B : Prop} (h : A) : if (!false) = true then A else B := iteT h
theorem if_nt {A B : Prop} (h : B) : if (!true) = true then A else B := iteF h
theorem if_nn {A B : Prop} (h : A) : if decide (V.non = V.non) = true then A else B := by rw [decide_eq_true rfl]; exact iteT h
theorem if_nnN {A B : Prop} (h : B) : if (!decide (V.non = V.non)) = true then A else B := by rw [decide_eq_true rfl]; exact iteF h
theorem if_n_int {i : Int} {A B : Prop} (h : B) : if decide (V.int i = V.non) = true then A else B := by rw [decide_eq_false (fun e => nomatch e)]; exact iteF h
theorem if_nN_int {i : Int} {A B : Prop} (h : A) : if (!decide (V.int i = V.non)) = true then A else B := by rw [decide_eq_false (fun e => nomatch e)]; exact iteT h
theorem if_n_bl {b : Bool} {A B : Prop} (h : B) : if decide (V.bl b = V.non) = true then A else B := by rw [decide_eq_false (fun e => nomatch e)]; exact iteF h
theorem if_nN_bl {b : Bool} {A B : Prop} (h : A) : if (!decide (V.bl b = V.non)) = true then A else B := by rw [decide_eq_false (fun e => nomatch e)]; exact iteT h
theorem if_n_str {x : Str} {A B : Prop} (h : B) : if decide (V.str x = V.non) = true then A else B := by rw [decide_eq_false (fun e => nomatch e)]; exact iteF h
theorem if_nN_str {x : Str} {A B : Prop} (h : A) : if (!decide (V.str x = V.non)) = true then A else B := by rw [decide_eq_false (fun e => nomatch e)]; exact iteT h
theorem if_n_ref {a : Addr} {A B : Prop} (h : B) : if decide (V.ref a = V.non) = true then A else B := by rw [decide_eq_false (fun e => nomatch e)]; exact iteF h
theorem if_nN_ref {a : Addr} {A B : Prop} (h : A) : if (!decide (V.ref a = V.non)) = true then A else B := by rw [decide_eq_false (fun e => nomatch e)]; exact iteT h
theorem rd_eqB {i j : Bool} {Q : VK} (h : Q (.bl (decide (V.bl i = V.bl j))) H) : rEq (.bl i) (.bl j) H Q := ⟨rfl, h⟩
theorem rd_neB {i j : Bool} {Q : VK} (h : Q (.bl (!decide (i = j))) H) : rNe (.bl i) (.bl j) H Q := ⟨rfl, by
  have e : decide (V.bl i = V.bl j) = decide (i = j) := by simp
  rw [e]; exact h⟩
theorem rd_eqS {i j : Str} {Q : VK} (h : Q (.bl (decide (V.str i = V.str j))) H) : rEq (.str i) (.str j) H Q := ⟨rfl, h⟩
theorem if_dec {p : Prop} [Decidable p] {A B : Prop} (h1 : p → A) (h2 : ¬ p → B) : if decide p = true then A else B := by
  by_cases c : p
  · rw [if_pos (decide_eq_true c)]; exact h1 c
  · rw [if_neg (fun e => c (of_decide_eq_true e))]; exact h2 c
theorem if_ndec {p : Prop} [Decidable p] {A B : Prop} (h1 : ¬ p → A) (h2 : p → B) : if (!decide p) = true then A else B := by
  by_cases c : p
  · rw [decide_eq_true c]; exact iteF (h2 c)
  · rw [decide_eq_false c]; exact iteT (h1 c)
theorem if_bool {b : Bool} {A B : Prop} (h1 : b = true → A) (h2 : b = false → B) : if b = true then A else B := by
  cases b with
  | true => exact iteT (h1 rfl)
  | false => exact iteF (h2 rfl)
theorem if_nbool {b : Bool} {A B : Prop} (h1 : b = false → A) (h2 : b = true → B) : if (!b) = true then A else B := by
  cases b with
  | true => exact iteF (h2 rfl)
  | false => exact iteT (h1 rfl)
end
/-! ### the store: a list (at S.1) that holds the script's cells (at S.2) and six ints, the only thing that is changed by a draw -/
abbrev Sto := Addr × Addr
def StoreOk (S : Sto) (H : Hp) : Prop := ∃ (cells : List Int) (a b c d e f : Int), S.2 ≠ S.1 ∧ H S.1 = some (.lst [.ref S.2, .int a, .int b, .int c, .int d, .int e, .int f]) ∧ H S.2 = some (.lst (cells.map V.int)) ∧ 0 ≤ a ∧ 0 ≤ e ∧ e < 2147483647 ∧ 0 ≤ f ∧ f < 2147483647
def At (S : Sto) (H : Hp) (p : Addr) (o : HO) : Prop := p ≠ S.1 ∧ H p = some o
def ExS (S : Sto) (H H' : Hp) : Prop := ∀ p o, p ≠ S.1 → H p = some o → H' p = some o
theorem ExS.refl (S : Sto) (H : Hp) : ExS S H H := fun _ _ _ h => h
theorem ExS.trans {S : Sto} {H H1 H2 : Hp} (a : ExS S H H1) (b : ExS S H1 H2) : ExS S H H2 := fun p o n h => b p o n (a p o n h)
theorem ExS.updS {S : Sto} {H : Hp} {o : HO} : ExS S H (upd H S.1 o) := fun p u n h => by rw [upd_ne n]; exact h
theorem ExS.new {S : Sto} {H : Hp} {p : Addr} {o : HO} (h : H p = none) : ExS S H (upd H p o) := fun a u _ e => by rw [upd_ne (ne_of_none e h)]; exact e
theorem ExS.mut {S : Sto} {H H' : Hp} {p : Addr} {o : HO} (e : ExS S H H') (h : H p = none) : ExS S H (upd H' p o) := fun a u n ha => by rw [upd_ne (ne_of_none ha h)]; exact e a u n ha
theorem At.back {S : Sto} {H H' : Hp} {p : Addr} {o : HO} (e : ExS S H H') (h : At S H p o) : At S H' p o := ⟨h.1, e p o h.1 h.2⟩
theorem StoreOk.ne1 {S : Sto} {H : Hp} {p : Addr} (s : StoreOk S H) (h : H p = none) : p ≠ S.1 := by
  obtain ⟨_, _, _, _, _, _, _, _, hs, _⟩ := s
  exact fun e => (by rw [e, hs] at h; cases h)
theorem StoreOk.ne2 {S : Sto} {H : Hp} {p : Addr} (s : StoreOk S H) (h : H p = none) : p ≠ S.2 := by
  obtain ⟨_, _, _, _, _, _, _, _, _, hs, _⟩ := s
  exact fun e => (by rw [e, hs] at h; cases h)
theorem At.new {S : Sto} {H : Hp} {p : Addr} {o : HO} (s : StoreOk S H) (h : H p = none) : At S (upd H p o) p o := ⟨s.ne1 h, upd_same⟩
theorem store_upd {S : Sto} {p : Addr} {H : Hp} {o : HO} (s : StoreOk S H) (n : p ≠ S.1) (n2 : p ≠ S.2) : StoreOk S (upd H p o) := by
  obtain ⟨cells, a, b, c, d, e, f, n', hs, hq, r⟩ := s
  exact ⟨cells, a, b, c, d, e, f, n', by rw [upd_ne (Ne.symm n)]; exact hs, by rw [upd_ne (Ne.symm n2)]; exact hq, r⟩
theorem StoreOk.new {S : Sto} {H : Hp} {p : Addr} {o : HO} (s : StoreOk S H) (h : H p = none) : StoreOk S (upd H p o) := store_upd s (s.ne1 h) (s.ne2 h)
theorem StoreOk.same {S : Sto} {H H' : Hp} (s : StoreOk S H) (e : Same H H') : StoreOk S H' := by
  obtain ⟨cells, a, b, c, d, e', f, n, hs, hq, r⟩ := s
  exact ⟨cells, a, b, c, d, e', f, n, e _ _ hs, e _ _ hq, r⟩
theorem upd_id {H : Hp} {p : Addr} {o : HO} (h : H p = some o) : upd H p o = H := by
  funext b; unfold upd; split
  · rename_i e; rw [e, h]
  · rfl
theorem same_mut {H H' : Hp} {p : Addr} {o : HO} (e : Same H H') (h : H p = none) : Same H (upd H' p o) := fun b x hb => by rw [upd_ne (ne_of_none hb h)]; exact e b x hb
theorem ixN_nat {n : Nat} {i : Int} (h0 : 0 ≤ i) (h1 : i < n) : ixN n i = some i.toNat := by unfold ixN; rw [if_pos h0, if_pos h1]
theorem get_map {α : Type} {xs : List α} {f : α → V} {i : Nat} {x : V} (h : (xs.map f)[i]? = some x) : ∃ n, xs[i]? = some n ∧ x = f n := by
  rw [List.getElem?_map] at h
  cases e : xs[i]? with
  | none => rw [e] at h; cases h
  | some n => rw [e] at h; exact ⟨n, rfl, (Option.some.inj h).symm⟩
theorem flat_ints (ns : List Int) : (ns.map V.int).all flatV = true := by
  rw [List.all_map]; exact List.all_eq_true.mpr fun _ _ => rfl
theorem swap_perm {xs : List V} {i j : Nat} (hi : i < xs.length) (hj : j < xs.length) : ((xs.set i (xs[j]'hj)).set j (xs[i]'hi)).Perm xs := by
  rw [List.perm_iff_count]
  intro a
  rw [List.count_set (by rw [List.length_set]; exact hj), List.count_set hi]
  have hc : ∀ (k : Nat) (hk : k < xs.length), (xs[k] == a) = true → 0 < xs.count a := fun k hk e => List.count_pos_iff.mpr (by rw [← (beq_iff_eq.mp e)]; exact List.getElem_mem hk)
  have h1 := hc i hi
  have h2 := hc j hj
  by_cases e : i = j
  · subst e
    simp only [List.getElem_set_self]
    by_cases q : (xs[i] == a) = true
    · have := h1 q; simp only [q, if_true]; omega
    · simp only [q]; simp
  · rw [List.getElem_set_ne e]
    by_cases q : (xs[i] == a) = true <;> by_cases r : (xs[j] == a) = true <;> simp only [q, r, if_true] <;> simp <;> (try have := h1 q) <;> (try have := h2 r) <;> omega
def InR (n : Int) : Prop := -1000000000000 ≤ n ∧ n ≤ 1000000000000
instance (n : Int) : Decidable (InR n) := by unfold InR; exact inferInstance
def Sc : V → Prop
  | .non => True
  | .bl _ => True
  | .int _ => True
  | .str _ => True
  | _ => False
def isNum : V → Bool
  | .int n => decide (InR n)
  | _ => false
def Bad (v : V) : Prop := (∃ b, v = .bl b) ∨ ∃ n, v = .int n ∧ ¬ InR n
theorem ints_of {ns : List Int} : ∀ {ys : List V}, (∀ y ∈ ys, y ∈ ns.map V.int) → ∃ ms : List Int, ys = ms.map V.int ∧ ∀ m ∈ ms, m ∈ ns
  | [], _ => ⟨[], rfl, fun _ h => by cases h⟩
  | y :: ys, h => by
    obtain ⟨ms, e, hm⟩ := ints_of (ys := ys) fun z hz => h z (List.mem_cons_of_mem _ hz)
    obtain ⟨n, hn, rfl⟩ := List.mem_map.mp (h y List.mem_cons_self)
    refine ⟨n :: ms, by rw [e]; rfl, fun m hm' => ?_⟩
    rcases List.mem_cons.mp hm' with h1 | h1
    · rw [h1]; exact hn
    · exact hm m h1
theorem cut_mem {xs : List V} {lo hi : Option Int} {v : V} (h : v ∈ cutV xs lo hi) : v ∈ xs := by
  unfold cutV at h
  exact List.mem_of_mem_drop (List.mem_of_mem_take h)
theorem cut_to {xs : List V} {k : Nat} : cutV xs none (some (k : Int)) = xs.take k := by
  unfold cutV
  rw [HT.sIx_none, HT.sIx_nat, List.drop_zero, Nat.sub_zero]
  by_cases h : k ≤ xs.length
  · rw [Nat.min_eq_left h]
  · rw [Nat.min_eq_right (by omega), List.take_length, List.take_of_length_le (by omega)]
/-- the same data, to a depth -/
def Alike (H : Hp) : Nat → V → V → Prop
  | 0, x, y => Sc x ∧ x = y
  | n + 1, x, y => (Sc x ∧ x = y) ∨ ∃ (a b : Addr) (xs ys : List V), x = .ref a ∧ y = .ref b ∧ ((H a = some (.lst xs) ∧ H b = some (.lst ys)) ∨ (H a = some (.tup xs) ∧ H b = some (.tup ys))) ∧ xs.length = ys.length ∧ xs.length ≤ 100000 ∧ ∀ (i : Nat) (u v : V), xs[i]? = some u → ys[i]? = some v → Alike H n u v
theorem Alike.same {H H' : Hp} (e : Same H H') : ∀ {n : Nat} {x y : V}, Alike H n x y → Alike H' n x y
  | 0, _, _, h => h
  | n + 1, _, _, h => by
    rcases h with h | ⟨a, b, xs, ys, e1, e2, h, hl, h100, hi⟩
    · exact .inl h
    · refine .inr ⟨a, b, xs, ys, e1, e2, ?_, hl, h100, fun i u v h1 h2 => (hi i u v h1 h2).same e⟩
      rcases h with ⟨h1, h2⟩ | ⟨h1, h2⟩
      · exact .inl ⟨e _ _ h1, e _ _ h2⟩
      · exact .inr ⟨e _ _ h1, e _ _ h2⟩
theorem rd_isiL {H : Hp} {Q : VK} {K : PySem.W.Frag} {p : Addr} {xs : List V} {n : String} {b : Bool} (h : H p = some (.lst xs)) (k : kitB "list" n = some b) (q : Q (.bl b) H) : rIsi K [.ref p, .ty n] H Q := rd_isi (.lst h) k q
theorem rd_isiT {H : Hp} {Q : VK} {K : PySem.W.Frag} {p : Addr} {xs : List V} {n : String} {b : Bool} (h : H p = some (.tup xs)) (k : kitB "tuple" n = some b) (q : Q (.bl b) H) : rIsi K [.ref p, .ty n] H Q := rd_isi (.tup h) k q
theorem rd_isiLT {H : Hp} {x : V} {Q : VK} {K : PySem.W.Frag} {tp : Addr} {b : Bool} {a : String} (h : H tp = some (.tup [.ty "list", .ty "tuple"])) (ty : TyOf K H x (.type a)) (k : PySem.W.kitAny K (.type a) [.type "list", .type "tuple"] = some b) (q : Q (.bl b) H) : rIsiT K [x, .ref tp] H Q :=
  ⟨x, tp, _, .type a, _, b, rfl, h, .cons (.ty _) (.cons (.ty _) .nil), .base ty, k, q⟩
theorem ka_list {K : PySem.W.Frag} : PySem.W.kitAny K (.type "list") [.type "list", .type "tuple"] = some true := kitAny_cons (kit_ty kb_list_list) (fun h => by cases h) (fun _ => rfl)
theorem ka_tuple {K : PySem.W.Frag} : PySem.W.kitAny K (.type "tuple") [.type "list", .type "tuple"] = some true := kitAny_cons (kit_ty kb_tuple_list) (fun _ => kitAny_cons (kit_ty kb_tuple_tuple) (fun h => by cases h) (fun _ => rfl)) (fun h => by cases h)
theorem decTF : decide (true = true) = true := rfl
theorem rd_ixQL {K : PySem.W.Frag} {H : Hp} {p : Addr} {xs : List V} {i : Int} {v : V} {Q : VK} (h : H p = some (.lst xs)) (e : atI xs i = some v) (q : Q v H) : rIx K (.ref p) (.int i) H Q := .inl (rd_ixL h e q)
theorem rd_ixQT {K : PySem.W.Frag} {H : Hp} {p : Addr} {xs : List V} {i : Int} {v : V} {Q : VK} (h : H p = some (.tup xs)) (e : atI xs i = some v) (q : Q v H) : rIx K (.ref p) (.int i) H Q := .inr (.inl ⟨p, xs, i, v, rfl, rfl, .inl (.inl h), e, q⟩)
theorem same_ex {S : Sto} {H H' : Hp} (e : Same H H') : ExS S H H' := fun p o _ h => e p o h
theorem same_new {H : Hp} {p : Addr} {o : HO} (h : H p = none) : Same H (upd H p o) := fun b x e => by rw [upd_ne (ne_of_none e h)]; exact e
theorem sz {n : Nat} (h : n ≤ 100000) : n ≤ sizeLine := Nat.le_trans h (by decide)
theorem sl_of {K : PySem.W.Frag} {H : Hp} {a : Addr} {xs : List V} (h : H a = some (.lst xs)) : SqL K H a xs := .inl (.inl h)
theorem st_of {K : PySem.W.Frag} {H : Hp} {a : Addr} {xs : List V} (h : H a = some (.tup xs)) : SqT K H a xs := .inl (.inl h)

/-! ### min and max of a list of ints with default= -/
def rMinD (K : PySem.W.Frag) : List V → List V → Hp → VK → Prop := fun vs zs H Q => ∃ (a : Addr) (ns : List Int) (d : V), vs = [.ref a] ∧ zs = [d] ∧ SqL K H a (ns.map V.int) ∧ (ns = [] → Q d H) ∧ ∀ m, m ∈ ns → (∀ y ∈ ns, m ≤ y) → Q (.int m) H
def rMaxD (K : PySem.W.Frag) : List V → List V → Hp → VK → Prop := fun vs zs H Q => ∃ (a : Addr) (ns : List Int) (d : V), vs = [.ref a] ∧ zs = [d] ∧ SqL K H a (ns.map V.int) ∧ (ns = [] → Q d H) ∧ ∀ m, m ∈ ns → (∀ y ∈ ns, y ≤ m) → Q (.int m) H
theorem minOf_int : ∀ (xs : List Int) (x : Int), PySem.W.minOf x xs ∈ x :: xs ∧ ∀ y ∈ x :: xs, PySem.W.minOf x xs ≤ y
  | [], x => ⟨List.mem_cons_self, fun y h => by rw [List.mem_singleton.mp h]; exact Int.le_refl x⟩
  | z :: xs, x => by
    have e : PySem.W.minOf x (z :: xs) = PySem.W.minOf (if z < x then z else x) xs := by
      show List.foldl _ _ xs = List.foldl _ _ xs
      congr 1
      show (if decide (z < x) = true then z else x) = _
      by_cases h : z < x <;> simp [h]
    rw [e]
    obtain ⟨h1, h2⟩ := minOf_int xs (if z < x then z else x)
    by_cases h : z < x
    · rw [if_pos h] at h1 h2 ⊢
      refine ⟨List.mem_cons_of_mem _ h1, fun y hy => ?_⟩
      rcases List.mem_cons.mp hy with rfl | hy
      · exact Int.le_trans (h2 _ List.mem_cons_self) (Int.le_of_lt h)
      · exact h2 _ hy
    · rw [if_neg h] at h1 h2 ⊢
      refine ⟨?_, fun y hy => ?_⟩
      · rcases List.mem_cons.mp h1 with q | q
        · rw [q]; exact List.mem_cons_self
        · exact List.mem_cons_of_mem _ (List.mem_cons_of_mem _ q)
      · rcases List.mem_cons.mp hy with rfl | hy
        · exact h2 _ List.mem_cons_self
        · rcases List.mem_cons.mp hy with rfl | hy
          · exact Int.le_trans (h2 _ List.mem_cons_self) (by omega)
          · exact h2 _ (List.mem_cons_of_mem _ hy)
theorem maxOf_int : ∀ (xs : List Int) (x : Int), PySem.W.maxOf x xs ∈ x :: xs ∧ ∀ y ∈ x :: xs, y ≤ PySem.W.maxOf x xs
  | [], x => ⟨List.mem_cons_self, fun y h => by rw [List.mem_singleton.mp h]; exact Int.le_refl x⟩
  | z :: xs, x => by
    have e : PySem.W.maxOf x (z :: xs) = PySem.W.maxOf (if x < z then z else x) xs := by
      show List.foldl _ _ xs = List.foldl _ _ xs
      congr 1
      show (if decide (x < z) = true then z else x) = _
      by_cases h : x < z <;> simp [h]
    rw [e]
    obtain ⟨h1, h2⟩ := maxOf_int xs (if x < z then z else x)
    by_cases h : x < z
    · rw [if_pos h] at h1 h2 ⊢
      refine ⟨List.mem_cons_of_mem _ h1, fun y hy => ?_⟩
      rcases List.mem_cons.mp hy with rfl | hy
      · exact Int.le_trans (Int.le_of_lt h) (h2 _ List.mem_cons_self)
      · exact h2 _ hy
    · rw [if_neg h] at h1 h2 ⊢
      refine ⟨?_, fun y hy => ?_⟩
      · rcases List.mem_cons.mp h1 with q | q
        · rw [q]; exact List.mem_cons_self
        · exact List.mem_cons_of_mem _ (List.mem_cons_of_mem _ q)
      · rcases List.mem_cons.mp hy with rfl | hy
        · exact h2 _ List.mem_cons_self
        · rcases List.mem_cons.mp hy with rfl | hy
          · exact Int.le_trans (by omega) (h2 _ List.mem_cons_self)
          · exact h2 _ (List.mem_cons_of_mem _ hy)
theorem holds_int {h : Heap} {v : Value} {n : Int} (H : PySem.W.Holds h v n) : ∃ t, v = .int n t := by
  obtain ⟨as, r⟩ := H
  cases r
  exact ⟨_, rfl⟩
theorem hold_all {h : Heap} : ∀ {ns : List Int} {its : List Value}, Vals (ns.map V.int) its → PySem.W.HoldAll h its ns
  | [], _, .nil => PySem.W.HoldAll.nil
  | n :: ns, _, .cons r rs => by
    obtain ⟨t, rfl⟩ := r
    exact .cons ⟨_, .int n t⟩ (hold_all rs)
section
variable {X : Cx}
theorem cr_minD (hc : X.calm = true) (hu : X.A.units + 64 < cLine) : CallRK X (.builtin "min") [Str.ofString "default"] (rMinD X.K) := by
  intro pins s σ H vs zs us ws Q I r rz h
  obtain ⟨a, ns, d, rfl, rfl, hs, h0, h⟩ := h
  obtain rfl := Vals.ref1 r
  obtain ⟨w1, rfl, e1⟩ := vals1 rz
  obtain ⟨its, rv, hl, hz⟩ := I.list hs
  refine PySem.W.min_list_datum_default (I.ok.hd hc) hl.isList (hold_all rv) (by show X.A.units + 1 + 0 < cLine; omega) (fun e h' tk k => ?_) (fun y ys i v h' tk e hi hv k => ?_)
  · exact ⟨d, H, I.kept k, e1, h0 e⟩
  · obtain ⟨t, rfl⟩ := holds_int hv
    obtain ⟨m1, m2⟩ := minOf_int ys y
    subst e
    exact ⟨.int _, H, I.kept k, ⟨t, rfl⟩, h _ m1 m2⟩
theorem cr_maxD (hc : X.calm = true) (hu : X.A.units + 64 < cLine) : CallRK X (.builtin "max") [Str.ofString "default"] (rMaxD X.K) := by
  intro pins s σ H vs zs us ws Q I r rz h
  obtain ⟨a, ns, d, rfl, rfl, hs, h0, h⟩ := h
  obtain rfl := Vals.ref1 r
  obtain ⟨w1, rfl, e1⟩ := vals1 rz
  obtain ⟨its, rv, hl, hz⟩ := I.list hs
  refine PySem.W.max_list_datum_default (I.ok.hd hc) hl.isList (hold_all rv) (by show X.A.units + 1 + 0 < cLine; omega) (fun e h' tk k => ?_) (fun y ys i v h' tk e hi hv k => ?_)
  · exact ⟨d, H, I.kept k, e1, h0 e⟩
  · obtain ⟨t, rfl⟩ := holds_int hv
    obtain ⟨m1, m2⟩ := maxOf_int ys y
    subst e
    exact ⟨.int _, H, I.kept k, ⟨t, rfl⟩, h _ m1 m2⟩
/-! ### isinstance of a caught error that has its own dict -/
def rIsX (K : PySem.W.Frag) (cls : Value) (d : Option Addr) (a : Addr) : List V → Hp → VK → Prop := fun xs H Q => ∃ (D dd : Addr) (fs : List (Str × V)) (c : V) (cv : Value) (b : Bool), cls = .ref D ∧ d = some dd ∧ H dd = some (.xd fs) ∧ ExcC K D ∧ xs = [.ref a, c] ∧ (∀ u, RelV c u → u = cv) ∧ PySem.W.kitOne K (.ref D) cv = some b ∧ Q (.bl b) H
def rIsXT (K : PySem.W.Frag) (cls : Value) (d : Option Addr) (a : Addr) : List V → Hp → VK → Prop := fun xs H Q => ∃ (D dd : Addr) (fs : List (Str × V)) (tp : Addr) (cs : List V) (us : List Value) (b : Bool), cls = .ref D ∧ d = some dd ∧ H dd = some (.xd fs) ∧ ExcC K D ∧ xs = [.ref a, .ref tp] ∧ H tp = some (.tup cs) ∧ Paired ClsV cs us ∧ PySem.W.kitAny K (.ref D) us = some b ∧ Q (.bl b) H
theorem inst_exc {a D dd : Addr} {oe : Obj} {pn pins : List (Addr × Obj)} {s : Shared} {σ : L2.St} {H : Hp} {fs : List (Str × V)} (hz : Zc (.ref D) (some dd) oe) (hf : ∃ vs, oe.data = .fields vs) (I : Inv (X.suite a ((a, oe) :: pn)) pins σ H s) (hd : H dd = some (.xd fs)) :
    ∃ od, PySem.W.InstAt s.heap a oe D (some od) := by
  obtain ⟨hget, _⟩ := I.pin (a, oe) (List.mem_append.mpr (.inl List.mem_cons_self))
  obtain ⟨vs, hv⟩ := hf
  obtain ⟨mA, hns, hr⟩ := (show ObjOk X.prog X.w H s.heap dd (.xd fs) from I.hok dd _ hd)
  obtain ⟨od, ho, hl⟩ := lookIn_ns hns
  exact ⟨od, hget, hz.1, by unfold PySem.W.notCls; rw [hv] <;> rfl, by rw [hz.2]; exact ho⟩
theorem kit_exc {K : PySem.W.Frag} {D a : Addr} {oe : Obj} {od : Option Obj} (C : ExcC K D) : PySem.W.KitX K (.ref a) (.ref D) (fun h => PySem.W.InstAt h a oe D od) :=
  PySem.W.kitx_exc (by obtain ⟨cd, hc, _⟩ := PySem.W.any_some C.hd; rw [hc]; rfl) C.hg C.hk C.hs C.ha C.hn C.ht C.hm
theorem call_isX {K : PySem.W.Frag} {cls : Value} {d : Option Addr} {a : Addr} {oe : Obj} {pn : List (Addr × Obj)} (hK : X.K = K) (hz : Zc cls d oe) (hf : ∃ vs, oe.data = .fields vs) : CallR (X.suite a ((a, oe) :: pn)) (.builtin "isinstance") (rIsX K cls d a) := by
  intro pins s σ H xs us Q I r h
  obtain ⟨D, dd, fs, c, cv, b, rfl, rfl, hd, C, rfl, hcv, e, q⟩ := h
  subst hK
  obtain ⟨u1, u2, rfl, r1, r2⟩ := vals2 r
  obtain rfl : u1 = Value.ref a := r1
  obtain rfl := hcv _ r2
  obtain ⟨od, J⟩ := inst_exc hz hf I hd
  exact PySem.W.kia_one (kit_exc C) I.kIn J e (fun z => nomatch z) fun tk => ⟨.bl b, H, I.kept (t' := tk) fun _ _ z => z, rfl, q⟩
theorem call_isXT {K : PySem.W.Frag} {cls : Value} {d : Option Addr} {a : Addr} {oe : Obj} {pn : List (Addr × Obj)} (hK : X.K = K) (hz : Zc cls d oe) (hf : ∃ vs, oe.data = .fields vs) : CallR (X.suite a ((a, oe) :: pn)) (.builtin "isinstance") (rIsXT K cls d a) := by
  intro pins s σ H xs us Q I r h
  obtain ⟨D, dd, fs, tp, cs, ws, b, rfl, rfl, hd, C, rfl, hT, hp, e, q⟩ := h
  subst hK
  obtain ⟨u1, u2, rfl, r1, r2⟩ := vals2 r
  obtain rfl : u1 = Value.ref a := r1
  cases (show u2 = Value.ref tp from r2)
  obtain ⟨od, J⟩ := inst_exc hz hf I hd
  obtain ⟨_, its, rv, o, h1, h2, n, h3⟩ := (show ObjOk X.prog X.w H s.heap tp (.tup cs) from I.hok tp _ hT)
  have e3 := ClsV.all hp rv
  subst e3
  obtain ⟨oc, ood, dt, sl⟩ := o
  simp only at h2 h3
  subst h2 h3
  exact PySem.W.kia_tup (kit_exc C) I.kIn J h1 e (fun z => nomatch z) fun tk => ⟨.bl b, H, I.kept (t' := tk) fun _ _ z => z, rfl, q⟩
end
/-! ### an own error with one field -/
def spInit1 (K : PySem.W.Frag) (fld : Str) : Sp := fun vs H Q _ => ∃ (a C : Addr) (v : V), vs = [.ref a, v] ∧ OexC K C ∧ PySem.W.findIn K (.ref C) fld = some none ∧ H a = some (exo a C none) ∧ ∀ dx, H dx = none → dx ≠ a → Q .non (upd (upd H dx (exd dx [(fld, v)])) a (exo a C (some dx)))
theorem same_made {H1 : Hp} {a dx C : Addr} {fs : List (Str × V)} {e0 : HO} (na : H1 a = none) (nd : H1 dx = none) (ne : dx ≠ a) : Same H1 (upd (del (upd (upd (upd H1 a e0) dx (exd dx fs)) a (exo a C (some dx))) a) dx (.xd fs)) := fun b o hb => by
  have h1 := ne_of_none hb na
  have h2 := ne_of_none hb nd
  rw [upd_ne h2, del_ne h1, upd_ne h1, upd_ne h2, upd_ne h1]
  exact hb
/-- C(v)'s reading, from what is asked of the new error -/
theorem rd_mk1 {K : PySem.W.Frag} {C : Addr} {fld : Str} {v : V} {H1 : Hp} {W : XK} (T : OexC K C) (nf : PySem.W.findIn K (.ref C) fld = some none) (h : ∀ d H', H1 d = none → Same H1 H' → H' d = some (.xd [(fld, v)]) → W (.ref C) (some d) H') :
    [v].length ≤ 1000 ∧ ∀ a, H1 a = none → spInit1 K fld (.ref a :: ([v] ++ [])) (upd H1 a (exo a C none))
      (fun v H2 => v = .non ∧ ∃ (d : Addr) (fs : List (Str × V)), H2 a = some (exo a C (some d)) ∧ H2 d = some (exd d fs) ∧ H1 d = none ∧ W (.ref C) (some d) (upd (del H2 a) d (.xd fs))) (fun _ _ _ => False) := by
  refine ⟨by simp, fun a na => ⟨a, C, v, rfl, T, nf, upd_same, fun dx ndx ne => ?_⟩⟩
  have nd : H1 dx = none := by rw [upd_ne ne] at ndx; exact ndx
  exact ⟨rfl, dx, [(fld, v)], upd_same, by rw [upd_ne ne]; exact upd_same, nd, h dx _ nd (same_made na nd ne) upd_same⟩
structure HasI (P : Program) (w : World) (K : PySem.W.Frag) (mg : Str → Option Value) (base : Heap) (C : Addr) (k : Nat) (ps : List Str) (sp : Sp) : Prop where
  ex : ∃ fI fd, FnOk P w K mg base CX0 k fI fd ps sp ∧ PySem.W.findIn K (.ref C) "__init__" = some (some (.ref fI)) ∧ PySem.W.typeIn K (.ref fI) = some (.type "function") ∧ Binds K fd ps []
structure ErrC (K : PySem.W.Frag) (mg : Str → Option Value) (x : Str) (C : Addr) : Prop where
  gC : mg x = some (.ref C)
  ox : OexC K C
  xf : XfC K C
  ec : ExcC K C
  self : PySem.W.exmOne K (.ref C) (.ref C) = some true
/-- raise C(e, ..) -/
theorem ps_raiseC {X : Cx} {x : Str} {C : Addr} {k j : Nat} {ps : List Str} {sp : Sp} {e : Expr} {es : List Expr} {ta : TA} {W : WX} {p pos pos2 : Pos} (hc : X.calm = true) (tk : Takes X W) (E : ErrC X.K X.mg x C) (I : HasI X.prog X.w X.K X.mg X.base C j ps sp) (hr : Room k X.A) (hj : j + 1 ≤ k) (hg : Gl X x) (ha : PA X (e :: es) ta)
    (hdb : (x == ("__debug__" : Str)) = false := by decide) (he : starEach (e :: es) X.env = (false, eval e X.env) :: starEach es X.env := by rfl) (hpl : (backTo pos (starEach es X.env)).any (·.1) = false := by rfl) :
    PS X (.Raise (some (.Call (.Name x p) (e :: es) [] pos)) none pos2) (fun _ σ H => tMkO C sp [] ta σ H fun cls d H' => W cls d σ H') := by
  obtain ⟨fI, fd, F1, iC, tI, hb⟩ := I.ex
  exact ps_raise hc tk (pmk_oex E.ox iC tI F1 (hr.mono hj) hb .nil pass0 hg E.gC ha hdb he hpl)
theorem rd_mkO {C : Addr} {sp : Sp} {ta : TA} {σ : L2.St} {H : Hp} {Q : XK} (h : ta σ H fun vs H1 => vs.length ≤ 1000 ∧ ∀ a, H1 a = none → sp (.ref a :: (vs ++ [])) (upd H1 a (exo a C none))
  (fun v H2 => v = .non ∧ ∃ (d : Addr) (fs : List (Str × V)), H2 a = some (exo a C (some d)) ∧ H2 d = some (exd d fs) ∧ H1 d = none ∧ Q (.ref C) (some d) (upd (del H2 a) d (.xd fs))) (fun _ _ _ => False)) : tMkO C sp [] ta σ H Q := h
theorem rd_ckw {r : List V → List V → Hp → VK → Prop} {t tk : TA} {σ : L2.St} {H : Hp} {Q : VK} (h : t σ H fun vs H1 => tk σ H1 fun zs H2 => r vs zs H2 Q) : tCKw r t tk σ H Q := h
theorem rd_xf {a C : Addr} {cls : Value} {d : Option Addr} {f : Str} {te : TE} {σ : L2.St} {H : Hp} {Q : VK} (h : te σ H fun x H1 => x = .ref a ∧ cls = .ref C ∧ ∃ (dd : Addr) (fs : List (Str × V)) (v : V), d = some dd ∧ H1 dd = some (.xd fs) ∧ fs.lookup f = some v ∧ Q v H1) : tXf a cls d C f te σ H Q := h
theorem rd_iTup {K : PySem.W.Frag} {te : TE} {σ : L2.St} {H : Hp} {R : It → Hp → Prop} (h : te σ H fun x H1 => ∃ a, x = .ref a ∧ (∃ xs, SqT K H1 a xs) ∧ R (Itt K a) H1) : iTup K te σ H R := h
theorem rd_lc {wi : TI} {g : TG} {tt : TT} {te : TE} {vs : List Nat} {σ : L2.St} {H : Hp} {Q : VK} (h : wi σ H fun J H1 => ∀ D, H1 D = none → ∃ W : Nat → Nat → Hp → Prop, (∃ m, W 0 m (upd H1 D (.lst []))) ∧ ∀ i m H, W i m H →
  (J.stop i H ∧ Q (.ref D) H) ∨ (J.go i H ∧ ∃ Nx : Hp → Prop, (∀ H', Nx H' → ∃ m', m' < m ∧ W (i + 1) m' H') ∧ ∀ x H', J.yld i H x H' → g x (wipe σ vs) H' fun σ2 H2 => wipe σ2 vs = wipe σ vs ∧ tt σ2 H2 fun b H3 =>
    if b = true then te σ2 H3 fun y H4 => ∃ acc, H4 D = some (.lst acc) ∧ acc.length < sizeLine ∧ Nx (upd H4 D (.lst (acc ++ [y]))) else Nx H3)) : tLc wi g tt te vs σ H Q := h
/-! ### defs that raise -/
structure HasX (P : Program) (w : World) (K : PySem.W.Frag) (mg : Str → Option Value) (base : Heap) (x : Str) (k : Nat) (ps : List Str) (sp : Sp) : Prop where
  ex : ∃ f fd, FnOk P w K mg base (L2.CX P w) k f fd ps sp ∧ mg x = some (.ref f) ∧ PySem.W.keepIn K (.ref f) = true ∧ Binds K fd ps []
theorem HasX.mono {P : Program} {w : World} {K : PySem.W.Frag} {mg : Str → Option Value} {base : Heap} {x : Str} {j k : Nat} {ps : List Str} {sp : Sp} (h : HasX P w K mg base x j ps sp) (l : j ≤ k) : HasX P w K mg base x k ps sp := by
  obtain ⟨f, fd, F, r⟩ := h.ex
  exact ⟨f, fd, F.mono l, r⟩
/-- called with keywords alone: g puts the keywords' values (named ks) in the parameters' order -/
structure HasK (P : Program) (w : World) (K : PySem.W.Frag) (mg : Str → Option Value) (base : Heap) (CX : CXT) (x : Str) (k : Nat) (ps ks : List Str) (g : {α : Type} → List α → List α) (sp : Sp) : Prop where
  ex : ∃ f fd, FnOk P w K mg base CX k f fd ps sp ∧ mg x = some (.ref f) ∧ PySem.W.keepIn K (.ref f) = true ∧ (∀ (s : Shared) (ws : List Value), ws.length = ks.length → BindsTo s fd ⟨[], ks.zip ws⟩ (ps.zip (g ws))) ∧ (∀ (vs : List V) (ws : List Value), vs.length = ks.length → Vals vs ws → Vals (g vs) (g ws))
theorem HasK.mono {P : Program} {w : World} {K : PySem.W.Frag} {mg : Str → Option Value} {base : Heap} {CX : CXT} {x : Str} {j k : Nat} {ps ks : List Str} {g : {α : Type} → List α → List α} {sp : Sp} (h : HasK P w K mg base CX x j ps ks g sp) (l : j ≤ k) : HasK P w K mg base CX x k ps ks g sp := by
  obtain ⟨f, fd, F, r⟩ := h.ex
  exact ⟨f, fd, F.mono l, r⟩
def tCallKS (sp : Sp) (n : Nat) (g : List V → List V) (E : L2.St → XK) (tk : TA) : TE := fun σ H Q => tk σ H fun zs H1 => zs.length = n ∧ sp (g zs) H1 Q (E σ)
section
variable {X : Cx} {x : Str} {k : Nat} {ps ks : List Str} {sp : Sp} {e : Expr} {es : List Expr} {t tk : TA} {p pos : Pos} {W : WX} {kws : List Keyword} {CX : CXT}
/-- a call within a try, or in a def that lets errors out -/
theorem pe_callX (h : HasX X.prog X.w X.K X.mg X.base x k ps sp) (hr : Room k X.A) (hg : Gl X x) (tk : Takes X W) (ha : PA X (e :: es) t)
    (hdb : (x == ("__debug__" : Str)) = false := by decide) (he : starEach (e :: es) X.env = (false, eval e X.env) :: starEach es X.env := by rfl) (hpl : (backTo pos (starEach es X.env)).any (·.1) = false := by rfl) :
    PE X (.Call (.Name x p) (e :: es) [] pos) (tCallS sp (WE W) t) := by
  obtain ⟨f, fd, F, hm, hk, hb⟩ := h.ex
  exact pe_callS F hr hg hm hk hb (fun σ => passAt tk σ) ha hdb he hpl
theorem pe_callKS {g : {α : Type} → List α → List α} {E : L2.St → XK} (h : HasK X.prog X.w X.K X.mg X.base CX x k ps ks g sp) (hr : Room k X.A) (hg : Gl X x) (hx : ∀ σ, PassesAt CX X σ (E σ)) (hkw : PK X kws tk)
    (hall : (backToKw pos (keywordEach kws X.env)).all (·.1.isSome) = true := by rfl) (hks : (backToKw pos (keywordEach kws X.env)).filterMap (·.1) = ks := by rfl) (hdb : (x == ("__debug__" : Str)) = false := by decide)
    (hpl : ((backTo pos (starEach [] X.env)).any (·.1) || (backToKw pos (keywordEach kws X.env)).any (·.1.isNone)) = false := by rfl) :
    PE X (.Call (.Name x p) [] kws pos) (tCallKS sp ks.length g E tk) := by
  obtain ⟨f, fd, F, hm, hk, hb, hrel⟩ := h.ex
  refine ⟨fun pins s σ H Q I h => ?_⟩
  refine wpAny_Call_Name_kw (ld_glob I hg hm ?_ hdb)
  refine PySem.W.callWith_KW0 (h₀ := X.base) I.ok.mod.kin hk hall ?_ hpl
  refine thn (hkw.run pos pins s σ H _ I h) fun ws s2 ⟨zs, H2, I2, rz, l2, q2⟩ => ⟨I2.kIn, ?_⟩
  rw [hks]
  have r2 := hrel zs ws l2 rz
  refine wpAny_call (codeAny_mono (F.run X.A X.stack s2 H2 ⟨[], ks.zip ws⟩ (g ws) (g zs) Q (E σ) hr I2.env0 (hb s2 ws (rz.length.symm.trans l2)) r2 q2) fun r s' hq => ?_)
  cases r with
  | error e => exact hx σ pins H2 s2 e s' I2 hq
  | ok fl =>
    cases fl with
    | ret u => exact I2.after hq
    | next => exact False.elim hq
    | brk => exact False.elim hq
    | cont => exact False.elim hq
theorem pass0S : ∀ σ, PassesAt CX0 X σ (fun _ _ _ => False) := fun _ _ _ _ _ _ _ h => h.elim
theorem rd_callS {σ : L2.St} {H : Hp} {E : L2.St → XK} {tA : TA} {Q : VK} (h : tA σ H fun vs H1 => sp vs H1 Q (E σ)) : tCallS sp E tA σ H Q := h
theorem rd_callKS {n : Nat} {g : List V → List V} {σ : L2.St} {H : Hp} {E : L2.St → XK} {tA : TA} {Q : VK} (h : tA σ H fun zs H1 => zs.length = n ∧ sp (g zs) H1 Q (E σ)) : tCallKS sp n g E tA σ H Q := h
end

/-! ### texts -/
theorem rd_ss {a b : Str} {R : Str → Str → Prop} (h : R a b) : ∃ i j, V.str a = .str i ∧ V.str b = .str j ∧ R i j := ⟨a, b, rfl, rfl, h⟩
theorem rd_s1 {a : Str} {R : Str → Prop} (h : R a) : ∃ z, [V.str a] = [V.str z] ∧ R z := ⟨a, rfl, h⟩
theorem rd_i1 {a : Int} {R : Int → Prop} (h : R a) : ∃ z, [V.int a] = [V.int z] ∧ R z := ⟨a, rfl, h⟩
theorem rd_ixS {z : Str} {i : Int} {c : Nat} {H : Hp} {Q : VK} (hz : z.length ≤ 100000) (e : atI z.cps.toList i = some c) (q : Q (.str ⟨#[c]⟩) H) : rIxS (.str z) (.int i) H Q := ⟨z, i, c, rfl, rfl, sz hz, e, q⟩
theorem rd_inS {c : Nat} {z : Str} {R : Nat → Str → Prop} (h : R c z) : ∃ (c' : Nat) (z' : Str), V.str ⟨#[c]⟩ = V.str ⟨#[c']⟩ ∧ V.str z = V.str z' ∧ R c' z' := ⟨c, z, rfl, rfl, h⟩
theorem rd_slS {z : Str} {lo hi : Option Int} {H : Hp} {Q : VK} (hz : z.length ≤ 100000) (q : Q (.str (cutS z lo hi)) H) : rSlS (.str z) lo hi H Q := ⟨z, rfl, sz hz, q⟩
theorem atI_nats {l : List Nat} {i : Int} (h0 : 0 ≤ i) (h1 : i < l.length) : ∃ c, c ∈ l ∧ l[i.toNat]? = some c ∧ atI l i = some c := by
  have hb : i.toNat < l.length := by omega
  refine ⟨l[i.toNat], List.getElem_mem hb, by simp [hb], ?_⟩
  unfold atI ixN
  rw [if_pos h0, if_pos h1]
  simp [hb]
theorem len_l (s : Str) : s.cps.toList.length = s.length := Array.length_toList
theorem app_l (a b : Str) : (a ++ b).cps.toList = a.cps.toList ++ b.cps.toList := by rw [Str.cps_append, Array.toList_append]
theorem app_len (a b : Str) : (a ++ b).length = a.length + b.length := by rw [← len_l, app_l, List.length_append, len_l, len_l]
theorem str_ext {a b : Str} (h : a.cps.toList = b.cps.toList) : a = b := PyProof.Rows.ext_toList h
theorem one_len (c : Nat) : (⟨#[c]⟩ : Str).length = 1 := rfl
theorem one_l (c : Nat) : (⟨#[c]⟩ : Str).cps.toList = [c] := rfl
theorem cutS_len (z : Str) (lo hi : Option Int) : (cutS z lo hi).length ≤ z.length := by
  rw [← len_l, ← len_l]
  show ((z.cps.toList.drop _).take _).toArray.toList.length ≤ _
  rw [List.toList_toArray, List.length_take, List.length_drop]
  omega
theorem cutS_to (z : Str) (k : Nat) : (cutS z none (some (k : Int))).cps.toList = z.cps.toList.take k := by
  show ((z.cps.toList.drop _).take _).toArray.toList = _
  rw [List.toList_toArray, HT.sIx_none, HT.sIx_nat, List.drop_zero, Nat.sub_zero]
  by_cases h : k ≤ z.length
  · rw [Nat.min_eq_left h]
  · rw [Nat.min_eq_right (by omega), ← len_l, List.take_length, List.take_of_length_le (by rw [len_l]; omega)]
/-! the decimal text of a number -/
def numS (n : Nat) : Str := Str.ofString (toString (n : Int))
theorem numS_l (n : Nat) : (numS n).cps.toList = TL.numL n := TL.tl_num n
theorem numS_inj {m n : Nat} (h : numS m = numS n) : m = n := TL.numL_inj (by rw [← numS_l, ← numS_l, h])
theorem numS_len {n : Nat} (h : n < 100000) : (numS n).length ≤ 5 := by
  rw [← len_l, numS_l]
  exact TL.numL_len (by omega) (by omega)
theorem app_num_inj {s : Str} {m n : Nat} (h : s ++ numS m = s ++ numS n) : m = n := by
  have e := congrArg (fun z : Str => z.cps.toList) h
  simp only [app_l] at e
  exact numS_inj (str_ext (List.append_cancel_left e))
/-! the least free number -/
theorem nodup_le {α : Type} [DecidableEq α] : ∀ {xs ys : List α}, xs.Nodup → (∀ x ∈ xs, x ∈ ys) → xs.length ≤ ys.length
  | [], _, _, _ => Nat.zero_le _
  | x :: xs, ys, hn, hs => by
    obtain ⟨h1, h2⟩ := List.nodup_cons.mp hn
    have hx := hs x List.mem_cons_self
    have := nodup_le (ys := ys.erase x) h2 fun z hz => by
      have ne : z ≠ x := fun e => h1 (e ▸ hz)
      exact (List.mem_erase_of_ne ne).mpr (hs z (List.mem_cons_of_mem _ hz))
    rw [List.length_erase_of_mem hx] at this
    have : 0 < ys.length := List.length_pos_of_mem hx
    simp only [List.length_cons]
    omega
theorem free_le {s : Str} {names : List Str} {n : Nat} (h : ∀ m, m < n → s ++ numS m ∈ names) : n ≤ names.length := by
  have := nodup_le (xs := (List.range n).map fun m => s ++ numS m) (ys := names) ?_ ?_
  · simpa using this
  · rw [List.nodup_iff_pairwise_ne, List.pairwise_map]
    exact List.nodup_range.imp fun hne e => hne (app_num_inj e)
  · intro z hz
    obtain ⟨m, hm, rfl⟩ := List.mem_map.mp hz
    exact h m (List.mem_range.mp hm)
/-- n is the least number that makes none of the names -/
def Least (s : Str) (names : List Str) (n : Nat) : Prop := (∀ m, m < n → s ++ numS m ∈ names) ∧ s ++ numS n ∉ names
theorem Least.unique {s : Str} {names : List Str} {m n : Nat} (h1 : Least s names m) (h2 : Least s names n) : m = n := by
  rcases Nat.lt_trichotomy m n with h | h | h
  · exact absurd (h2.1 m h) h1.2
  · exact h
  · exact absurd (h1.1 n h) h2.2
/-! names -/
def lets : Str := "abcdefghijklmnopqrstuvwxyz"
def letsD : Str := "abcdefghijklmnopqrstuvwxyz0123456789"
def isNmL : List Nat → Bool
  | [] => false
  | c :: l => decide ((c :: l).length ≤ 8) && decide (c ∈ lets.cps.toList) && (c :: l).all fun d => decide (d ∈ letsD.cps.toList)
def isNm (s : Str) : Bool := isNmL s.cps.toList
theorem eqv_strs (xs : List Str) : PyData.eqv (.list (xs.map PyData.str)) (.list (xs.map PyData.str)) = true := by
  show PyData.eqvAll _ _ = true
  induction xs with
  | nil => rfl
  | cons x xs ih => rw [List.map_cons]; simp only [PyData.eqvAll, PyData.eqv, ih]; simp
theorem inV_strs {x : Str} : ∀ {xs : List Str}, inV (.str x) (xs.map V.str) = decide (x ∈ xs)
  | [] => rfl
  | y :: ys => by
    have ih := inV_strs (x := x) (xs := ys)
    unfold inV at ih ⊢
    rw [List.map_cons, List.any_cons, ih]
    show (y == x || decide (x ∈ ys)) = decide (x ∈ y :: ys)
    by_cases h : y = x
    · subst h; simp
    · have h' : x ≠ y := fun e => h e.symm
      simp [h, h']
theorem flat_strs (ns : List Str) : (ns.map V.str).all flatV = true := by
  rw [List.all_map]; exact List.all_eq_true.mpr fun _ _ => rfl
theorem dp_strs {K : PySem.W.Frag} {H : Hp} : ∀ (xs : List Str), DpAll K H (xs.map V.str) (xs.map PyData.str)
  | [] => .nil
  | x :: xs => .cons (.str x) (dp_strs xs)
theorem pe_globS {X : Cx} {x : Str} {z : Str} {pos : Pos} (hg : Gl X x) (hm : ∃ t, X.mg x = some (.str z t)) (hd : (x == ("__debug__" : Str)) = false := by decide) : PE X (.Name x pos) (tC (.str z)) := by
  obtain ⟨t, e⟩ := hm
  exact pe_glob hg e ⟨t, rfl⟩ hd

set_option maxHeartbeats 1000000
/-! ### list(reversed(a list)) -/
section
variable {prog : Program} {w : World} {A : Around} {E : Value → Shared → Prop} {s : Shared}
theorem call_list_rev {it l : Addr} {items : Array Value} {Q : Value → Shared → Prop} (hh : A.handled = none) (hit : s.heap.IsRevIter it l ((items.size : Int) - 1)) (hl : s.heap.IsList l items) (hne : l ≠ it) (hn : items.size ≤ sizeLine)
    (hQ : ∀ (h' : Heap) (tk : Nat) (acc : Array Value) (c' : Nat), (∀ b o, b ≠ it → s.heap.get? b = some o → h'.get? b = some o) → h'.get? s.heap.objs.size = some { cls := .type "list", dict := none, data := .seq acc c', slots := #[] } →
      ItemsOf (fun i v => items[items.size - 1 - i]? = some v) acc items.size → Q (.ref s.heap.objs.size) { s with heap := h', toks := tk }) :
    wpAny (model prog w) A (call (.type "list") [.ref it]) Q E s := by
  obtain ⟨oi, hoi, _⟩ := id hit
  obtain ⟨ol, hol, _⟩ := id hl
  have hSi : s.heap.objs.size ≠ it := Nat.ne_of_gt (Heap.lt_size hoi)
  have hSl : s.heap.objs.size ≠ l := Nat.ne_of_gt (Heap.lt_size hol)
  have hSf : s.heap.objs.size ∉ [it, l] := by simp only [List.mem_cons, List.not_mem_nil, or_false, not_or]; exact ⟨hSi, hSl⟩
  refine callType_codes (Q₁ := fun obj s₁ => obj = .ref s.heap.objs.size ∧ s₁ = { s with heap := s.heap.push { cls := .type "list", data := .seq #[] } }) PySem.F.called_list (PySem.F.typeCall_list_1 _) PySem.F.entry_list_init
    (code_list_new _ ⟨rfl, rfl⟩) fun obj s₁ h₁ => ?_
  obtain ⟨rfl, rfl⟩ := h₁
  have hS : (s.heap.push { cls := .type "list", data := .seq #[] }).get? s.heap.objs.size = some { cls := .type "list", data := .seq #[] } := Heap.get?_push_size _ rfl
  have W := (Walks.listRev (prog := prog) (w := w) (A := A.in1.in1) hh it l hne items).toS
  refine ⟨⟨_, hS, rfl⟩, PySem.F.args_list_init_2 _ _, ?_⟩
  show wpAny _ _ (do let old ← Builtin.List.listItems (.ref s.heap.objs.size); Builtin.List.listUpdate (.ref s.heap.objs.size) (fun _ => #[]); letGo old.toList.reverse; Builtin.List.listExtendWith (.ref s.heap.objs.size) (.ref it) .none) _ _ _
  refine wpAny_bind ?_
  unfold Builtin.List.listItems
  refine wpAny_bind (wpAny_seqItems hS rfl (wpAny_pure ?_))
  show wpAny _ _ (updateSeq s.heap.objs.size (fun _ => #[]) >>= fun _ => letGo (#[] : Array Value).toList.reverse >>= fun _ => Builtin.List.listExtendWith (.ref s.heap.objs.size) (.ref it) .none) _ _ _
  refine wpAny_bind (wpAny_updateSeq hS rfl ?_)
  have hS₂ := Heap.get?_update_self (Obj.mapSeq (fun _ => (#[] : Array Value))) hS rfl
  have oth : ∀ b o, b ≠ s.heap.objs.size → s.heap.get? b = some o → ((s.heap.push { cls := .type "list", data := .seq #[] }).update s.heap.objs.size (Obj.mapSeq (fun _ => (#[] : Array Value)))).get? b = some o :=
    fun b o hb e => (Heap.get?_update_other _ _ (Ne.symm hb)).trans (Heap.get?_push_of_some _ e)
  refine wpAny_bind (wpAny_letGo ?_)
  generalize hM : ((s.heap.push { cls := .type "list", data := .seq #[] }).update s.heap.objs.size (Obj.mapSeq (fun _ => (#[] : Array Value)))) = M at hS₂ oth ⊢
  have hit1 : M.IsRevIter it l ((items.size : Int) - 1) := hit.at fun o e => oth _ o hSi.symm e
  have hl1 : M.IsList l items := by
    obtain ⟨o, e, r⟩ := hl
    exact ⟨o, oth _ o hSl.symm e, r⟩
  have hT : ({ s with heap := M } : Shared).TypeIs (.ref it) "list_reverseiterator" := Heap.IsRevIter.typeIs (s := { s with heap := M }) hit1
  have h1 : Builtin.List.listSameRef (.ref s.heap.objs.size) (.ref it) = false := by simp [Builtin.List.listSameRef, hSi]
  unfold Builtin.List.listExtendWith
  refine wpAny_bind (wpAny_typeOf hT ?_)
  rw [if_neg (by rw [h1]; decide)]
  refine wpAny_bind (wpAny_pyIter_revIter (s := { s with heap := M }) hit1 ?_)
  refine wpAny_bind (wpAny_holding ?_)
  unfold Builtin.List.listLengthHint
  refine wpAny_bind (wpAny_specialOf hT RT.nolen_lri ?_)
  show wpAny _ _ (specialOf (Value.ref it) (Str.ofString "__length_hint__") >>= _) _ _ _
  refine wpAny_bind (wpAny_specialOf hT RT.hint_lri ?_)
  generalize hid : ("list_reverseiterator.__length_hint__" : String) = id0
  wp_delta
  rw [show splitId id0 = some ("list_reverseiterator", "__length_hint__") from by subst hid; decide +kernel]
  subst hid
  refine wpAny_bind (wpAny_isInstance (b := true) hT (by rw [isSubtype_type]; kernel_rfl) ?_)
  refine wpAny_pure ?_
  rw [if_neg (by decide)]
  have e0 : ((items.size : Nat) : Int) - 1 - ((0 : Nat) : Int) = (items.size : Int) - 1 := by omega
  refine wpAny_pure ⟨plainId_quiet PySem.F.plain_extend_loop _, codeAny_extend_loopS W hn _ hSf _ items.size 0 _ _ _ rfl (Nat.zero_le _) ⟨Nat.zero_le _, by rw [e0]; exact hit1, hl1⟩ hS₂ (ItemsOf.nil _) fun s' acc' c' hm hS' hacc => ?_⟩
  rw [Moved.eq_with hm]
  refine ⟨rfl, hQ s'.heap s'.toks acc' c' (fun b o hb e => hm.heap b o (fun hmem => ?_) (oth b o (Nat.ne_of_lt (Heap.lt_size e)) e)) hS' hacc⟩
  rcases List.mem_cons.mp hmem with e' | hmem
  · exact absurd (Heap.lt_size e) (by rw [e']; exact Nat.lt_irrefl _)
  · exact hb (List.mem_singleton.mp hmem)
end
def tLstRev (K : PySem.W.Frag) (te : TE) : TE := fun σ H Q => te σ H fun v H1 => ∃ (a : Addr) (xs : List V), v = .ref a ∧ SqL K H1 a xs ∧ ∀ q, H1 q = none → Q (.ref q) (upd H1 q (.lst xs.reverse))
section
variable {X : Cx}
theorem pe_lstRev {e : Expr} {te : TE} {p p2 pos pos2 : Pos} (hc : X.calm = true) (hg : Gl X "list") (hm : X.mg "list" = none) (hg2 : Gl X "reversed") (hm2 : X.mg "reversed" = none) (he : PE X e te)
    (hs : starEach [e] X.env = (false, eval e X.env) :: starEach [] X.env := by rfl)
    (hs2 : starEach [.Call (.Name "reversed" p2) [e] [] pos2] X.env = (false, eval (.Call (.Name "reversed" p2) [e] [] pos2) X.env) :: starEach [] X.env := by rfl) :
    PE X (.Call (.Name "list" p) [.Call (.Name "reversed" p2) [e] [] pos2] [] pos) (tLstRev X.K te) := by
  refine ⟨fun pins s σ H Q I h => ?_⟩
  refine Call_ (ld_blt I hg hm boot_list (PyProof.Rows.callWith_type1 (args_cons (Call_ (ld_blt I hg2 hm2 PyProof.Rows.boot_reversed (PyProof.Rows.callWith_type1 (args_cons (thn (he.run pins s σ H _ I h) fun u s1 ⟨v, H1, I1, r1, q1⟩ => args_nil ?_) hs) hs rfl))) hs2) hs2 rfl))
  obtain ⟨a, xs, ev, hq, q⟩ := q1
  subst ev
  obtain rfl : u = Value.ref a := r1
  obtain ⟨its, rv, p', hz⟩ := I1.list hq
  refine call_reversed_list p'.isList (args_nil ?_)
  have hl := p'.isList
  obtain ⟨ol, hol, _⟩ := id hl
  have hne : a ≠ s1.heap.objs.size := Nat.ne_of_lt (Heap.lt_size hol)
  have hn : its.toArray.size ≤ sizeLine := by rw [List.size_toArray, ← rv.length]; exact hz
  refine call_list_rev (s := { s1 with heap := s1.heap.push (revObj a ((its.toArray.size : Int) - 1)) }) (I1.ok.hd hc) ⟨_, Heap.get?_push_size _ rfl, rfl, rfl⟩ (hl.push _) hne hn fun h' tk acc c' hk e hi => ?_
  have kp : ∀ b o, s1.heap.get? b = some o → h'.get? b = some o := fun b o e => hk b o (Nat.ne_of_lt (Heap.lt_size e)) (Heap.get?_push_of_some _ e)
  have hle : s1.heap.objs.size ≤ (s1.heap.push (revObj a ((its.toArray.size : Int) - 1))).objs.size := by simp [Heap.push]
  refine ⟨.ref (s1.heap.push (revObj a ((its.toArray.size : Int) - 1))).objs.size, _, I1.laid (t' := tk) kp hle (show ObjOk X.prog X.w _ h' _ (.lst xs.reverse) from ⟨by rw [List.length_reverse]; exact hz, acc.toList, c', RT.vals_rev rv hi, ?_⟩), rfl, q _ (I1.hok.fresh hle)⟩
  rw [Array.toArray_toList]
  exact e
theorem rd_lrv {K : PySem.W.Frag} {te : TE} {σ : L2.St} {H : Hp} {Q : VK} (h : te σ H fun v H1 => ∃ (a : Addr) (xs : List V), v = .ref a ∧ SqL K H1 a xs ∧ ∀ q, H1 q = none → Q (.ref q) (upd H1 q (.lst xs.reverse))) : tLstRev K te σ H Q := h
end
/-! names, as they are built -/
theorem lets_digits : lets ++ ("0123456789" : Str) = letsD := by decide +kernel
theorem lets_sub : ∀ c ∈ lets.cps.toList, c ∈ letsD.cps.toList := by decide +kernel
/-- a text of n signs: a letter, then letters and digits -/
def NmP (z : Str) (n : Nat) : Prop := z.length = n ∧ ∃ c l, z.cps.toList = c :: l ∧ c ∈ lets.cps.toList ∧ ∀ d ∈ c :: l, d ∈ letsD.cps.toList
theorem NmP.one {c : Nat} (h : c ∈ lets.cps.toList) : NmP ⟨#[c]⟩ 1 := ⟨rfl, c, [], rfl, h, fun d hd => by rw [List.mem_singleton.mp hd]; exact lets_sub c h⟩
theorem NmP.add {z : Str} {n c : Nat} (h : NmP z n) (hc : c ∈ letsD.cps.toList) : NmP (z ++ ⟨#[c]⟩) (n + 1) := by
  obtain ⟨h1, d, l, e, hd, ha⟩ := h
  refine ⟨by rw [app_len, h1]; rfl, d, l ++ [c], by rw [app_l, e]; rfl, hd, fun x hx => ?_⟩
  have hx' : x ∈ (d :: l) ++ [c] := hx
  rcases List.mem_append.mp hx' with q | q
  · exact ha x q
  · rw [List.mem_singleton.mp q]; exact hc
theorem NmP.nm {z : Str} {n : Nat} (h : NmP z n) (hn : n ≤ 8) : isNm z = true := by
  obtain ⟨h1, c, l, e, hc, ha⟩ := h
  have hl : (c :: l).length ≤ 8 := by rw [← e, len_l, h1]; exact hn
  unfold isNm
  rw [e]
  show (decide ((c :: l).length ≤ 8) && decide (c ∈ lets.cps.toList) && (c :: l).all fun d => decide (d ∈ letsD.cps.toList)) = true
  rw [decide_eq_true hl, decide_eq_true hc, Bool.true_and, Bool.true_and]
  exact List.all_eq_true.mpr fun d hd => decide_eq_true (ha d hd)
theorem isNm_len {z : Str} (h : isNm z = true) : 1 ≤ z.length ∧ z.length ≤ 8 := by
  rw [← len_l]
  unfold isNm at h
  cases e : z.cps.toList with
  | nil => rw [e] at h; cases h
  | cons c l =>
    rw [e] at h
    have h' : (decide ((c :: l).length ≤ 8) && decide (c ∈ lets.cps.toList) && (c :: l).all fun d => decide (d ∈ letsD.cps.toList)) = true := h
    rw [Bool.and_eq_true, Bool.and_eq_true] at h'
    exact ⟨by simp, of_decide_eq_true h'.1.1⟩
/-! loops over a text's signs -/
theorem rd_iStr {te : TE} {σ : L2.St} {H : Hp} {R : It → Hp → Prop} (h : te σ H fun v H1 => ∃ x, v = .str x ∧ R (Its x) H1) : iStr te σ H R := h
theorem for_sgn {z : Str} {k : Nat} {tb : TS} {D : Ends} {σ : L2.St} {H : Hp} (Pv : Nat → L2.St → Hp → Prop) (h0 : Pv 0 σ H)
    (hs : ∀ i c σ H, z.cps.toList[i]? = some c → Pv i σ H → tb { D with nx := Pv (i + 1), ct := Pv (i + 1), bk := D.nx } (σ.set k (some (.str ⟨#[c]⟩))) H) (hd : ∀ σ H, Pv z.length σ H → D.nx σ H) :
    ∃ W : Nat → Nat → L2.St → Hp → Prop, (∃ m, W 0 m σ H) ∧ ∀ i m σ H, W i m σ H →
      ((Its z).stop i H ∧ D.nx σ H) ∨ ((Its z).go i H ∧ ∃ N : L2.St → Hp → Prop, (∀ σ' H', N σ' H' → ∃ m', m' < m ∧ W (i + 1) m' σ' H') ∧ ∀ x H', (Its z).yld i H x H' → gName k x σ H' fun σ2 H2 => tb { D with nx := N, ct := N, bk := D.nx } σ2 H2) := by
  refine for_it (walk_str (z := z)) Pv h0 (fun _ _ _ _ _ => trivial) (fun i x σ H H' hi hp y => ?_) hd
  obtain ⟨rfl, c, hc, rfl⟩ := y
  exact hs i c σ _ (by rw [Array.getElem?_toList]; exact hc) hp
theorem lc_sgn {z : Str} {k : Nat} {tt : TT} {te : TE} {vs : List Nat} {σ : L2.St} {H1 : Hp} {D : Addr} {Qd : Hp → Prop} (Pv : Nat → Hp → Prop) (h0 : Pv 0 (upd H1 D (.lst [])))
    (hs : ∀ i c H, z.cps.toList[i]? = some c → Pv i H → wipe ((wipe σ vs).set k (some (.str ⟨#[c]⟩))) vs = wipe σ vs ∧ tt ((wipe σ vs).set k (some (.str ⟨#[c]⟩))) H fun b H3 =>
      if b = true then te ((wipe σ vs).set k (some (.str ⟨#[c]⟩))) H3 fun y H4 => ∃ acc, H4 D = some (.lst acc) ∧ acc.length < sizeLine ∧ Pv (i + 1) (upd H4 D (.lst (acc ++ [y]))) else Pv (i + 1) H3) (hd : ∀ H, Pv z.length H → Qd H) :
    ∃ W : Nat → Nat → Hp → Prop, (∃ m, W 0 m (upd H1 D (.lst []))) ∧ ∀ i m H, W i m H →
      ((Its z).stop i H ∧ Qd H) ∨ ((Its z).go i H ∧ ∃ Nx : Hp → Prop, (∀ H', Nx H' → ∃ m', m' < m ∧ W (i + 1) m' H') ∧ ∀ x H', (Its z).yld i H x H' → gName k x (wipe σ vs) H' fun σ2 H2 => wipe σ2 vs = wipe σ vs ∧ tt σ2 H2 fun b H3 =>
        if b = true then te σ2 H3 fun y H4 => ∃ acc, H4 D = some (.lst acc) ∧ acc.length < sizeLine ∧ Nx (upd H4 D (.lst (acc ++ [y]))) else Nx H3) := by
  refine lc_it (walk_str (z := z)) Pv h0 (fun _ _ _ _ => trivial) (fun i x H H' hi hp y => ?_) hd
  obtain ⟨rfl, c, hc, rfl⟩ := y
  exact hs i c _ (by rw [Array.getElem?_toList]; exact hc) hp
/-! a name, told sign by sign -/
theorem isNm_of {z : Str} {c : Nat} {l : List Nat} (e : z.cps.toList = c :: l) : isNm z = (decide (z.length ≤ 8) && decide (c ∈ lets.cps.toList) && z.cps.toList.all fun d => decide (d ∈ letsD.cps.toList)) := by
  unfold isNm
  rw [← len_l, e]
  rfl
theorem isNm_zero {z : Str} (h : z.length = 0) : isNm z = false := by
  rw [← len_l] at h
  unfold isNm
  rw [List.eq_nil_of_length_eq_zero h]
  rfl
theorem rd_ii {a : Int} {R : Int → Prop} (h : R a) : ∃ i, V.int a = V.int i ∧ R i := ⟨a, rfl, h⟩
theorem rd_si {a : Str} {R : Str → Prop} (h : R a) : ∃ i, V.str a = V.str i ∧ R i := ⟨a, rfl, h⟩
theorem atI_zero {α : Type} {c : α} {l : List α} : atI (c :: l) 0 = some c := by
  unfold atI ixN
  rw [if_pos (by omega), if_pos (by simp)]
  simp
theorem rd_yes {σ : L2.St} {H : Hp} {QT : Bool → Hp → Prop} (h : QT true H) : tYes σ H QT := h
theorem rd_callNS' : True := trivial
/-! texts of at most n plain signs -/
def okS (n : Nat) (z : Str) : Bool := decide (z.length ≤ n) && z.cps.toList.all fun c => decide (c < 128)
def OkS (n : Nat) (z : Str) : Prop := okS n z = true
instance (n : Nat) (z : Str) : Decidable (OkS n z) := by unfold OkS; exact inferInstance
theorem okS_iff {n : Nat} {z : Str} : OkS n z ↔ z.length ≤ n ∧ ∀ c ∈ z.cps.toList, c < 128 := by
  unfold OkS okS
  rw [Bool.and_eq_true, decide_eq_true_iff, List.all_eq_true]
  exact ⟨fun h => ⟨h.1, fun c hc => of_decide_eq_true (h.2 c hc)⟩, fun h => ⟨h.1, fun c hc => decide_eq_true (h.2 c hc)⟩⟩
theorem OkS.len {n : Nat} {z : Str} (h : OkS n z) : z.length ≤ n := (okS_iff.mp h).1
theorem OkS.mono {m n : Nat} {z : Str} (h : OkS m z) (l : m ≤ n) : OkS n z := okS_iff.mpr ⟨by have := h.len; omega, (okS_iff.mp h).2⟩
theorem OkS.app {a b n : Nat} {x y : Str} (hx : OkS a x) (hy : OkS b y) (l : a + b ≤ n) : OkS n (x ++ y) := by
  refine okS_iff.mpr ⟨?_, fun c hc => ?_⟩
  · have := hx.len; have := hy.len; rw [app_len]; omega
  · rw [app_l] at hc
    exact (List.mem_append.mp hc).elim ((okS_iff.mp hx).2 c) ((okS_iff.mp hy).2 c)
theorem OkS.cut {n : Nat} {z : Str} {lo hi : Option Int} (h : OkS n z) : OkS n (cutS z lo hi) := by
  refine okS_iff.mpr ⟨Nat.le_trans (cutS_len z lo hi) h.len, fun c hc => (okS_iff.mp h).2 c ?_⟩
  have hc : c ∈ ((z.cps.toList.drop (HT.sIx z.length 0 lo)).take (HT.sIx z.length z.length hi - HT.sIx z.length 0 lo)) := hc
  exact List.mem_of_mem_drop (List.mem_of_mem_take hc)
theorem OkS.one {c : Nat} (h : c < 128) : OkS 1 ⟨#[c]⟩ := okS_iff.mpr ⟨Nat.le_refl _, fun d hd => by rw [List.mem_singleton.mp (show d ∈ [c] from hd)]; exact h⟩
theorem OkS.sign {n c : Nat} {z : Str} (h : OkS n z) (hc : c ∈ z.cps.toList) : OkS 1 ⟨#[c]⟩ := .one ((okS_iff.mp h).2 c hc)
theorem letsD_ok : OkS 36 letsD := by decide +kernel
theorem OkS.nm {z : Str} (h : isNm z = true) : OkS 8 z := by
  refine okS_iff.mpr ⟨(isNm_len h).2, fun d hd => ?_⟩
  cases e : z.cps.toList with
  | nil => rw [e] at hd; cases hd
  | cons c l =>
    rw [isNm_of e, Bool.and_eq_true, List.all_eq_true] at h
    exact (okS_iff.mp letsD_ok).2 d (of_decide_eq_true (h.2 d hd))
theorem OkS.num {n : Nat} (h : n < 100000) : OkS 5 (numS n) := by
  refine okS_iff.mpr ⟨numS_len h, fun c hc => ?_⟩
  rw [numS_l] at hc
  by_cases q : c < 48 ∨ 57 < c
  · exact absurd hc (TL.numL_free q)
  · omega
theorem shaped_strs {ns : List Str} {n : Nat} (h : ∀ s ∈ ns, OkS n s) : SeqAt.shaped (.list (ns.map PyData.str)) = true := by
  have h1 : PyData.canLayAll0 (ns.map PyData.str) = true := by
    induction ns with
    | nil => rfl
    | cons x xs ih =>
      have hx := h x List.mem_cons_self
      have ih := ih fun s hs => h s (List.mem_cons_of_mem _ hs)
      simp only [List.map, PyData.canLayAll0, PyData.canLay0, ih, Bool.and_true]
      show x.cps.all (· < 0x110000) = true
      rw [← Array.all_toList, List.all_eq_true]
      exact fun c hc => decide_eq_true (Nat.lt_trans ((okS_iff.mp hx).2 c hc) (by decide))
  have h2 : PyData.depth (.list (ns.map PyData.str)) ≤ 64 := by
    have e : ∀ xs : List Str, PyData.depthAll (xs.map PyData.str) = 0 := fun xs => by
      induction xs with
      | nil => rfl
      | cons x xs ih => simp only [List.map, PyData.depthAll, PyData.depth, ih, Nat.max_self]
    simp only [PyData.depth, e]
    decide
  unfold SeqAt.shaped
  rw [Bool.and_eq_true]
  exact ⟨by simp only [PyData.canLay0, h1], decide_eq_true h2⟩

/-! ### calls with values and keywords, and with defaults -/
structure HasN (P : Program) (w : World) (K : PySem.W.Frag) (mg : Str → Option Value) (base : Heap) (CX : CXT) (x : Str) (k n : Nat) (ps ks : List Str) (gV : List V → List V → List V) (sp : Sp) : Prop where
  ex : ∃ f fd, FnOk P w K mg base CX k f fd ps sp ∧ mg x = some (.ref f) ∧ PySem.W.keepIn K (.ref f) = true ∧ ∃ g, KBn K fd ps n ks g gV
theorem HasN.mono {P : Program} {w : World} {K : PySem.W.Frag} {mg : Str → Option Value} {base : Heap} {CX : CXT} {x : Str} {j k n : Nat} {ps ks : List Str} {gV : List V → List V → List V} {sp : Sp} (h : HasN P w K mg base CX x j n ps ks gV sp) (l : j ≤ k) : HasN P w K mg base CX x k n ps ks gV sp := by
  obtain ⟨f, fd, F, r⟩ := h.ex
  exact ⟨f, fd, F.mono l, r⟩
structure HasD (P : Program) (w : World) (K : PySem.W.Frag) (mg : Str → Option Value) (base : Heap) (CX : CXT) (x : Str) (k : Nat) (ps : List Str) (dvs : List V) (sp : Sp) : Prop where
  ex : ∃ f fd, FnOk P w K mg base CX k f fd ps sp ∧ mg x = some (.ref f) ∧ PySem.W.keepIn K (.ref f) = true ∧ ∃ ds, Vals dvs ds ∧ Binds K fd ps ds
theorem HasD.mono {P : Program} {w : World} {K : PySem.W.Frag} {mg : Str → Option Value} {base : Heap} {CX : CXT} {x : Str} {j k : Nat} {ps : List Str} {dvs : List V} {sp : Sp} (h : HasD P w K mg base CX x j ps dvs sp) (l : j ≤ k) : HasD P w K mg base CX x k ps dvs sp := by
  obtain ⟨f, fd, F, r⟩ := h.ex
  exact ⟨f, fd, F.mono l, r⟩
def tCallNS (n m : Nat) (sp : Sp) (gV : List V → List V → List V) (E : L2.St → XK) (t tk : TA) : TE := fun σ H Q => t σ H fun vs H1 => tk σ H1 fun zs H2 => vs.length = n ∧ zs.length = m ∧ sp (gV vs zs) H2 Q (E σ)
section
variable {X : Cx} {CX : CXT} {x : Str} {k n : Nat} {ps ks : List Str} {dvs : List V} {gV : List V → List V → List V} {sp : Sp} {E : L2.St → XK} {p pos : Pos} {e : Expr} {es : List Expr} {kws : List Keyword} {t tk : TA}
theorem pe_callNS (h : HasN X.prog X.w X.K X.mg X.base CX x k n ps ks gV sp) (hr : Room k X.A) (hg : Gl X x) (hx : ∀ σ, PassesAt CX X σ (E σ))
    (ha : PA X (e :: es) t) (hkw : PK X kws tk) (hall : (backToKw pos (keywordEach kws X.env)).all (·.1.isSome) = true := by rfl) (hks : (backToKw pos (keywordEach kws X.env)).filterMap (·.1) = ks := by rfl)
    (hdb : (x == ("__debug__" : Str)) = false := by decide) (he : starEach (e :: es) X.env = (false, eval e X.env) :: starEach es X.env := by rfl)
    (hpl : ((backTo pos (starEach (e :: es) X.env)).any (·.1) || (backToKw pos (keywordEach kws X.env)).any (·.1.isNone)) = false := by rfl) :
    PE X (.Call (.Name x p) (e :: es) kws pos) (tCallNS n ks.length sp gV E t tk) := by
  obtain ⟨f, fd, F, hm, hk, g, hb⟩ := h.ex
  refine ⟨fun pins s σ H Q I h => ?_⟩
  refine wpAny_Call_Name_kw (ld_glob I hg hm ?_ hdb)
  refine PySem.W.callWith_KW (h₀ := X.base) I.ok.mod.kin hk hall (thn (ha.run pos pins s σ H _ I h) fun us s1 ⟨vs, H1, I1, r, q⟩ => ?_) hpl he
  refine thn (hkw.run pos pins s1 σ H1 _ I1 q) fun ws s2 ⟨zs, H2, I2, rz, l1, l2, q2⟩ => ⟨I2.kIn, ?_⟩
  rw [hks]
  have r2 := hb.rel r rz
  refine wpAny_call (codeAny_mono (F.run X.A X.stack s2 H2 ⟨us, ks.zip ws⟩ (g us ws) (gV vs zs) Q (E σ) hr I2.env0 (hb.to s2 us ws I2.kIn (r.length.symm.trans l1) (rz.length.symm.trans l2)) r2 q2) fun r s' hq => ?_)
  cases r with
  | error e => exact hx σ pins H2 s2 e s' I2 hq
  | ok fl =>
    cases fl with
    | ret u => exact I2.after hq
    | next => exact False.elim hq
    | brk => exact False.elim hq
    | cont => exact False.elim hq
theorem pe_callDS (h : HasD X.prog X.w X.K X.mg X.base CX x k ps dvs sp) (hr : Room k X.A) (hg : Gl X x) (hx : ∀ σ, PassesAt CX X σ (E σ)) (ha : PA X (e :: es) t)
    (hdb : (x == ("__debug__" : Str)) = false := by decide) (he : starEach (e :: es) X.env = (false, eval e X.env) :: starEach es X.env := by rfl) (hpl : (backTo pos (starEach es X.env)).any (·.1) = false := by rfl) :
    PE X (.Call (.Name x p) (e :: es) [] pos) (tCallSD sp dvs E t) := by
  obtain ⟨f, fd, F, hm, hk, ds, hd, hb⟩ := h.ex
  exact pe_callSD F hr hg hm hk hb hd hx ha hdb he hpl
theorem rd_callNS {m : Nat} {σ : L2.St} {H : Hp} {Q : VK} (h : t σ H fun vs H1 => tk σ H1 fun zs H2 => vs.length = n ∧ zs.length = m ∧ sp (gV vs zs) H2 Q (E σ)) : tCallNS n m sp gV E t tk σ H Q := h
theorem rd_callSD {σ : L2.St} {H : Hp} {Q : VK} (h : t σ H fun vs H1 => sp (vs ++ dvs) H1 Q (E σ)) : tCallSD sp dvs E t σ H Q := h
end
/-! ### a text and a number, one behind the other -/
theorem empty_app (z : Str) : Str.empty ++ z = z := str_ext (by rw [app_l]; rfl)
theorem rd_fs2 {σ : L2.St} {H : Hp} {z : Str} {n i j : Nat} {R : Str → Hp → Prop} (e1 : σ[i]? = some (some (.str z))) (e2 : σ[j]? = some (some (.int n))) (hz : z.length ≤ 1000) (hn : n < 100000) (q : R (z ++ numS n) H) :
    tJs [tFmt (tVar i), tFmt (tVar j)] Str.empty σ H R := by
  refine ⟨_, e1, .inl ⟨z, rfl, sz (by omega), z, rfl, ?_, ?_⟩⟩
  · rw [empty_app]; exact sz (by omega)
  · refine ⟨_, e2, .inr ⟨n, rfl, ?_, numS n, rfl, ?_, ?_⟩⟩
    · show (Int.natAbs (n : Int)).log2 < 1920
      rw [Int.natAbs_natCast]
      by_cases h0 : n = 0
      · subst h0; decide
      · exact Nat.lt_of_lt_of_le ((Nat.log2_lt h0).mpr (by omega : n < 2 ^ 17)) (by decide)
    · rw [empty_app, app_len]
      have := numS_len hn
      exact sz (by omega)
    · show R (Str.empty ++ z ++ numS n) H
      rw [empty_app]; exact q
theorem log_ok {n : Nat} (hn : n < 100000) : (n : Int).natAbs.log2 < 1920 := by
  rw [Int.natAbs_natCast]
  by_cases h0 : n = 0
  · subst h0; decide
  · exact Nat.lt_of_lt_of_le ((Nat.log2_lt h0).mpr (by omega : n < 2 ^ 17)) (by decide)
theorem lc_rng {n k : Nat} {tt : TT} {te : TE} {vs : List Nat} {σ : L2.St} {H1 : Hp} {D : Addr} {Qd : Hp → Prop} (Pv : Nat → Hp → Prop) (h0 : Pv 0 (upd H1 D (.lst [])))
    (hs : ∀ i H, i < n → Pv i H → wipe ((wipe σ vs).set k (some (.int i))) vs = wipe σ vs ∧ tt ((wipe σ vs).set k (some (.int i))) H fun b H3 =>
      if b = true then te ((wipe σ vs).set k (some (.int i))) H3 fun y H4 => ∃ acc, H4 D = some (.lst acc) ∧ acc.length < sizeLine ∧ Pv (i + 1) (upd H4 D (.lst (acc ++ [y]))) else Pv (i + 1) H3) (hd : ∀ H, Pv n H → Qd H) :
    ∃ W : Nat → Nat → Hp → Prop, (∃ m, W 0 m (upd H1 D (.lst []))) ∧ ∀ i m H, W i m H →
      ((Itr 0 n).stop i H ∧ Qd H) ∨ ((Itr 0 n).go i H ∧ ∃ Nx : Hp → Prop, (∀ H', Nx H' → ∃ m', m' < m ∧ W (i + 1) m' H') ∧ ∀ x H', (Itr 0 n).yld i H x H' → gName k x (wipe σ vs) H' fun σ2 H2 => wipe σ2 vs = wipe σ vs ∧ tt σ2 H2 fun b H3 =>
        if b = true then te σ2 H3 fun y H4 => ∃ acc, H4 D = some (.lst acc) ∧ acc.length < sizeLine ∧ Nx (upd H4 D (.lst (acc ++ [y]))) else Nx H3) := by
  refine lc_range (lo := 0) Pv h0 (fun i H hi hp => ?_) hd
  have e : (V.int (0 + (i : Int))) = V.int i := by rw [Int.zero_add]
  rw [e]
  exact hs i H hi hp
/-! a dict's keys as the texts put in so far -/
def KeysAre (kvs : List (Key × V)) (ns : List Str) : Prop := ∀ x : Str, (valV kvs (Sum.inr x)).isSome = decide (x ∈ ns)
theorem keys_nil : KeysAre [] [] := fun x => by rw [valV_nil]; rfl
theorem KeysAre.put {kvs : List (Key × V)} {ns : List Str} {y : Str} {v : V} (h : KeysAre kvs ns) : KeysAre (putK kvs (Sum.inr y) v) (ns ++ [y]) := fun x => by
  rw [valV_put]
  by_cases e : (Sum.inr x : Key) = Sum.inr y
  · rw [if_pos e]
    have : x = y := Sum.inr.inj e
    subst this
    simp
  · rw [if_neg e, h x]
    have ne : x ≠ y := fun q => e (by rw [q])
    simp [ne]
theorem str1_le {z : Str} {l : List Str} {n : Nat} (h : (l.all fun s => decide (s.length ≤ n)) = true) (hz : z ∈ l) : z.length ≤ n := of_decide_eq_true (List.all_eq_true.mp h z hz)
theorem rd_dnewK {σ : L2.St} {H : Hp} {Q : VK} (h : ∀ p, H p = none → Q (.ref p) (upd H p (.dK []))) : tDNewK σ H Q := h
theorem rd_dput {td ty tv : TE} {D : Ends} {σ : L2.St} {H : Hp} (h : tv σ H fun v H1 => td σ H1 fun x H2 => ty σ H2 fun y H3 => ∃ a H4, x = .ref a ∧ DPut H3 a y v H4 ∧ D.nx σ H4) : sDPut td ty tv D σ H := h
theorem rd_dnotin {td ty : TE} {σ : L2.St} {H : Hp} {Q : VK} (h : ty σ H fun y H1 => td σ H1 fun x H2 => ∃ a o, x = .ref a ∧ DGet H2 a y o ∧ Q (.bl (!o.isSome)) H2) : tDNotIn ty td σ H Q := h
theorem cut_strs (U : List Str) (lo hi : Option Int) : ∃ U' : List Str, cutV (U.map V.str) lo hi = U'.map V.str ∧ ∀ s ∈ U', s ∈ U := by
  unfold cutV
  rw [← List.map_drop, ← List.map_take]
  exact ⟨_, rfl, fun s hs => List.mem_of_mem_drop (List.mem_of_mem_take hs)⟩
theorem cut_to_len {xs : List V} {k : Nat} : (cutV xs none (some (k : Int))).length ≤ k := by
  rw [cut_to, List.length_take]; omega
theorem cut_from_len {xs : List V} {k : Nat} : (cutV xs (some (k : Int)) none).length ≤ xs.length - k := by
  unfold cutV
  rw [HT.sIx_none, HT.sIx_nat, List.length_take, List.length_drop]
  omega
theorem ExS.free {S : Sto} {H H2 : Hp} {u : Addr} (e : ExS S H H2) (hS : StoreOk S H2) (n : H2 u = none) : H u = none := by
  cases q : H u with
  | none => rfl
  | some o => rw [e u o (hS.ne1 n) q] at n; cases n
theorem map_str_len {U : List Str} {xs : List V} (e : xs = U.map V.str) : U.length = xs.length := by rw [e, List.length_map]

set_option maxHeartbeats 2000000
/-! ### try .. except C1 as a: .. except C2 as b: .. -/
abbrev Hnd := Value × Nat × (Addr → Value → Option Addr → TS)
/-- the clauses, one behind the other -/
def wAsM (K : PySem.W.Frag) (Wout : WX) (D : Ends) : List Hnd → WX
  | [] => Wout
  | q :: r => wAs K q.1 q.2.1 q.2.2 (wAsM K Wout D r) D
/-- each clause names its class, its own name's slot and its suite -/
inductive HdsAs (X : Cx) : List ExceptHandler → List Hnd → Prop
  | nil : HdsAs X [] []
  | cons {x n : Str} {c : Value} {i : Nat} {ts : Addr → Value → Option Addr → TS} {b₀ : Stmt} {suite : List Stmt} {np pos' : Pos} {hds : List ExceptHandler} {l : List Hnd} (hi : X.N[i]? = some n) (hln : X.env.kindOf n = some .local) (hc : Names X x c)
      (hsu : ∀ (a : Addr) (oe : Obj) (cls : Value) (d : Option Addr) (pn : List (Addr × Obj)), Zc cls d oe → (∃ vs, oe.data = .fields vs) → PSs (X.suite a ((a, oe) :: pn)) (b₀ :: suite) (ts a cls d)) (r : HdsAs X hds l) :
      HdsAs X (.ExceptHandler (some (.Name x np)) (some n) (b₀ :: suite) pos' :: hds) ((c, i, ts) :: l)
section
variable {X : Cx} {body : List Stmt} {h₀ : ExceptHandler} {hds : List ExceptHandler} {l : List Hnd} {pos : Pos} {tb : WX → TS} {Wout : WX}
theorem ps_try_asM (hs : X.stack = X.env :: X.outer) (hf : X.env.frame = some X.env.locals) (hN : X.N.Nodup) (tk : Takes X Wout)
    (hb : ∀ (W : WX) (pn : List (Addr × Obj)) (xe : Value → Shared → Prop), Takes (X.tr pn xe) W → PassesOwn (model X.prog X.w) X.A X.env xe → PSs (X.tr pn xe) body (tb W))
    (hh : HdsAs X (h₀ :: hds) l) : PS X (.Try body (h₀ :: hds) [] [] pos) (fun D σ H => tb (wAsM X.K Wout D l) D σ H) := by
  refine ⟨fun pins s σ H D I h => ?_⟩
  have ok := I.ok
  have hfr : X.A.frames = some (X.env :: X.outer) := by rw [ok.frames, hs]
  refine wpAny_Try_except ?_
  refine wpAny_mono ((hb (wAsM X.K Wout D l) (X.pn ++ pins) (fun e s₁ => wpAny (model X.prog X.w) X.A (noteFrame e X.env) (fun _ s₂ => wpAny (model X.prog X.w) X.A (setFlight e none) (fun _ s₃ =>
    wpAny (model X.prog X.w) X.A (handleBy e X.env (h₀ :: hds)) (SP X pins D) X.xe s₃) X.xe s₂) X.xe s₁) (fun u s' xx => ?_) PassesOwn.looking).run [] s σ H D (I.toTry _) h) (fun f s1 hsp => ?_) (fun e s1 he => he)
  · obtain ⟨a, B, sI, pins', σ', H', cls, d, rfl, J', nb, up, sky, na, os, ag, w⟩ := xx
    have J : Inv X pins σ' H' sI := J'.ofTry ok
    have sky' : Sky B (X.env :: X.outer) a (Zc cls d) X.env.locals s'.heap := by rw [← hs]; exact sky
    show wpAny (model X.prog X.w) X.A (noteFrame (.ref a) X.env) _ _ _
    refine Sky.land Zc.steady hfr hf sky' fun h3 fl3 up3 => ?_
    have J3 : Inv X pins σ' H' { s' with heap := h3 } := J.landed nb fl3.1 (up.trans up3) os ag
    obtain ⟨oe3, vs3, he3, hz3, hd3⟩ := fl3.there
    have nfr : a ∉ frs (X.env :: X.outer) := fun hm => by
      obtain ⟨_, o', e', hnf⟩ := fl3.2.2.1.mem hm
      rw [he3] at e'; cases e'
      exact hnf _ hd3
    have nL : a ≠ X.env.locals := fun z => nfr (List.mem_filterMap.mpr ⟨X.env, List.mem_cons_self, by rw [hf, z]⟩)
    have nF : a ∉ X.fs := fun hm => by
      obtain ⟨e, he, q⟩ := List.mem_filterMap.mp hm
      exact nfr (List.mem_filterMap.mpr ⟨e, List.mem_cons_of_mem _ he, q⟩)
    have S3 := J3.suite he3 hd3 na nL nF
    have go : ∀ {hds' : List ExceptHandler} {l' : List Hnd}, HdsAs X hds' l' → wAsM X.K Wout D l' cls d σ' H' → wpAny (model X.prog X.w) X.A (handleBy (.ref a) X.env hds') (SP X pins D) X.xe { s' with heap := h3 } := by
      intro hds' l' hk
      induction hk with
      | nil =>
        intro w
        refine wpAny_handleBy_nil ?_
        obtain ⟨k1, k2, k3, oe, vs, T, oT, ts', he, hz, hd, h1, hr⟩ := id fl3
        unfold PySem.passOn
        refine wpAny_bind (wpAny_field he hd h1 ?_)
        rw [if_neg (show ¬ ((Value.ref T == Value.none) = true) from by simp)]
        have fin : wpAny (model X.prog X.w) X.A (setFlight (.ref a) X.env.frame) (fun _ s4 => wpAny (model X.prog X.w) X.A (throw (.ref a) : Sem Flow) (SP X pins D) X.xe s4) X.xe { s' with heap := h3 } := by
          rw [hf]
          refine HandSPX.setFlight_upZ fl3 fun h4 hh4 up4 => wpAny_throw (tk _ _ ?_)
          exact ⟨a, B, sI, pins, σ', H', cls, d, rfl, J, nb, (up.trans up3).trans up4, .inr (.inr (by rw [hs]; exact hh4)), na, os, ag, w⟩
        first
          | exact wpAny_bind (wpAny_pure (wpAny_bind fin))
          | exact wpAny_bind fin
      | @cons x n c i ts b₀ suite np pos' hds2 l2 hi hln hc hsu r ih =>
        intro w
        obtain ⟨b, hb1, hyes, hno⟩ := w
        refine wpAny_handleBy_cons (codeAny_handlers_test ?_) (by intro q; cases q)
        have LT : PySem.W.Looks (model X.prog X.w) h3 (typeOf (.ref a)) cls := fun A Q E s k q => wpAny_typeOf_ref (k _ _ he3) (by rw [hz3.1]; exact q)
        have LM := PySem.W.exm_one (M := model X.prog X.w) (J3.kIn) LT hb1
        have test : ∀ {Q : Value → Shared → Prop} {E : Value → Shared → Prop}, Q c { s' with heap := h3 } → wpAny (model X.prog X.w) (X.A.mark (some (.ref a))) (eval (.Name x np) X.env) Q E { s' with heap := h3 } := fun {Q E} q => by
          obtain ⟨hg, hdbg, hm | ⟨hm, hv, hnn⟩⟩ := hc
          · exact ld_glob (X := X.suite a ((a, oe3) :: (X.pn ++ pins))) S3 hg hm q hdbg
          · exact ld_blt (X := X.suite a ((a, oe3) :: (X.pn ++ pins))) S3 hg hm hv q hnn hdbg
        refine test (LM.here ?_)
        cases b with
        | true =>
          refine codeAny_handlers_suite_as ?_
          refine HandSPX.lands_againZ fl3 fun h4 fl4 up4 => ?_
          have J4 : Inv X pins σ' H' { s' with heap := h4 } := J.landed nb fl4.1 ((up.trans up3).trans up4) os ag
          obtain ⟨oe4, vs4, he4, hz4, hd4⟩ := fl4.there
          have S4 := J4.suite he4 hd4 na nL nF
          have hloc : Loc X.env.scope n := .inl hln
          refine store_ok (X := X.suite a ((a, oe4) :: (X.pn ++ pins))) (v := .ref a) S4 hN hi hloc rfl (fun s5 S5 => ?_) (.inr hln)
          refine wpAny_mono ((hsu a oe4 cls d (X.pn ++ pins) hz4 ⟨_, hd4⟩).run [] s5 _ H' _ S5 (hyes rfl a na)) (fun f s6 hsp => ?_) (fun _ _ z => False.elim z)
          have end_ : ∀ {σ6 : L2.St} {H6 : Hp} {Q : Shared → Prop}, Inv (X.suite a ((a, oe4) :: (X.pn ++ pins))) [] σ6 H6 s6 → (∀ s7, Inv X pins (σ6.set i none) H6 s7 → Q s7) →
              wpAny (model X.prog X.w) X.A (do bindName X.env n .none; unbindBehindTheSuite X.env n pos') (fun _ s7 => Q s7) X.xe s6 := fun {σ6 H6 Q} S6 hq => gone_ok (S6.unsuite ok) hN hi hln hq
          cases f with
          | next =>
            obtain ⟨σ6, H6, S6, q6⟩ := hsp
            exact end_ S6 fun s7 J7 => ⟨_, _, J7, q6⟩
          | brk =>
            obtain ⟨σ6, H6, S6, q6⟩ := hsp
            exact end_ S6 fun s7 J7 => ⟨_, _, J7, q6⟩
          | cont =>
            obtain ⟨σ6, H6, S6, q6⟩ := hsp
            exact end_ S6 fun s7 J7 => ⟨_, _, J7, q6⟩
          | ret u =>
            obtain ⟨v6, σ6, H6, S6, r6, q6⟩ := hsp
            exact end_ S6 fun s7 J7 => ⟨_, _, _, J7, r6, q6⟩
        | false =>
          show wpAny _ X.A (handleBy (.ref a) X.env hds2) _ _ _
          exact ih (hno rfl)
    exact go hh w
  · cases f with
    | next =>
      obtain ⟨σ', H', J', q⟩ := hsp
      exact wpAny_execs_nil ⟨σ', H', J'.ofTry ok, q⟩
    | brk =>
      obtain ⟨σ', H', J', q⟩ := hsp
      exact ⟨σ', H', J'.ofTry ok, q⟩
    | cont =>
      obtain ⟨σ', H', J', q⟩ := hsp
      exact ⟨σ', H', J'.ofTry ok, q⟩
    | ret u =>
      obtain ⟨v, σ', H', J', r, q⟩ := hsp
      exact ⟨v, σ', H', J'.ofTry ok, r, q⟩
end

set_option maxHeartbeats 1000000
/-! ### operators by a class's own methods: x in c, x not in c, x & y -/
structure HasM (P : Program) (w : World) (K : PySem.W.Frag) (mg : Str → Option Value) (base : Heap) (CX : CXT) (C : Addr) (x : Str) (k : Nat) (ps : List Str) (sp : Sp) : Prop where
  ex : ∃ f fd, FnOk P w K mg base CX k f fd ps sp ∧ PySem.W.findIn K (.ref C) x = some (some (.ref f)) ∧ PySem.W.isFn K (.ref f) = true ∧ Binds K fd ps []
theorem HasM.mono {P : Program} {w : World} {K : PySem.W.Frag} {mg : Str → Option Value} {base : Heap} {CX : CXT} {C : Addr} {x : Str} {j k : Nat} {ps : List Str} {sp : Sp} (h : HasM P w K mg base CX C x j ps sp) (l : j ≤ k) : HasM P w K mg base CX C x k ps sp := by
  obtain ⟨f, fd, F, r⟩ := h.ex
  exact ⟨f, fd, F.mono l, r⟩
def rInM (C : Addr) (sp : Sp) (E : XK) (neg : Bool) : R2 := fun x y H Q => ∃ a dx fs, y = .ref a ∧ H a = some (.ins C dx fs) ∧ sp [.ref a, x] H (fun v H' => ∃ b, v = .bl b ∧ Q (.bl (if neg then !b else b)) H') E
def rBinM (C : Addr) (sp : Sp) (E : XK) : R2 := fun x y H Q => ∃ a b dx dy fs gs, x = .ref a ∧ y = .ref b ∧ H a = some (.ins C dx fs) ∧ H b = some (.ins C dy gs) ∧ sp [.ref a, .ref b] H (fun v H' => (v = .non ∨ ∃ p, v = .ref p) ∧ Q v H') E
section
variable {X : Cx} {CX : CXT} {C : Addr} {k : Nat} {ps : List Str} {sp : Sp} {E : XK} {nm : Str}
theorem op_inM (h : HasM X.prog X.w X.K X.mg X.base CX C "__contains__" k ps sp) (hr : Room k X.A) (hx : Passes CX X E) : OpR X (compareOp .In) (rInM C sp E false) := by
  intro pins s σ H x y v u Q I rx ry q
  obtain ⟨f, fd, F, hs, hf, hb⟩ := h.ex
  obtain ⟨a, dx, fs, rfl, ha, q⟩ := q
  cases ry
  obtain ⟨mA, J, _⟩ := ins_get I.hok ha
  obtain ⟨od, J, _⟩ := J.look
  obtain ⟨m, hF⟩ := I.fr
  refine PySem.W.in_K hF I.ok.mod.kin J hs hf (wpAny_mono (run_fn (vs := [.ref a, x]) F hr hb .nil hx I (.cons rfl (.cons rx .nil)) (by rw [List.append_nil]; exact q)) (fun r s' z => ?_) fun _ _ z => z)
  obtain ⟨z, H', I', rz, b, rfl, q'⟩ := z
  cases rz
  exact wpAny_truthy_bool ⟨.bl b, H', I', rfl, q'⟩
theorem op_notInM (h : HasM X.prog X.w X.K X.mg X.base CX C "__contains__" k ps sp) (hr : Room k X.A) (hx : Passes CX X E) : OpR X (compareOp .NotIn) (rInM C sp E true) := by
  intro pins s σ H x y v u Q I rx ry q
  obtain ⟨f, fd, F, hs, hf, hb⟩ := h.ex
  obtain ⟨a, dx, fs, rfl, ha, q⟩ := q
  cases ry
  obtain ⟨mA, J, _⟩ := ins_get I.hok ha
  obtain ⟨od, J, _⟩ := J.look
  obtain ⟨m, hF⟩ := I.fr
  refine PySem.W.notIn_K hF I.ok.mod.kin J hs hf (wpAny_mono (run_fn (vs := [.ref a, x]) F hr hb .nil hx I (.cons rfl (.cons rx .nil)) (by rw [List.append_nil]; exact q)) (fun r s' z => ?_) fun _ _ z => z)
  obtain ⟨z, H', I', rz, b, rfl, q'⟩ := z
  cases rz
  exact wpAny_truthy_bool ⟨.bl (!b), H', I', rfl, q'⟩
theorem op_binM {op : Operator} (h : HasM X.prog X.w X.K X.mg X.base CX C (PySem.dunder op.info.2) k ps sp) (hc : PySem.W.selfFirst X.K C = true) (hr : Room k X.A) (hx : Passes CX X E) : OpR X (binaryOp op) (rBinM C sp E) := by
  intro pins s σ H x y v u Q I rx ry q
  obtain ⟨f, fd, F, hs, hf, hb⟩ := h.ex
  obtain ⟨a, b, dx, dy, fs, gs, rfl, rfl, ha, hb', q⟩ := q
  cases rx
  cases ry
  obtain ⟨mA, J, _⟩ := ins_get I.hok ha
  obtain ⟨mB, J', _⟩ := ins_get I.hok hb'
  obtain ⟨od, J, _⟩ := J.look
  obtain ⟨od', J', _⟩ := J'.look
  obtain ⟨m, hF⟩ := I.fr
  refine PySem.W.binop_K hF I.ok.mod.kin J J'.type hc hs hf (wpAny_mono (run_fn (vs := [.ref a, .ref b]) F hr hb .nil hx I (.cons rfl (.cons rfl .nil)) (by rw [List.append_nil]; exact q)) (fun r s' z => ?_) fun _ _ z => z)
  obtain ⟨z, H', I', rz, hz, q'⟩ := z
  rcases hz with rfl | ⟨p, rfl⟩
  · cases rz
    exact ⟨.non, H', I', rfl, q'⟩
  · cases rz
    exact ⟨.ref p, H', I', rfl, q'⟩
end
/-! ### an own error with two fields -/
def spInit2 (K : PySem.W.Frag) (f g : Str) : Sp := fun vs H Q _ => ∃ (a C : Addr) (u v : V), vs = [.ref a, u, v] ∧ OexC K C ∧ PySem.W.findIn K (.ref C) f = some none ∧ PySem.W.findIn K (.ref C) g = some none ∧ H a = some (exo a C none) ∧
  ∀ dx, H dx = none → dx ≠ a → Q .non (upd (upd (upd H dx (exd dx [(f, u)])) a (exo a C (some dx))) dx (exd dx [(g, v), (f, u)]))
theorem rd_mk2 {K : PySem.W.Frag} {C : Addr} {f g : Str} {u v : V} {H1 : Hp} {W : XK} (T : OexC K C) (nf : PySem.W.findIn K (.ref C) f = some none) (ng : PySem.W.findIn K (.ref C) g = some none) (h : ∀ d H', H1 d = none → Same H1 H' → H' d = some (.xd [(g, v), (f, u)]) → W (.ref C) (some d) H') :
    [u, v].length ≤ 1000 ∧ ∀ a, H1 a = none → spInit2 K f g (.ref a :: ([u, v] ++ [])) (upd H1 a (exo a C none))
      (fun v H2 => v = .non ∧ ∃ (d : Addr) (fs : List (Str × V)), H2 a = some (exo a C (some d)) ∧ H2 d = some (exd d fs) ∧ H1 d = none ∧ W (.ref C) (some d) (upd (del H2 a) d (.xd fs))) (fun _ _ _ => False) := by
  refine ⟨by simp, fun a na => ⟨a, C, u, v, rfl, T, nf, ng, upd_same, fun dx ndx ne => ?_⟩⟩
  have nd : H1 dx = none := by rw [upd_ne ne] at ndx; exact ndx
  refine ⟨rfl, dx, [(g, v), (f, u)], by rw [upd_ne ne.symm]; exact upd_same, upd_same, nd, h dx _ nd (fun b o hb => ?_) upd_same⟩
  have h1 := ne_of_none hb na
  have h2 := ne_of_none hb nd
  rw [upd_ne h2, del_ne h1, upd_ne h2, upd_ne h1, upd_ne h2, upd_ne h1]
  exact hb
/-! ### instances: what their class must have, reading and writing their fields -/
theorem rd_fld {K : PySem.W.Frag} {te : TE} {f : Str} {σ : L2.St} {H : Hp} {Q : VK} (h : te σ H fun x H1 => ∃ a C dx fs v, x = .ref a ∧ H1 a = some (.ins C dx fs) ∧ Cls K C ∧ NoAttr K C f ∧ fs.lookup f = some v ∧ Q v H1) : tFld K te f σ H Q := h
theorem rd_sfld {K : PySem.W.Frag} {ta tv : TE} {f : Str} {D : Ends} {σ : L2.St} {H : Hp} (h : tv σ H fun y H1 => ta σ H1 fun x H2 => ∃ a C dx fs, x = .ref a ∧ H2 a = some (.ins C dx fs) ∧ Cls K C ∧ NoAttr K C f ∧ fs.length < 1000 ∧ D.nx σ (upd H2 a (.ins C dx (putF f y fs)))) : sFld K ta tv f D σ H := h
theorem passF {X : Cx} (tk : Takes X fun _ _ _ _ => False) : Passes (L2.CX X.prog X.w) X (fun _ _ _ => False) := fun pins σ H s e s' I c => passAt tk σ pins H s e s' I c
theorem rd_make {C : Addr} {sp : Sp} {dvs : List V} {E : XK} {t : TA} {σ : L2.St} {H : Hp} {Q : VK} (h : t σ H fun vs H1 => ∀ x dx, H1 x = none → H1 dx = none → dx ≠ x → sp (.ref x :: (vs ++ dvs)) (upd (upd H1 dx (.own x)) x (.ins C dx [])) (fun v H2 => v = .non ∧ Q (.ref x) H2) E) : tMake C sp dvs E t σ H Q := h

set_option maxHeartbeats 1000000
/-! ### x == y by x's own __eq__, y of any of these kinds -/
inductive EqK (K : PySem.W.Frag) (C : Addr) (H : Hp) : V → Prop where
  | ins {b dy : Addr} {gs : List (Str × V)} (e : H b = some (.ins C dy gs)) : EqK K C H (.ref b)
  | int (i : Int) : EqK K C H (.int i)
  | str (z : Str) : EqK K C H (.str z)
  | tup {b : Addr} {xs : List V} (e : H b = some (.tup xs)) : EqK K C H (.ref b)
theorem nf_int {K : PySem.W.Frag} {C : Addr} : PySem.W.notFirst K C (.type "int") = true := by
  have e : PySem.W.subIn K (.type "int") (.ref C) = some false := by
    show (fastBuiltinMro "int").map (fun l => l.contains (.ref C)) = some false
    rw [show fastBuiltinMro "int" = some [.type "int", .type "object"] from by decide +kernel]
    simp
  simp [PySem.W.notFirst, e]
theorem nf_str {K : PySem.W.Frag} {C : Addr} : PySem.W.notFirst K C (.type "str") = true := by
  have e : PySem.W.subIn K (.type "str") (.ref C) = some false := by
    show (fastBuiltinMro "str").map (fun l => l.contains (.ref C)) = some false
    rw [show fastBuiltinMro "str" = some [.type "str", .type "object"] from by decide +kernel]
    simp
  simp [PySem.W.notFirst, e]
theorem nf_tuple {K : PySem.W.Frag} {C : Addr} : PySem.W.notFirst K C (.type "tuple") = true := by
  have e : PySem.W.subIn K (.type "tuple") (.ref C) = some false := by
    show (fastBuiltinMro "tuple").map (fun l => l.contains (.ref C)) = some false
    rw [show fastBuiltinMro "tuple" = some [.type "tuple", .type "object"] from by decide +kernel]
    simp
  simp [PySem.W.notFirst, e]
def rEqM (K : PySem.W.Frag) (C : Addr) (sp : Sp) (E : XK) : R2 := fun x y H Q => ∃ a dx fs, x = .ref a ∧ H a = some (.ins C dx fs) ∧ EqK K C H y ∧ sp [.ref a, y] H (fun v H' => ∃ b, v = .bl b ∧ Q (.bl b) H') E
theorem op_eqM {X : Cx} {CX : CXT} {C : Addr} {k : Nat} {ps : List Str} {sp : Sp} {E : XK} (h : HasM X.prog X.w X.K X.mg X.base CX C "__eq__" k ps sp) (hr : Room k X.A) (hx : Passes CX X E) : OpR X (compareOp .Eq) (rEqM X.K C sp E) := by
  intro pins s σ H x y v u Q I rx ry q
  obtain ⟨f, fd, F, hs, hf, hb⟩ := h.ex
  obtain ⟨a, dx, fs, rfl, ha, hy, q⟩ := q
  cases rx
  obtain ⟨mA, J, _⟩ := ins_get I.hok ha
  obtain ⟨od, J, _⟩ := J.look
  obtain ⟨m, hF⟩ := I.fr
  have go : ∀ tb, PySem.W.Looks (model X.prog X.w) s.heap (typeOf u) tb → PySem.W.notFirst X.K C tb = true → wpAny (model X.prog X.w) X.A (compareOp .Eq (.ref a) u) (EP X pins σ Q) X.xe s := fun tb hl hn => by
    refine PySem.W.cmp_K (op := .Eq) (tb := tb) hr.units0 hF I.ok.mod.kin J hl hn hs hf (wpAny_mono (run_fn (vs := [.ref a, y]) F hr hb .nil hx I (.cons rfl (.cons ry .nil)) (by rw [List.append_nil]; exact q)) (fun r s' z => ?_) fun _ _ z => z)
    obtain ⟨z, H', I', rz, b, rfl, q'⟩ := z
    cases rz
    exact ⟨.bl b, H', I', rfl, q'⟩
  cases hy with
  | ins e =>
    cases ry
    obtain ⟨mB, J', _⟩ := ins_get I.hok e
    obtain ⟨od', J', _⟩ := J'.look
    exact go _ J'.type (by simp [PySem.W.notFirst])
  | int i =>
    obtain ⟨t, rfl⟩ := ry
    exact go (.type "int") (PySem.W.Looks.of_pure rfl) nf_int
  | str z =>
    obtain ⟨t, rfl⟩ := ry
    exact go (.type "str") (PySem.W.Looks.of_pure rfl) nf_str
  | tup e =>
    cases ry
    obtain ⟨_, its, _, o, ho, hc, _⟩ := (show ObjOk X.prog X.w H s.heap _ (.tup _) from I.hok _ _ e)
    exact go (.type "tuple") (hc ▸ (PySem.W.Looks.ld ho).andThen .now) nf_tuple

set_option maxHeartbeats 1000000
/-! ### making an instance within a try: what it lets out may ask of the slots -/
def tMakeS (C : Addr) (sp : Sp) (dvs : List V) (E : L2.St → XK) (t : TA) : TE := fun σ H Q => t σ H fun vs H1 => ∀ x dx, H1 x = none → H1 dx = none → dx ≠ x →
  sp (.ref x :: (vs ++ dvs)) (upd (upd H1 dx (.own x)) x (.ins C dx [])) (fun v H2 => v = .non ∧ Q (.ref x) H2) (E σ)
section
variable {X : Cx} {CX : CXT} {C f : Addr} {fd : FuncData} {x : Str} {k : Nat} {ps : List Str} {ds : List Value} {dvs : List V} {sp : Sp} {E : L2.St → XK} {p pos : Pos} {e : Expr} {es : List Expr} {t : TA}
theorem pe_makeS (M : Mk X.K C f) (F : FnOk X.prog X.w X.K X.mg X.base CX k f fd ps sp) (hr : Room (k + 1) X.A) (hg : Gl X x) (hm : X.mg x = some (.ref C)) (hb : Binds X.K fd ps ds) (hd : Vals dvs ds) (hx : ∀ σ, PassesAt CX X σ (E σ)) (ha : PA X (e :: es) t)
    (hdb : (x == ("__debug__" : Str)) = false := by decide) (he : starEach (e :: es) X.env = (false, eval e X.env) :: starEach es X.env := by rfl) (hpl : (backTo pos (starEach es X.env)).any (·.1) = false := by rfl) :
    PE X (.Call (.Name x p) (e :: es) [] pos) (tMakeS C sp dvs E t) := by
  refine ⟨fun pins s σ H Q I h => ?_⟩
  refine wpAny_Call_Name_kw (ld_glob I hg hm ?_ hdb)
  refine PySem.W.callWith_K (h₀ := X.base) I.ok.mod.kin M.kp (thn (ha.run pos pins s σ H _ I h) fun us s1 ⟨vs, H1, I1, r, q⟩ => ⟨I1.kIn, ?_⟩) he hpl
  have hq := q (s1.heap.objs.size + 1) s1.heap.objs.size (I1.hok.fresh (Nat.le_succ _)) (I1.hok.fresh (Nat.le_refl _)) (Nat.ne_of_lt (Nat.lt_succ_self _))
  have I2 := Inv.made (C := C) I1
  have r2 : Vals (V.ref (s1.heap.objs.size + 1) :: (vs ++ dvs)) (Value.ref (s1.heap.objs.size + 1) :: (us ++ ds)) := .cons rfl (r.append hd)
  have hl : (Value.ref (s1.heap.objs.size + 1) :: us ++ ds).length = ps.length := by
    have e := r2.length
    rw [F.len _ _ _ _ hq] at e
    exact e.symm
  refine wpAny_call (make_map (f := f) I1.kIn M.makes M.init (beq_iff_eq.mp M.fn) (codeAny_mono (F.run _ X.stack _ _ ⟨Value.ref (s1.heap.objs.size + 1) :: us, []⟩ (Value.ref (s1.heap.objs.size + 1) :: (us ++ ds)) _ _ (E σ) (hr.make C us [])
    (I2.env0.make C us []) (hb _ (Value.ref (s1.heap.objs.size + 1) :: us) I2.kIn hl) r2 hq) fun r s' hq' => ?_))
  cases r with
  | error e => exact hx σ pins _ _ e s' I2 hq'
  | ok fl =>
    cases fl with
    | ret u =>
      obtain ⟨v, H', I3, rv, ev, q3⟩ := I2.after hq'
      subst ev
      exact ⟨rv, ⟨V.ref (s1.heap.objs.size + 1), H', I3, rfl, q3⟩⟩
    | next => exact False.elim hq'
    | brk => exact False.elim hq'
    | cont => exact False.elim hq'
theorem rd_makeS {σ : L2.St} {H : Hp} {Q : VK} (h : t σ H fun vs H1 => ∀ x dx, H1 x = none → H1 dx = none → dx ≠ x → sp (.ref x :: (vs ++ dvs)) (upd (upd H1 dx (.own x)) x (.ins C dx [])) (fun v H2 => v = .non ∧ Q (.ref x) H2) (E σ)) : tMakeS C sp dvs E t σ H Q := h
end

set_option maxHeartbeats 1000000
section
variable {X : Cx} {CX : CXT} {C f g q : Addr} {fd : FuncData} {x : Str} {k i : Nat} {ps ks : List Str} {ds : List Value} {dvs : List V} {sp : Sp} {E : L2.St → XK} {p pos apos : Pos} {e o : Expr} {es : List Expr} {kws : List Keyword} {t tk : TA} {ta : TE} {m : Str} {mc : Value} {pl : Sem Bool}
/-- a call that is bound already -/
theorem code_fnS {pins : List (Addr × Obj)} {σ : L2.St} {H : Hp} {s : Shared} {Q : VK} {us ws : List Value} {kw : List (Str × Value)} {vs : List V} {E : XK} (F : FnOk X.prog X.w X.K X.mg X.base CX k f fd ps sp) (hr : Room k X.A) (hb : BindsTo s fd ⟨us, kw⟩ (ps.zip ws)) (hx : PassesAt CX X σ E)
    (I : Inv X pins σ H s) (r : Vals vs ws) (h : sp vs H Q E) : codeAny (model X.prog X.w) X.A (.call (.ref f) ⟨us, kw⟩) (fun r s' => match r with | .ok (.ret v) => EP X pins σ Q v s' | .ok _ => False | .error e => X.xe e s') s := by
  refine codeAny_mono (F.run X.A X.stack s H ⟨us, kw⟩ ws vs Q E hr I.env0 hb r h) fun r s' hq => ?_
  cases r with
  | error e => exact hx pins H s e s' I hq
  | ok fl =>
    cases fl with
    | ret u => exact I.after hq
    | next => exact False.elim hq
    | brk => exact False.elim hq
    | cont => exact False.elim hq
/-! ### cls(..): a slot that holds the class -/
def tMakeL (i : Nat) (C : Addr) (sp : Sp) (dvs : List V) (E : XK) (t : TA) : TE := fun σ H Q => σ[i]? = some (some (.ref C)) ∧ t σ H fun vs H1 => ∀ x dx, H1 x = none → H1 dx = none → dx ≠ x →
  sp (.ref x :: (vs ++ dvs)) (upd (upd H1 dx (.own x)) x (.ins C dx [])) (fun v H2 => v = .non ∧ Q (.ref x) H2) E
theorem pe_makeL {E : XK} (M : Mk X.K C f) (F : FnOk X.prog X.w X.K X.mg X.base CX k f fd ps sp) (hr : Room (k + 1) X.A) (hN : X.N[i]? = some x) (hv : Vis X.env.scope x) (hb : Binds X.K fd ps ds) (hd : Vals dvs ds) (hx : Passes CX X E) (ha : PA X (e :: es) t)
    (hdb : (x == ("__debug__" : Str)) = false := by decide) (hcd : (x == ("__classdict__" : Str)) = false := by decide)
    (he : starEach (e :: es) X.env = (false, eval e X.env) :: starEach es X.env := by rfl) (hpl : (backTo pos (starEach es X.env)).any (·.1) = false := by rfl) :
    PE X (.Call (.Name x p) (e :: es) [] pos) (tMakeL i C sp dvs E t) := by
  refine ⟨fun pins s σ H Q I h => ?_⟩
  obtain ⟨hs, ht⟩ := h
  refine wpAny_Call_Name_kw (thn ((pe_var (pos := p) hN hv hdb hcd).run pins s σ H (fun v H1 => v = .ref C ∧ H1 = H) I ⟨.ref C, hs, rfl, rfl⟩) fun u s1 ⟨v, H1, I1, r1, q1⟩ => ?_)
  obtain ⟨rfl, rfl⟩ := q1
  cases r1
  refine PySem.W.callWith_K (h₀ := X.base) I.ok.mod.kin M.kp (thn (ha.run pos pins s1 σ _ _ I1 ht) fun us s2 ⟨vs, H2, I2, r, q⟩ => ⟨I2.kIn, ?_⟩) he hpl
  exact run_make M F hr hb hd hx I2 r q
/-! ### C.m(..), m a classmethod, in a try -/
def tCMethS (C : Addr) (sp : Sp) (E : L2.St → XK) (ta : TE) (t : TA) : TE := fun σ H Q => ta σ H fun x H1 => x = .ref C ∧ t σ H1 fun vs H2 => sp (.ref C :: vs) H2 Q (E σ)
theorem pe_cmethS (he : PE X o ta) (r : ClX.CRead X.K C mc) (c : ClX.CMet X.K C mc m q g) (F : FnOk X.prog X.w X.K X.mg X.base CX k g fd ps sp) (hb : Binds X.K fd ps []) (hr : Room k X.A) (hx : ∀ σ, PassesAt CX X σ (E σ)) (ha : PA X (e :: es) t)
    (hst : starEach (e :: es) X.env = (false, eval e X.env) :: starEach es X.env := by rfl) (hpl : (backTo pos (starEach es X.env)).any (·.1) = false := by rfl)
    (ht : eval (.Call (.Attribute o m apos) (e :: es) [] pos) X.env = (do
      let ov ← eval o X.env
      standAt apos.atName
      let (f, first) ← holding [ov] (getMethod ov m pl)
      callWith pos f first (backTo pos (starEach (e :: es) X.env)) (backToKw pos (keywordEach [] X.env))) := by rfl) :
    PE X (.Call (.Attribute o m apos) (e :: es) [] pos) (tCMethS C sp E ta t) := by
  refine ⟨fun pins s σ H Q I h => ?_⟩
  refine PySem.W.methodCall_KW (pl := pl) (thn (he.run pins s σ H _ I h) fun u s1 ⟨x, H1, I1, rx, ex, q⟩ => ?_) ht
  subst ex
  obtain rfl : u = Value.ref C := rx
  refine ClX.getmethcm_ok I1 r c fun s2 I2 => ?_
  refine ClX.callwith_cm I2 (ClX.base_none I1 (Nat.le_refl _)) c.fi (thn (ha.run pos _ s2 σ H1 _ I2 q) fun us s3 ⟨vs, H2, I3, rv, q2⟩ => ⟨⟨ClX.pin_at I3, I3.kIn⟩, ?_⟩) hst hpl
  have rv2 : Vals (V.ref C :: vs) (Value.ref C :: us) := .cons rfl rv
  have hl : (Value.ref C :: us).length = ps.length := by rw [← rv2.length]; exact F.len _ _ _ _ q2
  have b := hb s3 (Value.ref C :: us) I3.kIn (by rw [List.append_nil]; exact hl)
  rw [List.append_nil] at b
  have z := wpAny_call (PySem.W.method_call (ClX.pin_at I3) (code_fnS F hr b (hx σ) I3 rv2 q2))
  exact thn z fun _ _ y => ClX.unpinE y
def tCMethKS (C : Addr) (n : Nat) (sp : Sp) (E : L2.St → XK) (ta : TE) (tk : TA) : TE := fun σ H Q => ta σ H fun x H1 => x = .ref C ∧ tk σ H1 fun zs H2 => zs.length = n ∧ sp (.ref C :: zs) H2 Q (E σ)
theorem pe_cmethKS (he : PE X o ta) (r : ClX.CRead X.K C mc) (c : ClX.CMet X.K C mc m q g) (F : FnOk X.prog X.w X.K X.mg X.base CX k g fd ps sp) (hb : ∀ (s : Shared) (u : Value) (ws : List Value), ws.length = ks.length → BindsTo s fd ⟨[u], ks.zip ws⟩ (ps.zip (u :: ws))) (hr : Room k X.A) (hx : ∀ σ, PassesAt CX X σ (E σ)) (hkw : PK X kws tk)
    (hall : (backToKw pos (keywordEach kws X.env)).all (·.1.isSome) = true := by rfl) (hks : (backToKw pos (keywordEach kws X.env)).filterMap (·.1) = ks := by rfl)
    (hpl : ((backTo pos (starEach [] X.env)).any (·.1) || (backToKw pos (keywordEach kws X.env)).any (·.1.isNone)) = false := by rfl)
    (ht : eval (.Call (.Attribute o m apos) [] kws pos) X.env = (do
      let ov ← eval o X.env
      standAt apos.atName
      let (f, first) ← holding [ov] (getMethod ov m pl)
      callWith pos f first (backTo pos (starEach [] X.env)) (backToKw pos (keywordEach kws X.env))) := by rfl) :
    PE X (.Call (.Attribute o m apos) [] kws pos) (tCMethKS C ks.length sp E ta tk) := by
  refine ⟨fun pins s σ H Q I h => ?_⟩
  refine PySem.W.methodCall_KW (pl := pl) (thn (he.run pins s σ H _ I h) fun u s1 ⟨x, H1, I1, rx, ex, q⟩ => ?_) ht
  subst ex
  obtain rfl : u = Value.ref C := rx
  refine ClX.getmethcm_ok I1 r c fun s2 I2 => ?_
  refine PySem.W.callWith_of (P := fun h => PySem.W.MethP X.K _ g (.ref C) h) hpl (fun h Y => PySem.W.keeps_M c.fi h Y) (evalArgs_kw2_nil hall (thn (hkw.run pos _ s2 σ H1 _ I2 q) fun ws s3 ⟨zs, H2, I3, rz, l2, q2⟩ => ⟨⟨ClX.pin_at I3, I3.kIn⟩, ?_⟩))
  rw [hks]
  have rv2 : Vals (V.ref C :: zs) (Value.ref C :: ws) := .cons rfl rz
  have z := wpAny_call (PySem.W.method_call (ClX.pin_at I3) (code_fnS F hr (hb s3 (.ref C) ws (rz.length.symm.trans l2)) (hx σ) I3 rv2 q2))
  exact thn z fun _ _ y => ClX.unpinE y
theorem rd_makeL {E : XK} {σ : L2.St} {H : Hp} {Q : VK} (hs : σ[i]? = some (some (.ref C))) (h : t σ H fun vs H1 => ∀ x dx, H1 x = none → H1 dx = none → dx ≠ x → sp (.ref x :: (vs ++ dvs)) (upd (upd H1 dx (.own x)) x (.ins C dx [])) (fun v H2 => v = .non ∧ Q (.ref x) H2) E) : tMakeL i C sp dvs E t σ H Q := ⟨hs, h⟩
theorem rd_cmS {σ : L2.St} {H : Hp} {Q : VK} (h : ta σ H fun x H1 => x = .ref C ∧ t σ H1 fun vs H2 => sp (.ref C :: vs) H2 Q (E σ)) : tCMethS C sp E ta t σ H Q := h
theorem rd_cmKS {n : Nat} {σ : L2.St} {H : Hp} {Q : VK} (h : ta σ H fun x H1 => x = .ref C ∧ tk σ H1 fun zs H2 => zs.length = n ∧ sp (.ref C :: zs) H2 Q (E σ)) : tCMethKS C n sp E ta tk σ H Q := h
end

set_option maxHeartbeats 1000000
theorem ok_there {P : Program} {w : World} {H : Hp} {h : Heap} {a : Addr} {o : HO} (x : ObjOk P w H h a o) : ∃ u, h.get? a = some u := by
  cases o with
  | lst xs => obtain ⟨_, _, _, _, e⟩ := x; exact ⟨_, e⟩
  | tup xs => obtain ⟨_, _, _, ob, e, _⟩ := x; exact ⟨_, e⟩
  | dK kvs => obtain ⟨_, _, _, _, o, _, _, e, _⟩ := x; exact ⟨_, e⟩
  | dT kvs => obtain ⟨_, _, _, _, o, _, _, e, _⟩ := x; exact ⟨_, e⟩
  | set S n => obtain ⟨o, _, _, _, e, _⟩ := x; exact ⟨_, e⟩
  | ins C dx fs => obtain ⟨_, _, _, e, _⟩ := x; exact ⟨_, e⟩
  | own y => obtain ⟨_, e⟩ := x; exact ⟨_, e⟩
  | xd fs => obtain ⟨_, ⟨_, _, _, e, _⟩, _⟩ := x; exact ⟨_, e⟩
  | rng lo hi => obtain ⟨_, _, _, e⟩ := x; exact ⟨_, e⟩
  | frz ob u => obtain ⟨e, _⟩ := x; exact ⟨_, e⟩
  | tbl ps => exact ⟨_, (show h.get? a = some _ from x)⟩
  | met f y => exact ⟨_, (show h.get? a = some _ from x)⟩
  | ext φ => obtain ⟨_, ⟨_, e⟩, _⟩ := x; exact ⟨_, e⟩
/-! ### sorted(texts), any number of them -/
def ltS (a b : Str) : Prop := a.cps.toList < b.cps.toList
instance (a b : Str) : Decidable (ltS a b) := by unfold ltS; exact inferInstance
theorem ltl_irrefl (l : List Nat) : ¬ l < l := List.lt_irrefl l
theorem ltS_trans {a b c : Str} (h1 : ltS a b) (h2 : ltS b c) : ltS a c := List.lt_trans h1 h2
theorem ltS_asymm {a b : Str} (h1 : ltS a b) : ¬ ltS b a := fun h2 => List.lt_irrefl _ (List.lt_trans h1 h2)
theorem ltS_tri {a b : Str} (h1 : ¬ ltS a b) (h2 : ¬ ltS b a) : a = b := str_ext (List.le_antisymm (List.not_lt.mp h2) (List.not_lt.mp h1))
def sv : Value → Str
  | .str x _ => x
  | _ => Str.empty
def ltSv (v u : Value) : Bool := decide (ltS (sv v) (sv u))
theorem swo_str : SrtO.Swo ltSv := by
  refine ⟨fun x y h => ?_, fun x y z h1 h2 => ?_⟩
  · exact decide_eq_false (ltS_asymm (of_decide_eq_true h))
  · have a := of_decide_eq_false h1
    have b := of_decide_eq_false h2
    refine decide_eq_false fun c => ?_
    exact List.not_le.mpr c (List.le_trans (List.not_lt.mp a) (List.not_lt.mp b))
theorem strs_mem : ∀ {vs : List Value} {ns : List Str}, StrsAre vs ns → ∀ v ∈ vs, ∃ i t, v = Value.str i t
  | _, _, .nil, v, h => absurd h (by simp)
  | _, _, .cons n t r, v, h => by
    rcases List.mem_cons.mp h with e | h
    · exact ⟨n, t, e⟩
    · exact strs_mem r v h
theorem strs_sv : ∀ {vs : List Value}, (∀ v ∈ vs, ∃ i t, v = Value.str i t) → StrsAre vs (vs.map sv)
  | [], _ => .nil
  | v :: vs, h => by
    obtain ⟨i, t, e⟩ := h v List.mem_cons_self
    subst e
    exact .cons i t (strs_sv fun u hu => h u (List.mem_cons_of_mem _ hu))
theorem sv_strs : ∀ {vs : List Value} {ns : List Str}, StrsAre vs ns → vs.map sv = ns
  | _, _, .nil => rfl
  | _, _, .cons n t r => congrArg (n :: ·) (sv_strs r)
section
variable {prog : Program} {w : World} {A : Around} {s : Shared}
theorem str_cmp {vs : List Value} {ns : List Str} (hI : StrsAre vs ns) : SrtO.Cmp prog w A s oneType' (fun p => p.1 ∈ vs) (SrtO.lt2 ltSv) := by
  intro p q hm hm'
  obtain ⟨a, t, e⟩ := strs_mem hI _ hm
  obtain ⟨b, u, e'⟩ := strs_mem hI _ hm'
  show wpAny (model prog w) A (keyLt' oneType' p.1 q.1) (fun r s' => s' = s ∧ r = ltSv p.1 q.1) (fun _ _ => False) s
  rw [e, e', keyLt'_oneType]
  exact oneLt_str ⟨rfl, rfl⟩
theorem strs_sortable {a : Addr} {vs : List Value} {ns : List Str} (hI : StrsAre vs ns) (h2 : 2 ≤ vs.length) : SrtO.SortableO prog w A s a vs ltSv := by
  intro h' _
  refine ⟨oneType', fun Q E hq => ?_, str_cmp hI⟩
  match vs, hI, h2 with
  | v1 :: v2 :: rest, hI, _ =>
    rw [keyKind_strs hI]
    exact wpAny_pure hq
  | [], _, h => exact absurd h (by decide)
  | [v], _, h => exact absurd h (by simp)
theorem strs_out {vs out : List Value} {ns : List Str} (hI : StrsAre vs ns) (hs : SrtO.Srtd ltSv out) (hb : SrtO.Stb ltSv out vs) : StrsAre out (out.map sv) ∧ (out.map sv).Perm ns ∧ (out.map sv).Pairwise (fun x y => ¬ ltS y x) := by
  refine ⟨strs_sv fun v hv => strs_mem hI v (hb.perm.mem_iff.mp hv), ?_, ?_⟩
  · have q := hb.perm.map sv
    rw [sv_strs hI] at q
    exact q
  · exact List.pairwise_map.mpr (hs.imp fun {x y} h => of_decide_eq_false h)
end
def rSortedX (K : PySem.W.Frag) : List V → Hp → VK → Prop := fun vs H Q => ∃ (a : Addr) (ns : List Str), vs = [V.ref a] ∧ (SqL K H a (ns.map V.str) ∨ SqT K H a (ns.map V.str)) ∧
  ∀ (ys : List Str) (p : Addr), ys.Perm ns → ys.Pairwise (fun x y => ¬ ltS y x) → H p = none → Q (.ref p) (upd H p (.lst (ys.map V.str)))
section
open SrtO
variable {prog : Program} {w : World} {A : Around} {E : Value → Shared → Prop} {s : Shared}
theorem sorted_seq {it : Addr} {T : String} {o : Obj} {vs : List Value} {n : Nat} {ltv : Value → Value → Bool} {Q : Value → Shared → Prop} (O : Swo ltv) (hT : T = "list" ∨ T = "tuple") (ho : s.heap.get? it = some o) (hc : o.cls = .type T) (hd : o.data = .seq vs.toArray n) (hz : vs.length ≤ sizeLine)
    (hS : 2 ≤ vs.length → ∀ (h₁ : Heap) (a : Addr), SortableO prog w A.in1.in1 { s with heap := h₁ } a vs ltv)
    (h : ∀ (out : List Value) (h' : Heap) (a : Addr) (e : Nat), Srtd ltv out → Stb ltv out vs → s.heap.get? a = none → (∀ b o, s.heap.get? b = some o → h'.get? b = some o) → h'.get? a = some (seqObj "list" out.toArray e) → Q (.ref a) { s with heap := h' }) :
    wpAny (model prog w) A (call (.builtin "sorted") [.ref it]) Q E s := by
  refine Calls.call_function_entry kind_sorted plain_sorted entry_sorted (args_sorted1 _) ?_
  unfold Builtin.«sorted»
  refine wpAny_bind (m := checkCount "sorted" 1 1 _) (wpAny_pure ?_)
  refine wpAny_bind (wpAny_collect_seq it hT ho hc hd (fun h1 k1 => ?_) (by rw [List.size_toArray]; exact hz))
  refine wpAny_bind (wpAny_newList ?_ hz)
  have hoL : (h1.push (seqObj "list" vs.toArray 0)).get? h1.objs.size = some (seqObj "list" vs.toArray 0) := Heap.get?_push_size _ rfl
  have fresh : s.heap.get? h1.objs.size = none := by
    cases e : s.heap.get? h1.objs.size with
    | none => rfl
    | some o => exact absurd (Heap.lt_size (k1 _ _ e)) (Nat.lt_irrefl _)
  show wpAny _ _ _ _ _ { s with heap := h1.push (seqObj "list" vs.toArray 0) }
  refine wpAny_bind (wpAny_holding (wpAny_call_entry slot_list_sort ⟨_, hoL, rfl⟩ entry_list_sort (list_sort_ord O hoL hz (fun h2 => hS h2 _ _) fun out hs hb => ⟨_, rfl, ?_⟩) (args_list_sort _)))
  obtain ⟨e, he⟩ := sortedHeap_at (vs := vs) (out := out.toArray) hoL
  refine wpAny_pure ⟨_, rfl, h out _ _ e hs hb fresh (fun b o q => ?_) he⟩
  have hlt : b < h1.objs.size := Heap.lt_size (k1 _ _ q)
  rw [sortedHeap_old (Nat.ne_of_lt hlt) (by rw [size_push']; exact Nat.lt_succ_of_lt hlt)]
  exact Heap.get?_push_of_some _ (k1 _ _ q)
end
section
variable {X : Cx}
theorem cr_sortedX : CallR X (.builtin "sorted") (rSortedX X.K) := by
  intro pins s σ H vs us Q I r h
  obtain ⟨a, ns, rfl, hs, q⟩ := h
  have go : ∀ {its : List Value} {T : String} {o : Obj} {n : Nat}, Vals (ns.map V.str) its → (ns.map V.str).length ≤ sizeLine → (T = "list" ∨ T = "tuple") → s.heap.get? a = some o → o.cls = .type T → o.data = .seq its.toArray n → wpAny (model X.prog X.w) X.A (call (.builtin "sorted") us) (EP X pins σ Q) X.xe s := fun {its T o n} rv hz hT ho hc hd => by
    rw [Vals.ref1 r]
    have hi := rv.strs
    refine sorted_seq swo_str hT ho hc hd (by rw [← rv.length]; exact hz) (fun h2 h₁ a' => strs_sortable hi h2) fun out h' p e h1 h2 fr kp he => ?_
    obtain ⟨k1, k2, k3⟩ := strs_out hi h1 h2
    have hlen : ((out.map sv).map V.str).length ≤ sizeLine := by
      rw [List.length_map, k2.length_eq]
      rw [List.length_map] at hz
      exact hz
    have hn : H p = none := by
      cases q : H p with
      | none => rfl
      | some x => obtain ⟨u, e⟩ := ok_there (I.hok _ _ q); rw [fr] at e; cases e
    exact ⟨.ref p, upd H p (.lst ((out.map sv).map V.str)), I.laidN (t' := s.toks) kp fr hn ⟨hlen, out, e, vals_of_strs k1, he⟩, rfl, q _ _ k2 k3 hn⟩
  rcases hs with hs | hs
  · obtain ⟨its, rv, pl, hz⟩ := I.list hs
    obtain ⟨o, ho, hc, n, hd⟩ := pl.isList
    exact go rv hz (.inl rfl) ho hc hd
  · obtain ⟨its, rv, ⟨o, ho, hc, n, hd⟩, hz⟩ := I.tuple hs
    exact go rv hz (.inr rfl) ho hc hd
/-! ### text * number -/
theorem op_mul_str : OpR X (binaryOp .Mult) (fun x y H Q => ∃ (z : Str) (n : Int), x = .str z ∧ y = .int n ∧ 0 ≤ n ∧ n ≤ 1000 ∧ z.length ≤ 1000 ∧ Q (.str (Txt.mul z n)) H) := by
  intro pins s σ H x y v u Q I rx ry h
  obtain ⟨z, n, rfl, rfl, h0, h1, hz, q⟩ := h
  obtain ⟨t, rfl⟩ := rx
  obtain ⟨t', rfl⟩ := ry
  refine SB.mul ⟨?_, fun h2 _ => ?_, fun h2 _ => ?_⟩ fun t'' k => ⟨.str _, H, I.tok _, ⟨_, rfl⟩, q⟩
  · rw [Bool.or_eq_false_iff]
    exact ⟨decide_eq_false (by omega), decide_eq_false (by omega)⟩
  · have : (1000 : Int) ≤ (2 ^ 63 - 1) / n := by
      rw [Int.le_ediv_iff_mul_le (by omega)]
      omega
    omega
  · unfold Builtin.Str.tooLong
    rw [decide_eq_false_iff_not, sizeLine_eq]
    have h3 : n.toNat ≤ 1000 := by omega
    have := Nat.mul_le_mul hz h3
    omega
end

set_option maxHeartbeats 1000000
/-! ### a loop over a list or a tuple -/
def iSeq (K : PySem.W.Frag) (te : TE) : TI := fun σ H R => te σ H fun x H1 => ∃ a, x = .ref a ∧ (((∃ xs, SqL K H1 a xs) ∧ R (Itl K a) H1) ∨ ((∃ xs, SqT K H1 a xs) ∧ R (Itt K a) H1))
theorem pi_seq {X : Cx} {tg : Expr} {l : Expr} {tl : TE} (hl : PE X l tl) : PI X tg l (iSeq X.K tl) := by
  refine ⟨fun pins s σ H R I h => ?_⟩
  refine thn (hl.run pins s σ H _ I h) fun v s1 ⟨x, H1, I1, r1, q1⟩ => ?_
  obtain ⟨a, e, ⟨⟨xs, hq⟩, q⟩ | ⟨⟨xs, hq⟩, q⟩⟩ := q1
  · subst e
    cases r1
    obtain ⟨its, rv, p, hz⟩ := I1.list hq
    refine wpAny_pyIter_list p.isList ?_
    refine ⟨s1.heap.objs.size, [s1.heap.objs.size], _, _, H1, rfl, I1.kept (t' := s1.toks) fun b o e => Heap.get?_push_of_some _ e, turn_list a _, ⟨_, Heap.get?_push_size _ rfl, rfl, rfl⟩, fun b hb => ?_, q⟩
    have e : b = s1.heap.objs.size := by simpa using hb
    subst e
    exact I1.fpOk (Nat.le_refl _) (I1.hok.fresh (Nat.le_refl _))
  · subst e
    cases r1
    obtain ⟨its, rv, p, hz⟩ := I1.tuple hq
    refine wpAny_pyIter_tuple (show s1.heap.IsTuple a its.toArray from p) ?_
    refine ⟨s1.heap.objs.size, [s1.heap.objs.size], _, _, H1, rfl, I1.kept (t' := s1.toks) fun b o e => Heap.get?_push_of_some _ e, turn_tuple a _, ⟨_, Heap.get?_push_size _ rfl, rfl, rfl⟩, fun b hb => ?_, q⟩
    have e : b = s1.heap.objs.size := by simpa using hb
    subst e
    exact I1.fpOk (Nat.le_refl _) (I1.hok.fresh (Nat.le_refl _))
def Strs (H : Hp) (a : Addr) (ns : List Str) : Prop := H a = some (.lst (ns.map V.str)) ∨ H a = some (.tup (ns.map V.str))
theorem Strs.same {H H' : Hp} {a : Addr} {ns : List Str} (h : Strs H a ns) (s : Same H H') : Strs H' a ns := h.elim (fun h => .inl (s _ _ h)) fun h => .inr (s _ _ h)
theorem Strs.seq {K : PySem.W.Frag} {H : Hp} {a : Addr} {ns : List Str} (h : Strs H a ns) : SqL K H a (ns.map V.str) ∨ SqT K H a (ns.map V.str) := h.elim (fun h => .inl (sl_of h)) fun h => .inr (st_of h)
theorem rd_iSeq {K : PySem.W.Frag} {te : TE} {σ : L2.St} {H : Hp} {R : It → Hp → Prop} (h : te σ H fun x H1 => ∃ a, x = .ref a ∧ (((∃ xs, SqL K H1 a xs) ∧ R (Itl K a) H1) ∨ ((∃ xs, SqT K H1 a xs) ∧ R (Itt K a) H1))) : iSeq K te σ H R := h
theorem get_strs {U : List Str} {i : Nat} {x : V} (h : (U.map V.str)[i]? = some x) : ∃ z, U[i]? = some z ∧ x = .str z := get_map h
theorem for_strs {K : PySem.W.Frag} {σ : L2.St} {H : Hp} {D : Ends} {U : List Str} {k : Nat} {tb : TS} {a : Addr} (hA : Strs H a U) (Pv : Nat → L2.St → Hp → Prop) (h0 : Pv 0 σ H) (hl : ∀ i σ H', Pv i σ H' → ∀ o, H a = some o → H' a = some o)
    (hs : ∀ i z σ H', U[i]? = some z → Pv i σ H' → tb { D with nx := Pv (i + 1), ct := Pv (i + 1), bk := D.nx } (σ.set k (some (.str z))) H') (hd : ∀ σ H', Pv U.length σ H' → D.nx σ H') :
    ((∃ xs, SqL K H a xs) ∧ ∃ W : Nat → Nat → L2.St → Hp → Prop, (∃ m, W 0 m σ H) ∧ ∀ i m σ H, W i m σ H →
      ((Itl K a).stop i H ∧ D.nx σ H) ∨ ((Itl K a).go i H ∧ ∃ N : L2.St → Hp → Prop, (∀ σ' H', N σ' H' → ∃ m', m' < m ∧ W (i + 1) m' σ' H') ∧ ∀ x H', (Itl K a).yld i H x H' → gName k x σ H' fun σ2 H2 => tb { D with nx := N, ct := N, bk := D.nx } σ2 H2)) ∨
    ((∃ xs, SqT K H a xs) ∧ ∃ W : Nat → Nat → L2.St → Hp → Prop, (∃ m, W 0 m σ H) ∧ ∀ i m σ H, W i m σ H →
      ((Itt K a).stop i H ∧ D.nx σ H) ∨ ((Itt K a).go i H ∧ ∃ N : L2.St → Hp → Prop, (∀ σ' H', N σ' H' → ∃ m', m' < m ∧ W (i + 1) m' σ' H') ∧ ∀ x H', (Itt K a).yld i H x H' → gName k x σ H' fun σ2 H2 => tb { D with nx := N, ct := N, bk := D.nx } σ2 H2)) := by
  rcases hA with hA | hA
  · refine .inl ⟨⟨_, sl_of hA⟩, for_lst (xs := U.map V.str) Pv h0 (fun i σ H' hp => hl i σ H' hp _ hA) (fun i x σ H' hx hp => ?_) (fun σ H' hp => hd σ H' (by rw [List.length_map] at hp; exact hp))⟩
    obtain ⟨z, hz, rfl⟩ := get_strs hx
    exact hs i z σ H' hz hp
  · refine .inr ⟨⟨_, st_of hA⟩, L2.for_tup (xs := U.map V.str) (g := gName k) Pv h0 (fun i σ H' _ hp => st_of (hl i σ H' hp _ hA)) (fun i x σ H' hx hp => ?_) (fun σ H' hp => hd σ H' (by rw [List.length_map] at hp; exact hp))⟩
    obtain ⟨z, hz, rfl⟩ := get_strs hx
    exact hs i z σ H' hz hp
/-! ### what is due of a list of texts -/
def firstBad : List Str → Option Str
  | [] => none
  | z :: r => if isNm z = true then firstBad r else some z
def firstDup : List Str → List Str → Option Str
  | _, [] => none
  | seen, z :: r => if z ∈ seen then some z else firstDup (seen ++ [z]) r
theorem bad_step {U : List Str} {i : Nat} {z : Str} (h : U[i]? = some z) : firstBad (U.drop i) = if isNm z = true then firstBad (U.drop (i + 1)) else some z := by
  have hl := (List.getElem?_eq_some_iff.mp h).1
  have e : U.drop i = z :: U.drop (i + 1) := by rw [List.drop_eq_getElem_cons hl]; congr 1; exact (List.getElem?_eq_some_iff.mp h).2
  rw [e]; rfl
theorem dup_step {U : List Str} {i : Nat} {z : Str} (h : U[i]? = some z) : firstDup (U.take i) (U.drop i) = if z ∈ U.take i then some z else firstDup (U.take (i + 1)) (U.drop (i + 1)) := by
  have hl := (List.getElem?_eq_some_iff.mp h).1
  have e : U.drop i = z :: U.drop (i + 1) := by rw [List.drop_eq_getElem_cons hl]; congr 1; exact (List.getElem?_eq_some_iff.mp h).2
  have e2 : U.take (i + 1) = U.take i ++ [z] := by rw [List.take_add_one, h]; rfl
  rw [e, e2]; rfl
theorem take_mem {U : List Str} {i : Nat} {z : Str} (x : Str) (h : U[i]? = some z) : (decide (x ∈ U.take i) || decide ((Sum.inr x : Key) = Sum.inr z)) = decide (x ∈ U.take (i + 1)) := by
  have e2 : U.take (i + 1) = U.take i ++ [z] := by rw [List.take_add_one, h]; rfl
  rw [e2, Bool.eq_iff_iff]
  simp [List.mem_append]
theorem bad_end {U : List Str} : firstBad (U.drop U.length) = none := by rw [List.drop_length]; rfl
theorem dup_end {U : List Str} : firstDup (U.take U.length) (U.drop U.length) = none := by rw [List.drop_length]; rfl
theorem bad_none {U : List Str} : firstBad U = none ↔ ∀ z ∈ U, isNm z = true := by
  induction U with
  | nil => simp [firstBad]
  | cons y r ih =>
    unfold firstBad
    by_cases h : isNm y = true
    · rw [if_pos h, ih]; simp [h]
    · rw [if_neg h]; simp [h]
theorem dup_none {U : List Str} : ∀ {s : List Str}, s.Nodup → (firstDup s U = none ↔ (s ++ U).Nodup) := by
  induction U with
  | nil => intro s hs; simp [firstDup, hs]
  | cons y r ih =>
    intro s hs
    unfold firstDup
    by_cases h : y ∈ s
    · rw [if_pos h]
      refine ⟨fun e => (by cases e), fun n => ?_⟩
      rw [List.nodup_append] at n
      exact absurd rfl (n.2.2 y h y List.mem_cons_self)
    · rw [if_neg h]
      have hs2 : (s ++ [y]).Nodup := by
        rw [List.nodup_append]
        refine ⟨hs, by simp, fun a ha b hb => ?_⟩
        rw [List.mem_singleton.mp hb]
        exact fun e => h (e ▸ ha)
      rw [ih hs2, List.append_assoc]; rfl
def dueL (U : List Str) : Option (List V) := match firstBad U with
  | some z => some [.str "BadName", .str z, .bl true, .bl false]
  | none => match firstDup [] U with
    | some z => some [.str "Doubled", .str z, .bl true, .bl false]
    | none => none
theorem dup_none' {U : List Str} : firstDup [] U = none ↔ U.Nodup := by rw [dup_none List.nodup_nil]; rfl
theorem due_none {U : List Str} : dueL U = none ↔ (∀ z ∈ U, isNm z = true) ∧ U.Nodup := by
  unfold dueL
  rw [← bad_none, ← dup_none']
  cases firstBad U with
  | some z => simp
  | none =>
    cases firstDup [] U with
    | some z => simp
    | none => simp
theorem due_sc {U : List Str} {xs : List V} (h : dueL U = some xs) : xs.length = 4 ∧ ∀ x ∈ xs, Sc x := by
  have k : ∀ a z, ([.str a, .str z, .bl true, .bl false] : List V).length = 4 ∧ ∀ x ∈ ([.str a, .str z, .bl true, .bl false] : List V), Sc x := fun a z => ⟨rfl, by
    simp only [List.mem_cons, forall_eq_or_imp, List.not_mem_nil, false_implies, implies_true, and_true]
    exact ⟨trivial, trivial, trivial, trivial⟩⟩
  unfold dueL at h
  cases e : firstBad U with
  | some z => rw [e] at h; cases h; exact k _ _
  | none =>
    rw [e] at h
    cases e2 : firstDup [] U with
    | some z => simp only [e2] at h; cases h; exact k _ _
    | none => simp only [e2] at h; cases h
/-- sorted lists with the same items are the same -/
theorem sorted_eq : ∀ {xs ys : List Str}, xs.Perm ys → xs.Pairwise (fun x y => ¬ ltS y x) → ys.Pairwise (fun x y => ¬ ltS y x) → xs = ys
  | [], ys, h, _, _ => (List.nil_perm.mp h).symm
  | x :: xs, [], h, _, _ => absurd (List.perm_nil.mp h) (by simp)
  | x :: xs, y :: ys, h, hx, hy => by
    obtain ⟨x1, x2⟩ := List.pairwise_cons.mp hx
    obtain ⟨y1, y2⟩ := List.pairwise_cons.mp hy
    have e : x = y := by
      rcases List.mem_cons.mp (h.mem_iff.mp List.mem_cons_self) with e | hm
      · exact e
      · rcases List.mem_cons.mp (h.mem_iff.mpr (List.mem_cons_self (a := y))) with e | hm2
        · exact e.symm
        · exact ltS_tri (x1 _ hm2 |> fun q => q |> fun q => (by
            have a := y1 _ hm
            exact a)) (x1 _ hm2)
    subst e
    rw [sorted_eq ((List.perm_cons x).mp h) x2 y2]
theorem sorted_strict {ys : List Str} (hs : ys.Pairwise (fun x y => ¬ ltS y x)) (hn : ys.Nodup) {i : Nat} {a b : Str} (ha : ys[i]? = some a) (hb : ys[i + 1]? = some b) : ltS a b := by
  obtain ⟨h1, rfl⟩ := List.getElem?_eq_some_iff.mp ha
  obtain ⟨h2, rfl⟩ := List.getElem?_eq_some_iff.mp hb
  have k1 := List.pairwise_iff_getElem.mp hs i (i + 1) h1 h2 (by omega)
  have k2 := List.pairwise_iff_getElem.mp hn i (i + 1) h1 h2 (by omega)
  by_cases q : ltS ys[i] ys[i + 1]
  · exact q
  · exact absurd (ltS_tri q k1) k2

set_option maxHeartbeats 1000000
/-! ### methods of texts, read -/
section
variable {r : V → List V → Hp → VK → Prop} {to te : TE} {σ : L2.St} {H : Hp} {Q : VK}
theorem rd_m0 (h : to σ H fun x H1 => (∃ a, x = .str a) ∧ r x [] H1 Q) : tM0 r to σ H Q := h
theorem rd_m1 (h : to σ H fun x H1 => (∃ a, x = .str a) ∧ te σ H1 fun y H2 => r x [y] H2 Q) : tM1 r to te σ H Q := h
theorem rd_js {t : TE} {ts : List TE} {acc : Str} {R : Str → Hp → Prop} (h : t σ H fun x H1 => ∃ y : Str, x = .str y ∧ (acc ++ y).length ≤ sizeLine ∧ tJs ts (acc ++ y) σ H1 R) : tJs (t :: ts) acc σ H R := h
theorem rd_js0 {acc : Str} {R : Str → Hp → Prop} (h : R acc H) : tJs [] acc σ H R := h
theorem rd_fmt (h : te σ H fun x H1 => (∃ y : Str, x = .str y ∧ y.length ≤ sizeLine ∧ Q (.str y) H1) ∨ ∃ i : Int, x = .int i ∧ i.natAbs.log2 < 1920 ∧ Q (.str (toString i)) H1) : tFmt te σ H Q := h
theorem rd_asgT {g : TG} {D : Ends} (h : te σ H fun v H1 => g v σ H1 D.nx) : tAsg te g D σ H := h
theorem rd_isS {z : Str} {A : Prop} (h : A) : (∃ a, V.str z = V.str a) ∧ A := ⟨⟨z, rfl⟩, h⟩
theorem rd_st1 {z : Str} {R : Str → Prop} (h : R z) : ∃ a, V.str z = .str a ∧ ([] : List V) = [] ∧ True ∧ R a := ⟨z, rfl, rfl, trivial, h⟩
theorem rd_neS {i j : Str} {Q : VK} (h : Q (.bl (!decide (i = j))) H) : rNe (.str i) (.str j) H Q := ⟨rfl, by
  have e : decide (V.str i = V.str j) = decide (i = j) := by simp
  rw [e]; exact h⟩
theorem rd_nl {A : Prop} (h : A) : ([] : List V) = [] ∧ True ∧ A := ⟨rfl, trivial, h⟩
theorem rd_st2 {z y : Str} {R : Str → Str → Prop} (h : R z y) : ∃ a b, V.str z = .str a ∧ [V.str y] = [.str b] ∧ R a b := ⟨z, y, rfl, rfl, h⟩
end
/-! ### a property that may raise, a static method, in a try or not -/
structure HasPr (P : Program) (w : World) (K : PySem.W.Frag) (mg : Str → Option Value) (base : Heap) (CX : CXT) (C : Addr) (f : Str) (k : Nat) (ps : List Str) (sp : Sp) : Prop where
  ex : ∃ p g fd, PropOf K C f p g ∧ FnOk P w K mg base CX k g fd ps sp ∧ Binds K fd ps []
theorem HasPr.mono {P : Program} {w : World} {K : PySem.W.Frag} {mg : Str → Option Value} {base : Heap} {CX : CXT} {C : Addr} {f : Str} {j k : Nat} {ps : List Str} {sp : Sp} (h : HasPr P w K mg base CX C f j ps sp) (l : j ≤ k) : HasPr P w K mg base CX C f k ps sp := by
  obtain ⟨p, g, fd, a, F, b⟩ := h.ex
  exact ⟨p, g, fd, a, F.mono l, b⟩
structure SMet (K : PySem.W.Frag) (C : Addr) (mc : Value) (m : Str) (p g : Addr) : Prop where
  at_ : PySem.W.findCls K (.ref C) mc m = some (.get (.builtin "staticmethod.__get__") (.ref p) .none (.ref C))
  rc : ∃ rest, PySem.W.recIn K p "staticmethod" = some (.ref g :: rest)
structure SInst (K : PySem.W.Frag) (C : Addr) (m : Str) (p g : Addr) : Prop where
  pg : PySem.W.plainGet K C Str.empty = true
  ic : PySem.W.isClsIn K C = true
  at_ : PySem.W.findIn K (.ref C) m = some (some (.ref p))
  ty : PySem.W.typeIn K (.ref p) = some (.type "staticmethod")
  get : PySem.W.specialIn K (.ref p) "__get__" = some (some (.builtin "staticmethod.__get__"))
  tk : PySem.W.takesIn K (.ref p) = some false
  cp : PySem.W.copiedNames.contains m = false
  rc : ∃ rest, PySem.W.recIn K p "staticmethod" = some (.ref g :: rest)
structure HasSM (P : Program) (w : World) (K : PySem.W.Frag) (mg : Str → Option Value) (base : Heap) (CX : CXT) (C : Addr) (m : Str) (k : Nat) (ps ks : List Str) (sp : Sp) : Prop where
  ex : ∃ g fd q mc, FnOk P w K mg base CX k g fd ps sp ∧ ClX.CRead K C mc ∧ SMet K C mc m q g ∧ SInst K C m q g ∧ PySem.W.keepIn K (.ref g) = true ∧ Binds K fd ps [] ∧ ∀ (s : Shared) (ws : List Value), ws.length = ks.length → BindsTo s fd ⟨[], ks.zip ws⟩ (ps.zip ws)
theorem HasSM.mono {P : Program} {w : World} {K : PySem.W.Frag} {mg : Str → Option Value} {base : Heap} {CX : CXT} {C : Addr} {m : Str} {j k : Nat} {ps ks : List Str} {sp : Sp} (h : HasSM P w K mg base CX C m j ps ks sp) (l : j ≤ k) : HasSM P w K mg base CX C m k ps ks sp := by
  obtain ⟨g, fd, q, mc, F, r⟩ := h.ex
  exact ⟨g, fd, q, mc, F.mono l, r⟩
def tSMeth (C : Addr) (sp : Sp) (E : L2.St → XK) (ta : TE) (t : TA) : TE := fun σ H Q => ta σ H fun x H1 => x = .ref C ∧ t σ H1 fun vs H2 => sp vs H2 Q (E σ)
def tSMethK (C : Addr) (n : Nat) (sp : Sp) (E : L2.St → XK) (ta : TE) (tk : TA) : TE := fun σ H Q => ta σ H fun x H1 => x = .ref C ∧ tk σ H1 fun zs H2 => zs.length = n ∧ sp zs H2 Q (E σ)
def tSMethI (C : Addr) (m : Str) (sp : Sp) (E : L2.St → XK) (ta : TE) (t : TA) : TE := fun σ H Q => ta σ H fun x H1 => ∃ a dx fs, x = .ref a ∧ H1 a = some (.ins C dx fs) ∧ fs.lookup m = none ∧ t σ H1 fun vs H2 => sp vs H2 Q (E σ)
section
variable {X : Cx} {CX : CXT} {C f g q : Addr} {fd : FuncData} {x : Str} {k i : Nat} {ps ks : List Str} {ds : List Value} {dvs : List V} {sp : Sp} {E : L2.St → XK} {p pos apos : Pos} {e o : Expr} {es : List Expr} {kws : List Keyword} {t tk : TA} {ta : TE} {m : Str} {mc : Value} {pl : Sem Bool}
theorem pe_propH {f : Str} {E : XK} (h : HasPr X.prog X.w X.K X.mg X.base CX C f k ps sp) (c : Cls X.K C) (he : PE X e ta) (hr : Room (k + 1) X.A) (hx : Passes CX X.nox E) (hab : attributeBase e f X.env (eval e X.env) = eval e X.env := by rfl) : PE X (.Attribute e f pos) (tProp C sp [] E ta) := by
  obtain ⟨p, g, fd, a, F, b⟩ := h.ex
  exact pe_prop he c a F hr b .nil hx hab
theorem rd_prop {E : XK} {σ : L2.St} {H : Hp} {Q : VK} (h : ta σ H fun x H1 => ∃ a dx fs, x = .ref a ∧ H1 a = some (.ins C dx fs) ∧ sp (.ref a :: dvs) H1 Q E) : tProp C sp dvs E ta σ H Q := h
theorem getmethsm_ok {pins : List (Addr × Obj)} {σ : L2.St} {H : Hp} {s : Shared} {A : Around} {E : Value → Shared → Prop} {Q : Value × List Value → Shared → Prop} (I : Inv X pins σ H s) (r : ClX.CRead X.K C mc) (k : SMet X.K C mc m q g)
    (h : ∀ s', Inv X pins σ H s' → Q (.ref g, []) s') : wpAny (model X.prog X.w) A (getMethod (.ref C) m pl) Q E s := by
  obtain ⟨rest, hp⟩ := k.rc
  refine PySem.W.method_cls I.kIn r.ga (PySem.W.cls_bind I.kIn r.rd k.at_ ?_)
  refine wpAny_call (PySem.W.sm_get (s := { s with toks := s.toks + 1 }) I.kIn hp (PySem.W.handed_on rfl ?_))
  exact h _ (I.tok _)
theorem getmethsi_ok {pins : List (Addr × Obj)} {σ : L2.St} {H : Hp} {s : Shared} {A : Around} {E : Value → Shared → Prop} {Q : Value × List Value → Shared → Prop} {a : Addr} {ox od : Obj} (I : Inv X pins σ H s) (J : PySem.W.InstAt s.heap a ox C (some od)) (hl : PySem.W.lookIn m od = some none) (k : SInst X.K C m q g)
    (h : ∀ s', Inv X pins σ H s' → Q (.ref g, []) s') : wpAny (model X.prog X.w) A (getMethod (.ref a) m pl) Q E s := by
  obtain ⟨rest, hp⟩ := k.rc
  have pg : PySem.W.plainGet X.K C m = true := k.pg
  refine PySem.W.method_usual (r := some (.ref q)) I.kIn J (PySem.W.plainGet_of pg).1 (PySem.W.plainGet_of pg).2 k.at_ ?_ ?_
  · show ((PySem.W.typeIn X.K (.ref q)).any fun t => t != .type "function" && t != .type "method_descriptor" && t != .type "wrapper_descriptor") = true
    rw [k.ty]
    first
    | rfl
    | decide +kernel
  · refine PySem.W.get_bind I.kIn J (PySem.W.plainGet_of pg).1 (ClX.find_cm k.ic k.at_ k.get k.tk k.cp hl) (PySem.W.plainGet_of pg).2 ?_
    refine wpAny_call (PySem.W.sm_get (s := { s with toks := s.toks + 1 }) I.kIn hp (PySem.W.handed_on rfl ?_))
    exact h _ (I.tok _)
theorem pe_sm (h : HasSM X.prog X.w X.K X.mg X.base CX C m k ps ks sp) (he : PE X o ta) (hr : Room k X.A) (hx : ∀ σ, PassesAt CX X σ (E σ)) (ha : PA X (e :: es) t)
    (hst : starEach (e :: es) X.env = (false, eval e X.env) :: starEach es X.env := by rfl) (hpl : (backTo pos (starEach es X.env)).any (·.1) = false := by rfl)
    (ht : eval (.Call (.Attribute o m apos) (e :: es) [] pos) X.env = (do
      let ov ← eval o X.env
      standAt apos.atName
      let (f, first) ← holding [ov] (getMethod ov m pl)
      callWith pos f first (backTo pos (starEach (e :: es) X.env)) (backToKw pos (keywordEach [] X.env))) := by rfl) :
    PE X (.Call (.Attribute o m apos) (e :: es) [] pos) (tSMeth C sp E ta t) := by
  obtain ⟨g, fd, q, mc, F, r, c, _, kp, hb, _⟩ := h.ex
  refine ⟨fun pins s σ H Q I h => ?_⟩
  refine PySem.W.methodCall_KW (pl := pl) (thn (he.run pins s σ H _ I h) fun u s1 ⟨x, H1, I1, rx, ex, q⟩ => ?_) ht
  subst ex
  obtain rfl : u = Value.ref C := rx
  refine getmethsm_ok I1 r c fun s2 I2 => ?_
  refine PySem.W.callWith_K (h₀ := X.base) I2.ok.mod.kin kp (thn (ha.run pos pins s2 σ H1 _ I2 q) fun us s3 ⟨vs, H2, I3, rv, q2⟩ => ⟨I3.kIn, ?_⟩) hst hpl
  exact run_fnS F hr hb (hx σ) I3 rv q2
theorem pe_smI (h : HasSM X.prog X.w X.K X.mg X.base CX C m k ps ks sp) (he : PE X o ta) (hr : Room k X.A) (hx : ∀ σ, PassesAt CX X σ (E σ)) (ha : PA X (e :: es) t)
    (hst : starEach (e :: es) X.env = (false, eval e X.env) :: starEach es X.env := by rfl) (hpl : (backTo pos (starEach es X.env)).any (·.1) = false := by rfl)
    (ht : eval (.Call (.Attribute o m apos) (e :: es) [] pos) X.env = (do
      let ov ← eval o X.env
      standAt apos.atName
      let (f, first) ← holding [ov] (getMethod ov m pl)
      callWith pos f first (backTo pos (starEach (e :: es) X.env)) (backToKw pos (keywordEach [] X.env))) := by rfl) :
    PE X (.Call (.Attribute o m apos) (e :: es) [] pos) (tSMethI C m sp E ta t) := by
  obtain ⟨g, fd, q, mc, F, r, _, c, kp, hb, _⟩ := h.ex
  refine ⟨fun pins s σ H Q I h => ?_⟩
  refine PySem.W.methodCall_KW (pl := pl) (thn (he.run pins s σ H _ I h) fun u s1 ⟨x, H1, I1, rx, a, dx, fs, ex, ea, l, q⟩ => ?_) ht
  subst ex
  obtain rfl : u = Value.ref a := rx
  obtain ⟨mA, O, rr, _, _, _⟩ := ins_get I1.hok ea
  have hn : mA m = none := RelO.none_of (by rw [← l]; exact rr m)
  obtain ⟨od, J, hl⟩ := O.look
  refine getmethsi_ok I1 J (by rw [hl m, hn]) c fun s2 I2 => ?_
  refine PySem.W.callWith_K (h₀ := X.base) I2.ok.mod.kin kp (thn (ha.run pos pins s2 σ H1 _ I2 q) fun us s3 ⟨vs, H2, I3, rv, q2⟩ => ⟨I3.kIn, ?_⟩) hst hpl
  exact run_fnS F hr hb (hx σ) I3 rv q2
theorem pe_smK (h : HasSM X.prog X.w X.K X.mg X.base CX C m k ps ks sp) (he : PE X o ta) (hr : Room k X.A) (hx : ∀ σ, PassesAt CX X σ (E σ)) (hkw : PK X kws tk)
    (hall : (backToKw pos (keywordEach kws X.env)).all (·.1.isSome) = true := by rfl) (hks : (backToKw pos (keywordEach kws X.env)).filterMap (·.1) = ks := by rfl)
    (hpl : ((backTo pos (starEach [] X.env)).any (·.1) || (backToKw pos (keywordEach kws X.env)).any (·.1.isNone)) = false := by rfl)
    (ht : eval (.Call (.Attribute o m apos) [] kws pos) X.env = (do
      let ov ← eval o X.env
      standAt apos.atName
      let (f, first) ← holding [ov] (getMethod ov m pl)
      callWith pos f first (backTo pos (starEach [] X.env)) (backToKw pos (keywordEach kws X.env))) := by rfl) :
    PE X (.Call (.Attribute o m apos) [] kws pos) (tSMethK C ks.length sp E ta tk) := by
  obtain ⟨g, fd, q, mc, F, r, c, _, kp, _, hb⟩ := h.ex
  refine ⟨fun pins s σ H Q I h => ?_⟩
  refine PySem.W.methodCall_KW (pl := pl) (thn (he.run pins s σ H _ I h) fun u s1 ⟨x, H1, I1, rx, ex, q⟩ => ?_) ht
  subst ex
  obtain rfl : u = Value.ref C := rx
  refine getmethsm_ok I1 r c fun s2 I2 => ?_
  refine PySem.W.callWith_KW0 (h₀ := X.base) I2.ok.mod.kin kp hall ?_ hpl
  refine thn (hkw.run pos pins s2 σ H1 _ I2 q) fun ws s3 ⟨zs, H2, I3, rz, l2, q2⟩ => ⟨I3.kIn, ?_⟩
  rw [hks]
  exact wpAny_call (code_fnS F hr (hb s3 ws (rz.length.symm.trans l2)) (hx σ) I3 rz q2)
theorem rd_sm {σ : L2.St} {H : Hp} {Q : VK} (h : ta σ H fun x H1 => x = .ref C ∧ t σ H1 fun vs H2 => sp vs H2 Q (E σ)) : tSMeth C sp E ta t σ H Q := h
theorem rd_smK {n : Nat} {σ : L2.St} {H : Hp} {Q : VK} (h : ta σ H fun x H1 => x = .ref C ∧ tk σ H1 fun zs H2 => zs.length = n ∧ sp zs H2 Q (E σ)) : tSMethK C n sp E ta tk σ H Q := h
theorem rd_smI {σ : L2.St} {H : Hp} {Q : VK} (h : ta σ H fun x H1 => ∃ a dx fs, x = .ref a ∧ H1 a = some (.ins C dx fs) ∧ fs.lookup m = none ∧ t σ H1 fun vs H2 => sp vs H2 Q (E σ)) : tSMethI C m sp E ta t σ H Q := h
end

def topS (i : Nat) : Stmt := PySem.Challenge.pw_outshiners_k03_span_texts_read_back.main.body.getD i (.Pass ⟨0, 0, 0, 0⟩)
structure Blt (mg : Str → Option Value) : Prop where
  ValueError : mg "ValueError" = none
  bool : mg "bool" = none
  dict : mg "dict" = none
  int : mg "int" = none
  isinstance : mg "isinstance" = none
  len : mg "len" = none
  list' : mg "list" = none
  max : mg "max" = none
  min : mg "min" = none
  range : mg "range" = none
  sorted : mg "sorted" = none
  str : mg "str" = none
  tuple : mg "tuple" = none
  g_LIMIT : ∃ t, mg "LIMIT" = some (.int 1000000000000 t)
  g_LONGEST_NUMBER : ∃ t, mg "LONGEST_NUMBER" = some (.int 14 t)

local macro_rules | `(tactic| walk_at "sideB") => `(tactic| first | assumption | exact Z.sl_of (by assumption) | exact upd_same | (show (0 : Int) < _; omega) | exact Or.inl ⟨by omega, by omega⟩ | exact Or.inr ⟨by omega, by omega⟩)
local macro_rules | `(tactic| walk_at "tyofB") => `(tactic| first | exact TyOf.int _ | exact TyOf.bl _ | exact TyOf.non | exact TyOf.str _ | (apply TyOf.lst; assumption) | (apply TyOf.tup; assumption))
local macro_rules | `(tactic| walk_at "rd1B") => `(tactic| first
  | with_reducible first
    | refine rd_seq ?_ | refine rd_asg ?_ | refine rd_c ?_ | refine rd_op ?_ | refine rd_cons ?_ | refine rd_nil ?_ | refine rd_cb ?_ | refine rd_call ?_ | refine rd_I0 ?_ | refine rd_eqI ?_ | refine rd_bx ?_ | refine rd_nn ?_ | refine rd_int1 ?_ | refine rd_max2 ?_ | refine rd_min2 ?_
    | refine rd_ret ?_ | refine rd_ifS ?_ | refine rd_test ?_ | refine rd_tB ?_ | refine rd_not ?_ | refine rd_and ?_ | refine rd_or ?_ | refine rd_un ?_ | refine rd_U ?_ | refine rd_next ?_ | refine rd_drop ?_ | refine rd_andV ?_ | refine rd_orV ?_ | refine rd_notV ?_ | refine rd_if ?_ | refine rd_neI ?_
    | refine rd_lst ?_ | refine rd_tup ?_ | refine rd_sl ?_ | refine rd_bm ?_ | refine rd_chain ?_ | refine rd_asgS ?_ | refine iteT ?_ | refine iteF ?_ | refine if_nn ?_ | refine if_nf ?_ | refine if_nt ?_ | refine if_nnN ?_ | refine if_n_int ?_ | refine if_n_bl ?_ | refine if_n_str ?_ | refine if_n_ref ?_ | refine if_nN_int ?_ | refine if_nN_bl ?_ | refine if_nN_str ?_ | refine if_nN_ref ?_ | refine rd_eqB ?_ | refine rd_eqS ?_ | refine rd_neB ?_ | refine rd_part ?_ | refine rd_nopart ?_ | refine rd_for ?_ | refine rd_iRng1 ?_ | refine rd_iList ?_ | refine rd_iTup ?_ | refine rd_lc ?_ | refine rd_callS ?_ | refine rd_callKS ?_ | refine rd_mkO ?_ | refine rd_ckw ?_ | refine rd_xf ?_
    | refine rd_p9 ?_ | refine rd_p11 ?_ | refine rd_p12 ?_ | refine rd_p13 ?_ | refine rd_p18 ?_ | refine rd_p30 ?_ | refine rd_p40 ?_ | refine rd_ss ?_ | refine rd_s1 ?_ | refine rd_i1 ?_ | refine rd_fld ?_ | refine rd_sfld ?_ | refine rd_make ?_ | refine rd_lrv ?_ | refine rd_dnewK ?_ | refine rd_dput ?_ | refine rd_dnotin ?_ | refine rd_yes ?_ | refine rd_callNS ?_ | refine rd_callSD ?_ | refine rd_ii ?_ | refine rd_si ?_ | refine rd_iStr ?_
  | ((with_reducible refine rd_var (v := ?v) ?hv ?_); (case hv => exact rfl))
  | ((with_reducible refine rd_setS (j := ?j) ?he ?_); (case he => exact rfl))
  | ((with_reducible refine rd_isi (a := ?a) (b := ?b) ?ty ?k ?_); (case ty => first | exact TyOf.int _ | exact TyOf.bl _ | exact TyOf.non | exact TyOf.str _); (case k => with_reducible first | exact kb_int_int | exact kb_int_bool | exact kb_int_str | exact kb_int_dict | exact kb_int_list | exact kb_int_tuple | exact kb_bool_int | exact kb_bool_bool | exact kb_bool_str | exact kb_bool_dict | exact kb_bool_list | exact kb_bool_tuple | exact kb_NoneType_int | exact kb_NoneType_bool | exact kb_NoneType_str | exact kb_NoneType_dict | exact kb_NoneType_list | exact kb_NoneType_tuple | exact kb_str_int | exact kb_str_bool | exact kb_str_str | exact kb_str_dict | exact kb_str_list | exact kb_str_tuple))
  | ((with_reducible refine rd_isiL (b := ?b) (by assumption) ?k ?_); (case k => with_reducible first | exact kb_list_int | exact kb_list_bool | exact kb_list_str | exact kb_list_dict | exact kb_list_list | exact kb_list_tuple))
  | ((with_reducible refine rd_isiT (b := ?b) (by assumption) ?k ?_); (case k => with_reducible first | exact kb_tuple_int | exact kb_tuple_bool | exact kb_tuple_str | exact kb_tuple_dict | exact kb_tuple_list | exact kb_tuple_tuple))
  | ((with_reducible refine rd_I ?hc ?_); (case hc => walk_at "sideB"))
  | ((with_reducible refine rd_ixL (xs := ?xs) (v := ?v) ?hh ?he ?_); (case hh => first | exact upd_same | assumption); (case he => exact rfl)))
local macro_rules | `(tactic| walk_at "rdB") => `(tactic| repeat walk_at "rd1B")

abbrev s_law_store : Stmt := topS 24
theorem sc_law_store : FnScope ["script"] ["script"] (defScope s_law_store) := ⟨rfl, rfl, rfl, by decide +kernel, rfl, by decide +kernel, by decide +kernel⟩
section
variable {P : Program} {w : World} {K : PySem.W.Frag} {mg : Str → Option Value} {base : Heap}
/-! ### _law_store -/
def spStore (K : PySem.W.Frag) : Sp := fun vs H Q _ => ∃ a, ∃ ns : List Int, vs = [.ref a] ∧ SqL K H a (ns.map V.int) ∧ ∀ (S : Sto) H', StoreOk S H' → Same H H' → Q (.ref S.1) H'
theorem ok_store {k : Nat} {f : Addr} {fd : FuncData} (F : Fun K "_law_store" "_law_store" s_law_store f fd) (T : Blt mg) : FnOk P w K mg base CX0 (k + 1) f fd ["script"] (spStore K) := by
  refine F.ok sc_law_store (fun vs H Q E h => ?_) (fun cdv A outer s H vs Q E hr h => ?_)
  · obtain ⟨a, ns, rfl, _⟩ := h; rfl
  · obtain ⟨a, ns, rfl, hL, q⟩ := h
    refine ⟨_, (pss_one (ps_ret (pe_lst (pa_cons (pe_callTy call_list_of (by rfl) T.list' (by decide +kernel) (pa_cons (pv 0) pa_nil)) (pa_cons pe_int (pa_cons pe_int (pa_cons pe_int (pa_cons pe_int (pa_cons pe_int (pa_cons pe_int pa_nil)))))))))), ?_⟩
    walk_at "rdB"
    refine ⟨a, _, rfl, .inl hL, fun q0 nq0 => ?_⟩
    walk_at "rdB"
    refine ⟨sz (by simp), fun S nS => ?_⟩
    have n2 : q0 ≠ S := fun e => by rw [← e, upd_same] at nS; cases nS
    refine q (S, q0) _ ⟨ns, 0, 0, 0, 0, 1, 1, n2, upd_same, by rw [upd_ne n2, upd_same], by omega, by omega, by omega, by omega, by omega⟩ ((same_new nq0).trans (same_new nS))
end
abbrev s_law_stir : Stmt := topS 25
theorem sc_law_stir : FnScope ["store", "cell", "one", "two"] ["store", "cell"] (defScope s_law_stir) := ⟨rfl, rfl, rfl, by decide +kernel, rfl, by decide +kernel, by decide +kernel⟩
section
variable {P : Program} {w : World} {K : PySem.W.Frag} {mg : Str → Option Value} {base : Heap}
/-! ### _law_stir -/
def spStir : Sp := fun vs H Q _ => ∃ S n q a b c d e f, vs = [.ref S, .int n] ∧ H S = some (.lst [.ref q, .int a, .int b, .int c, .int d, .int e, .int f]) ∧ 0 ≤ e ∧ e < 2147483647 ∧ 0 ≤ f ∧ f < 2147483647 ∧ 
  ∀ d' e' f', 0 ≤ e' → e' < 2147483647 → 0 ≤ f' → f' < 2147483647 → Q .non (upd H S (.lst [.ref q, .int a, .int b, .int c, .int d', .int e', .int f']))
theorem ok_stir {k : Nat} {f : Addr} {fd : FuncData} (F : Fun K "_law_stir" "_law_stir" s_law_stir f fd) (T : Blt mg) : FnOk P w K mg base CX0 (k + 1) f fd ["store", "cell"] spStir := by
  refine F.ok sc_law_stir (fun vs H Q E h => ?_) (fun cdv A outer s H vs Q E hr h => ?_)
  · obtain ⟨S, n, q, a, b, c, d, e, f, rfl, _⟩ := h; rfl
  · obtain ⟨S, n, q, a, b, c, d, e, f', rfl, hs, h1, h2, h3, h4, h⟩ := h
    refine ⟨_, (pss_cons (ps_asg (pe_op op_add (pe_callTy call_int1 (by rfl) T.int (by decide +kernel) (pa_cons (pe_ix ix_list (pv 0) pe_int (fun _ _ => rfl)) pa_nil)) pe_int) (pg_sub (pv 0) pe_int set_list))
 (pss_cons (ps_set (i := 2) sc_law_stir.nd rfl (.inl rfl) (pe_op op_add (pe_op op_add (pe_op op_mul (pe_callTy call_int1 (by rfl) T.int (by decide +kernel) (pa_cons (pe_ix ix_list (pv 0) pe_int (fun _ _ => rfl)) pa_nil)) pe_int) (pe_op op_mod (pe_callTy call_int1 (by rfl) T.int (by decide +kernel) (pa_cons (pv 1) pa_nil)) pe_int)) (pe_callTy call_int1 (by rfl) T.int (by decide +kernel) (pa_cons (pe_ix ix_list (pv 0) pe_int (fun _ _ => rfl)) pa_nil))))
 (pss_cons (ps_asg (pe_op op_mod (pe_callTy call_int1 (by rfl) T.int (by decide +kernel) (pa_cons (pv 2) pa_nil)) pe_int) (pg_sub (pv 0) pe_int set_list))
 (pss_cons (ps_set (i := 3) sc_law_stir.nd rfl (.inl rfl) (pe_op op_add (pe_op op_add (pe_op op_add (pe_op op_mul (pe_callTy call_int1 (by rfl) T.int (by decide +kernel) (pa_cons (pe_ix ix_list (pv 0) pe_int (fun _ _ => rfl)) pa_nil)) pe_int) (pe_op op_mul (pe_callTy call_int1 (by rfl) T.int (by decide +kernel) (pa_cons (pe_ix ix_list (pv 0) pe_int (fun _ _ => rfl)) pa_nil)) pe_int)) (pe_op op_mod (pe_callTy call_int1 (by rfl) T.int (by decide +kernel) (pa_cons (pv 1) pa_nil)) pe_int)) (pe_callTy call_int1 (by rfl) T.int (by decide +kernel) (pa_cons (pe_ix ix_list (pv 0) pe_int (fun _ _ => rfl)) pa_nil))))
 (pss_one (ps_asg (pe_op op_mod (pe_callTy call_int1 (by rfl) T.int (by decide +kernel) (pa_cons (pv 3) pa_nil)) pe_int) (pg_sub (pv 0) pe_int set_list))))))), ?_⟩
    rw [← upd_id hs]
    walk_at "rdB"
    refine h _ _ _ ?_ ?_ ?_ ?_ <;> omega
end
abbrev s_law_take : Stmt := topS 26
theorem sc_law_take : FnScope ["store", "many", "cells", "cell", "rest"] ["store", "many"] (defScope s_law_take) := ⟨rfl, rfl, rfl, by decide +kernel, rfl, by decide +kernel, by decide +kernel⟩
section
variable {P : Program} {w : World} {K : PySem.W.Frag} {mg : Str → Option Value} {base : Heap}
/-! ### _law_take -/
def spTake : Sp := fun vs H Q _ => ∃ (S : Sto), ∃ m, vs = [.ref S.1, .int m] ∧ m < 2 ^ 200 ∧ StoreOk S H ∧ ∀ r H', 0 ≤ r → r < max 1 m → StoreOk S H' → ExS S H H' → Q (.int r) H'
theorem ok_take {k : Nat} {f : Addr} {fd : FuncData} (F : Fun K "_law_take" "_law_take" s_law_take f fd) (T : Blt mg) (H_law_stir : Has P w K mg base "_law_stir" k ["store", "cell"] spStir) : FnOk P w K mg base CX0 (k + 1) f fd ["store", "many"] spTake := by
  refine F.ok sc_law_take (fun vs H Q E h => ?_) (fun cdv A outer s H vs Q E hr h => ?_)
  · obtain ⟨S, m, rfl, _⟩ := h; rfl
  · obtain ⟨S, m, rfl, hm, hS, h⟩ := h
    refine ⟨_, (pss_cons (ps_set (i := 1) sc_law_take.nd rfl (.inl rfl) (pe_callB (call_max2 rfl) (by rfl) T.max (by decide +kernel) (pa_cons pe_int (pa_cons (pe_callTy call_int1 (by rfl) T.int (by decide +kernel) (pa_cons (pv 1) pa_nil)) pa_nil))))
 (pss_cons (ps_set (i := 2) sc_law_take.nd rfl (.inl rfl) (pe_ix ix_list (pv 0) pe_int (fun _ _ => rfl)))
 (C8.pss_cut (ps_if (PW.pt (pw_and (pt_cmpR op_eq (pe_callTy call_int1 (by rfl) T.int (by decide +kernel) (pa_cons (pe_ix ix_list (pv 0) pe_int (fun _ _ => rfl)) pa_nil)) pe_int (nomark _)) (pw_and (pt_cmpR op_eq (pe_callTy call_int1 (by rfl) T.int (by decide +kernel) (pa_cons (pe_ix ix_list (pv 0) pe_int (fun _ _ => rfl)) pa_nil)) pe_int (nomark _)) (pw_and1 (pt_cmpR op_lt (pe_callTy call_int1 (by rfl) T.int (by decide +kernel) (pa_cons (pe_ix ix_list (pv 0) pe_int (fun _ _ => rfl)) pa_nil)) (pe_callB call_len_seq (by rfl) T.len (by decide +kernel) (pa_cons (pv 2) pa_nil)) (nomark _)))))) (pss_cons (ps_set (i := 3) sc_law_take.nd rfl (.inl rfl) (pe_callTy call_int1 (by rfl) T.int (by decide +kernel) (pa_cons (pe_ix ix_list (pv 2) (pe_callTy call_int1 (by rfl) T.int (by decide +kernel) (pa_cons (pe_ix ix_list (pv 0) pe_int (fun _ _ => rfl)) pa_nil)) (fun _ _ => rfl)) pa_nil)))
 (pss_cons (ps_asg (pe_op op_add (pe_callTy call_int1 (by rfl) T.int (by decide +kernel) (pa_cons (pe_ix ix_list (pv 0) pe_int (fun _ _ => rfl)) pa_nil)) pe_int) (pg_sub (pv 0) pe_int set_list))
 (pss_cons (ps_asg pe_int (pg_sub (pv 0) pe_int set_list))
 (pss_cons (ps_expr (pe_callH H_law_stir hr (by rfl) (pa_cons (pv 0) (pa_cons (pv 3) pa_nil))))
 (pss_one (ps_if (pt_cmpR op_ge (pv 3) (pe_op op_pow pe_int pe_int) (nomark _)) (pss_cons (ps_asg (pv 3) (pg_sub (pv 0) pe_int set_list))
 (pss_one (ps_asg pe_int (pg_sub (pv 0) pe_int set_list)))) pss_nil)))))) pss_nil)
 (pss_cons (ps_set (i := 4) sc_law_take.nd rfl (.inl rfl) (pe_callTy call_int1 (by rfl) T.int (by decide +kernel) (pa_cons (pe_ix ix_list (pv 0) pe_int (fun _ _ => rfl)) pa_nil)))
 (pss_cons (ps_if (pt_cmpR op_gt (pv 4) pe_int (nomark _)) (pss_cons (ps_asg (pe_op op_fdivW (pv 4) (pv 1)) (pg_sub (pv 0) pe_int set_list))
 (pss_one (ps_ret (pe_op op_mod (pe_callTy call_int1 (by rfl) T.int (by decide +kernel) (pa_cons (pv 4) pa_nil)) (pv 1))))) pss_nil)
 (pss_cons (ps_expr (pe_callH H_law_stir hr (by rfl) (pa_cons (pv 0) (pa_cons pe_int pa_nil))))
 (pss_cons (ps_asg (pe_callB (call_max2 rfl) (by rfl) T.max (by decide +kernel) (pa_cons pe_int (pa_cons (pe_op op_sub (pe_callTy call_int1 (by rfl) T.int (by decide +kernel) (pa_cons (pe_ix ix_list (pv 0) pe_int (fun _ _ => rfl)) pa_nil)) pe_int) pa_nil))) (pg_sub (pv 0) pe_int set_list))
 (pss_one (ps_ret (pe_op op_mod (pe_callTy call_int1 (by rfl) T.int (by decide +kernel) (pa_cons (pe_op op_add (pe_op op_mul (pe_callTy call_int1 (by rfl) T.int (by decide +kernel) (pa_cons (pe_ix ix_list (pv 0) pe_int (fun _ _ => rfl)) pa_nil)) pe_int) (pe_callTy call_int1 (by rfl) T.int (by decide +kernel) (pa_cons (pe_ix ix_list (pv 0) pe_int (fun _ _ => rfl)) pa_nil))) pa_nil)) (pv 1))))))))))), ?_⟩
    obtain ⟨S, q⟩ := S
    obtain ⟨cells, a, b, c, d, e, f', nq, hs, hq, h0, h1, h2, h3, h4⟩ := hS
    dsimp only at nq hs hq ⊢
    rw [← upd_id hs]
    walk_at "rdB"
    obtain ⟨M, hM⟩ : ∃ M, M = (if m > 1 then m else 1) := ⟨_, rfl⟩
    rw [← hM]
    have hM1 : 1 ≤ M := by rw [hM]; split <;> omega
    have hM2 : M = max 1 m := by rw [hM]; split <;> omega
    have hM3 : M < 2 ^ 200 := by rw [hM]; split <;> omega
    clear hM
    refine rd_cut (fun σ' H' => ∃ a b c d e f y, σ' = [some (.ref S), some (.int M), some (.ref q), y, none] ∧ H' = upd H S (.lst [.ref q, .int a, .int b, .int c, .int d, .int e, .int f]) ∧ 0 ≤ a ∧ 0 ≤ e ∧ e < 2147483647 ∧ 0 ≤ f ∧ f < 2147483647) ?_ ?_
    · walk_at "rdB"
      refine if_dec (fun hb => ?_) (fun hb => ?_)
      · walk_at "rdB"
        refine if_dec (fun hc => ?_) (fun hc => ?_)
        · walk_at "rdB"
          refine rd_seqL (by rw [upd_ne nq]; exact hq) ?_
          walk_at "rdB"
          refine if_dec (fun hl => ?_) (fun hl => ?_)
          · obtain ⟨n, _, _, en⟩ := atI_ints h0 (by simpa using hl)
            walk_at "rdB"
            refine rd_ixL (by rw [upd_ne nq]; exact hq) en ?_
            walk_at "rdB"
            refine ⟨S, n, q, a + 1, b, 3, d, e, f', rfl, upd_same, h1, h2, h3, h4, fun d' e' f'' g1 g2 g3 g4 => ?_⟩
            rw [upd_upd]
            walk_at "rdB"
            refine if_dec (fun hn => ?_) (fun hn => ?_)
            · walk_at "rdB"
              exact ⟨_, _, _, _, _, _, _, rfl, rfl, by omega, g1, g2, g3, g4⟩
            · walk_at "rdB"
              exact ⟨_, _, _, _, _, _, _, rfl, rfl, by omega, g1, g2, g3, g4⟩
          · walk_at "rdB"
            exact ⟨_, _, _, _, _, _, _, rfl, rfl, h0, h1, h2, h3, h4⟩
        · walk_at "rdB"
          exact ⟨_, _, _, _, _, _, _, rfl, rfl, h0, h1, h2, h3, h4⟩
      · walk_at "rdB"
        exact ⟨_, _, _, _, _, _, _, rfl, rfl, h0, h1, h2, h3, h4⟩
    · rintro σ' H' ⟨a, b, c, d, e, f, y, rfl, rfl, h0, h1, h2, h3, h4⟩
      have fin : ∀ (r a b c d e f : Int), 0 ≤ r → r < M → 0 ≤ a → 0 ≤ e → e < 2147483647 → 0 ≤ f → f < 2147483647 → Q (.int r) (upd H S (.lst [.ref q, .int a, .int b, .int c, .int d, .int e, .int f])) := fun r a b c d e f r0 r1 h0 h1 h2 h3 h4 =>
        h r _ r0 (by omega) ⟨cells, a, b, c, d, e, f, nq, upd_same, by rw [upd_ne nq]; exact hq, h0, h1, h2, h3, h4⟩ (ExS.updS (S := (S, q)))
      walk_at "rdB"
      refine if_dec (fun hb => ?_) (fun hb => ?_)
      · walk_at "rdB"
        refine rd_I (wide_div (b := 200) (by omega) (by omega) (by omega) (by omega)) ?_
        walk_at "rdB"
        exact fin _ _ _ _ _ _ _ (Int.emod_nonneg _ (by omega)) (Int.emod_lt_of_pos _ (by omega)) h0 h1 h2 h3 h4
      · walk_at "rdB"
        refine ⟨S, 0, q, a, b, c, d, e, f, rfl, upd_same, h1, h2, h3, h4, fun d' e' f'' g1 g2 g3 g4 => ?_⟩
        rw [upd_upd]
        walk_at "rdB"
        exact fin _ _ _ _ _ _ _ (Int.emod_nonneg _ (by omega)) (Int.emod_lt_of_pos _ (by omega)) h0 g1 g2 g3 g4
end
abbrev s_law_pick : Stmt := topS 27
theorem sc_law_pick : FnScope ["store", "items"] ["store", "items"] (defScope s_law_pick) := ⟨rfl, rfl, rfl, by decide +kernel, rfl, by decide +kernel, by decide +kernel⟩
section
variable {P : Program} {w : World} {K : PySem.W.Frag} {mg : Str → Option Value} {base : Heap}
/-! ### _law_pick: of a list, of a text -/
def spPick : Sp := fun vs H Q _ => ∃ (S : Sto), ∃ x, vs = [.ref S.1, x] ∧ StoreOk S H ∧
  ((∃ a xs, x = .ref a ∧ At S H a (.lst xs) ∧ 0 < xs.length ∧ xs.length < 1000000 ∧ ∀ v H', v ∈ xs → StoreOk S H' → ExS S H H' → Q v H') ∨
   (∃ z : Str, x = .str z ∧ 0 < z.length ∧ z.length < 100000 ∧ ∀ c H', c ∈ z.cps.toList → StoreOk S H' → ExS S H H' → Q (.str ⟨#[c]⟩) H'))
theorem ok_pick {k : Nat} {f : Addr} {fd : FuncData} (F : Fun K "_law_pick" "_law_pick" s_law_pick f fd) (T : Blt mg) (H_law_take : Has P w K mg base "_law_take" k ["store", "many"] spTake) : FnOk P w K mg base CX0 (k + 1) f fd ["store", "items"] spPick := by
  refine F.ok sc_law_pick (fun vs H Q E h => ?_) (fun cdv A outer s H vs Q E hr h => ?_)
  · obtain ⟨S, x, rfl, _⟩ := h; rfl
  · obtain ⟨S, x, rfl, hS, h⟩ := h
    refine ⟨_, (pss_one (ps_ret (pe_ix ix_seq (pv 1) (pe_callH H_law_take hr (by rfl) (pa_cons (pv 0) (pa_cons (pe_callB (call_len_seq.or call_len_str) (by rfl) T.len (by decide +kernel) (pa_cons (pv 1) pa_nil)) pa_nil))) (fun _ _ => rfl)))), ?_⟩
    rcases h with ⟨a, xs, rfl, hA, l0, l1, h⟩ | ⟨z, rfl, l0, l1, h⟩
    · walk_at "rdB"
      refine .inl (rd_seqL hA.2 ?_)
      walk_at "rdB"
      refine ⟨S, _, rfl, by omega, hS, fun r H' r0 r1 hS' he => ?_⟩
      obtain ⟨hb, e⟩ := atI_get (xs := xs) (i := r) r0 (by omega)
      exact .inl (rd_ixL (he _ _ hA.1 hA.2) e (h _ _ (List.getElem_mem hb) hS' he))
    · walk_at "rdB"
      refine .inr ⟨z, rfl, sz (by omega), ?_⟩
      walk_at "rdB"
      refine ⟨S, _, rfl, by omega, hS, fun r H' r0 r1 hS' he => ?_⟩
      obtain ⟨c, hc, _, e⟩ := atI_nats (l := z.cps.toList) (i := r) r0 (by rw [len_l]; omega)
      exact .inr (.inr (rd_ixS (by omega) e (h _ _ hc hS' he)))
end
abbrev s_law_shuffled : Stmt := topS 28
theorem sc_law_shuffled : FnScope ["store", "items", "mixed", "k", "j", "held"] ["store", "items"] (defScope s_law_shuffled) := ⟨rfl, rfl, rfl, by decide +kernel, rfl, by decide +kernel, by decide +kernel⟩
section
variable {P : Program} {w : World} {K : PySem.W.Frag} {mg : Str → Option Value} {base : Heap}
/-! ### _law_shuffled -/
def spShuffled : Sp := fun vs H Q _ => ∃ (S : Sto), ∃ a xs, vs = [.ref S.1, .ref a] ∧ StoreOk S H ∧ At S H a (.lst xs) ∧ xs.length < 1000000 ∧ ∀ p ys H', ys.Perm xs → H p = none → At S H' p (.lst ys) → StoreOk S H' → ExS S H H' → Q (.ref p) H'
theorem ok_shuffled {k : Nat} {f : Addr} {fd : FuncData} (F : Fun K "_law_shuffled" "_law_shuffled" s_law_shuffled f fd) (T : Blt mg) (H_law_take : Has P w K mg base "_law_take" k ["store", "many"] spTake) : FnOk P w K mg base CX0 (k + 1) f fd ["store", "items"] spShuffled := by
  refine F.ok sc_law_shuffled (fun vs H Q E h => ?_) (fun cdv A outer s H vs Q E hr h => ?_)
  · obtain ⟨S, a, xs, rfl, _⟩ := h; rfl
  · obtain ⟨S, a, xs, rfl, hS, hA, l1, h⟩ := h
    refine ⟨_, (pss_cons (ps_set (i := 2) sc_law_shuffled.nd rfl (.inl rfl) (pe_callTy call_list_of (by rfl) T.list' (by decide +kernel) (pa_cons (pv 1) pa_nil)))
 (pss_cons (ps_for PassesOwn.never rfl (pi_range1 rfl T.range (pa_cons (pe_callB call_len_seq (by rfl) T.len (by decide +kernel) (pa_cons (pv 2) pa_nil)) pa_nil)) (pg_name (i := 3) sc_law_shuffled.nd rfl (.inl rfl)) (pss_cons (ps_set (i := 4) sc_law_shuffled.nd rfl (.inl rfl) (pe_op op_add (pv 3) (pe_callH H_law_take hr (by rfl) (pa_cons (pv 0) (pa_cons (pe_op op_sub (pe_callB call_len_seq (by rfl) T.len (by decide +kernel) (pa_cons (pv 2) pa_nil)) (pv 3)) pa_nil)))))
 (pss_cons (ps_set (i := 5) sc_law_shuffled.nd rfl (.inl rfl) (pe_ix ix_list (pv 2) (pv 3) (fun _ _ => rfl)))
 (pss_cons (ps_asg (pe_ix ix_list (pv 2) (pv 4) (fun _ _ => rfl)) (pg_sub (pv 2) (pv 3) set_list))
 (pss_one (ps_asg (pv 5) (pg_sub (pv 2) (pv 4) set_list)))))))
 (pss_one (ps_ret (pv 2))))), ?_⟩
    walk_at "rdB"
    refine rd_seqL hA.2 fun p np => ?_
    walk_at "rdB"
    refine rd_seqL upd_same ?_
    walk_at "rdB"
    have pS : p ≠ S.1 := hS.ne1 np
    have pS2 : p ≠ S.2 := hS.ne2 np
    refine ⟨by omega, by omega, for_rng (fun i σ H' => ∃ ys y3 y4 y5, σ = [some (.ref S.1), some (.ref a), some (.ref p), y3, y4, y5] ∧ ys.Perm xs ∧ H' p = some (.lst ys) ∧ StoreOk S H' ∧ ExS S H H') ⟨xs, _, _, _, rfl, .refl _, upd_same, hS.new np, .new np⟩ ?_ ?_⟩
    · rintro i σ H' hi ⟨ys, y3, y4, y5, rfl, hp, eH, hS', hE⟩
      have hl : ys.length = xs.length := hp.length_eq
      have hi' : i < xs.length := by simpa using hi
      walk_at "rdB"
      refine rd_seqL eH ?_
      walk_at "rdB"
      refine ⟨S, _, rfl, by omega, hS', fun r H2 r0 r1 hS2 hE2 => ?_⟩
      have eH2 := hE2 _ _ pS eH
      walk_at "rdB"
      obtain ⟨hb, e⟩ := atI_get (xs := ys) (i := (i : Int)) (by omega) (by omega)
      refine rd_ixL eH2 e ?_
      walk_at "rdB"
      obtain ⟨hb2, e2⟩ := atI_get (xs := ys) (i := (i : Int) + r) (by omega) (by omega)
      refine rd_ixL eH2 e2 ?_
      walk_at "rdB"
      refine rd_setL eH2 (ixN_nat (by omega) (by omega)) ?_
      walk_at "rdB"
      refine rd_setL upd_same (ixN_nat (by omega) (by rw [List.length_set]; omega)) ?_
      rw [upd_upd]
      walk_at "rdB"
      refine ⟨_, _, _, _, rfl, (swap_perm hb hb2).trans hp, upd_same, store_upd hS2 pS pS2, (hE.trans hE2).mut np⟩
    · rintro σ H' ⟨ys, y3, y4, y5, rfl, hp, eH, hS', hE⟩
      walk_at "rdB"
      exact h p ys H' hp np ⟨pS, eH⟩ hS' hE
end

local macro_rules | `(tactic| walk_at "sideA") => `(tactic| first | assumption | exact Z.sl_of (by assumption) | exact upd_same | (show (0 : Int) < _; omega) | exact Or.inl ⟨by omega, by omega⟩ | exact Or.inr ⟨by omega, by omega⟩)
local macro_rules | `(tactic| walk_at "tyofA") => `(tactic| first | exact TyOf.int _ | exact TyOf.bl _ | exact TyOf.non | exact TyOf.str _ | (apply TyOf.lst; assumption) | (apply TyOf.tup; assumption))
local macro_rules | `(tactic| walk_at "rd1A") => `(tactic| first
  | with_reducible first
    | refine rd_seq ?_ | refine rd_asg ?_ | refine rd_c ?_ | refine rd_op ?_ | refine rd_cons ?_ | refine rd_nil ?_ | refine rd_cb ?_ | refine rd_call ?_ | refine rd_I0 ?_ | refine rd_eqI ?_ | refine rd_bx ?_ | refine rd_nn ?_ | refine rd_int1 ?_ | refine rd_max2 ?_ | refine rd_min2 ?_
    | refine rd_ret ?_ | refine rd_ifS ?_ | refine rd_test ?_ | refine rd_tB ?_ | refine rd_not ?_ | refine rd_and ?_ | refine rd_or ?_ | refine rd_un ?_ | refine rd_U ?_ | refine rd_next ?_ | refine rd_drop ?_ | refine rd_andV ?_ | refine rd_orV ?_ | refine rd_notV ?_ | refine rd_if ?_ | refine rd_neI ?_
    | refine rd_lst ?_ | refine rd_tup ?_ | refine rd_sl ?_ | refine rd_bm ?_ | refine rd_chain ?_ | refine rd_asgS ?_ | refine iteT ?_ | refine iteF ?_ | refine if_nn ?_ | refine if_nf ?_ | refine if_nt ?_ | refine if_nnN ?_ | refine if_n_int ?_ | refine if_n_bl ?_ | refine if_n_str ?_ | refine if_n_ref ?_ | refine if_nN_int ?_ | refine if_nN_bl ?_ | refine if_nN_str ?_ | refine if_nN_ref ?_ | refine rd_eqB ?_ | refine rd_eqS ?_ | refine rd_neB ?_ | refine rd_part ?_ | refine rd_nopart ?_ | refine rd_for ?_ | refine rd_iRng1 ?_ | refine rd_iList ?_ | refine rd_iTup ?_ | refine rd_lc ?_ | refine rd_callS ?_ | refine rd_callKS ?_ | refine rd_mkO ?_ | refine rd_ckw ?_ | refine rd_xf ?_
    | refine rd_p9 ?_ | refine rd_p11 ?_ | refine rd_p12 ?_ | refine rd_p13 ?_ | refine rd_p18 ?_ | refine rd_p30 ?_ | refine rd_p40 ?_
  | ((with_reducible refine rd_var (v := ?v) ?hv ?_); (case hv => exact rfl))
  | ((with_reducible refine rd_setS (j := ?j) ?he ?_); (case he => exact rfl))
  | ((with_reducible refine rd_isi (a := ?a) (b := ?b) ?ty ?k ?_); (case ty => first | exact TyOf.int _ | exact TyOf.bl _ | exact TyOf.non | exact TyOf.str _); (case k => with_reducible first | exact kb_int_int | exact kb_int_bool | exact kb_int_str | exact kb_int_dict | exact kb_int_list | exact kb_int_tuple | exact kb_bool_int | exact kb_bool_bool | exact kb_bool_str | exact kb_bool_dict | exact kb_bool_list | exact kb_bool_tuple | exact kb_NoneType_int | exact kb_NoneType_bool | exact kb_NoneType_str | exact kb_NoneType_dict | exact kb_NoneType_list | exact kb_NoneType_tuple | exact kb_str_int | exact kb_str_bool | exact kb_str_str | exact kb_str_dict | exact kb_str_list | exact kb_str_tuple))
  | ((with_reducible refine rd_isiL (b := ?b) (by assumption) ?k ?_); (case k => with_reducible first | exact kb_list_int | exact kb_list_bool | exact kb_list_str | exact kb_list_dict | exact kb_list_list | exact kb_list_tuple))
  | ((with_reducible refine rd_isiT (b := ?b) (by assumption) ?k ?_); (case k => with_reducible first | exact kb_tuple_int | exact kb_tuple_bool | exact kb_tuple_str | exact kb_tuple_dict | exact kb_tuple_list | exact kb_tuple_tuple))
  | ((with_reducible refine rd_I ?hc ?_); (case hc => walk_at "sideA"))
  | ((with_reducible refine rd_ixL (xs := ?xs) (v := ?v) ?hh ?he ?_); (case hh => first | exact upd_same | assumption); (case he => exact rfl)))
local macro_rules | `(tactic| walk_at "rdA") => `(tactic| repeat walk_at "rd1A")


abbrev s_law_number : Stmt := topS 29
theorem sc_law_number : FnScope ["store", "kind"] ["store"] (defScope s_law_number) := ⟨rfl, rfl, rfl, by decide +kernel, rfl, by decide +kernel, by decide +kernel⟩
section
variable {P : Program} {w : World} {K : PySem.W.Frag} {mg : Str → Option Value} {base : Heap}
/-! ### _law_number -/
def spNumber : Sp := fun vs H Q _ => ∃ S : Sto, vs = [.ref S.1] ∧ StoreOk S H ∧ ∀ n H', InR n → StoreOk S H' → ExS S H H' → Q (.int n) H'
theorem ok_number {k : Nat} {f : Addr} {fd : FuncData} (F : Fun K "_law_number" "_law_number" s_law_number f fd) (T : Blt mg) (H_law_take : Has P w K mg base "_law_take" k ["store", "many"] spTake) (H_law_pick : Has P w K mg base "_law_pick" k ["store", "items"] spPick) : FnOk P w K mg base CX0 (k + 1) f fd ["store"] spNumber := by
  refine F.ok sc_law_number (fun vs H Q E h => ?_) (fun cdv A outer s H vs Q E hr h => ?_)
  · obtain ⟨S, rfl, _⟩ := h; rfl
  · obtain ⟨S, rfl, hS, h⟩ := h
    refine ⟨_, (pss_cons (ps_set (i := 1) sc_law_number.nd rfl (.inl rfl) (pe_callH H_law_take hr (by rfl) (pa_cons (pv 0) (pa_cons pe_int pa_nil))))
 (pss_cons (ps_if (pt_cmpR op_eq (pv 1) pe_int (nomark _)) (pss_one (ps_ret (pe_op op_sub (pe_callH H_law_take hr (by rfl) (pa_cons (pv 0) (pa_cons pe_int pa_nil))) pe_int))) pss_nil)
 (pss_cons (ps_if (pt_cmpR op_eq (pv 1) pe_int (nomark _)) (pss_one (ps_ret (pe_callH H_law_pick hr (by rfl) (pa_cons (pv 0) (pa_cons (pe_lst (pa_cons pe_int (pa_cons pe_int (pa_cons (pe_un un_neg pe_int) (pa_cons (pe_op op_pow pe_int pe_int) (pa_cons (pe_un un_neg (pe_op op_pow pe_int pe_int)) (pa_cons (pe_op op_sub (pe_op op_pow pe_int pe_int) pe_int) (pa_cons (pe_op op_sub pe_int (pe_op op_pow pe_int pe_int)) (pa_cons pe_int pa_nil))))))))) pa_nil))))) pss_nil)
 (pss_one (ps_ret (pe_op op_sub (pe_callH H_law_take hr (by rfl) (pa_cons (pv 0) (pa_cons (pe_op op_add (pe_op op_mul pe_int (pe_op op_pow pe_int pe_int)) pe_int) pa_nil))) (pe_op op_pow pe_int pe_int))))))), ?_⟩
    walk_at "rdA"
    refine ⟨S, 3, rfl, by omega, hS, fun r H1 r0 r1 hS1 e1 => ?_⟩
    walk_at "rdA"
    refine if_dec (fun hk => ?_) (fun hk => ?_)
    · walk_at "rdA"
      refine ⟨S, 19, rfl, by omega, hS1, fun r2 H2 _ _ hS2 e2 => ?_⟩
      walk_at "rdA"
      exact h _ _ ⟨by omega, by omega⟩ hS2 (e1.trans e2)
    · walk_at "rdA"
      refine if_dec (fun hk => ?_) (fun hk => ?_)
      · walk_at "rdA"
        refine ⟨sz (by simp), fun p np => ?_⟩
        walk_at "rdA"
        refine ⟨S, _, rfl, hS1.new np, .inl ⟨p, _, rfl, .new hS1 np, by simp, by simp, fun v H2 hv hS2 e2 => ?_⟩⟩
        have e3 := e1.trans ((ExS.new np).trans e2)
        simp only [List.mem_cons, List.not_mem_nil, or_false] at hv
        rcases hv with rfl | rfl | rfl | rfl | rfl | rfl | rfl | rfl <;> exact h _ _ ⟨by omega, by omega⟩ hS2 e3
      · walk_at "rdA"
        refine ⟨S, _, rfl, by omega, hS1, fun r2 H2 _ _ hS2 e2 => ?_⟩
        walk_at "rdA"
        exact h _ _ ⟨by omega, by omega⟩ hS2 (e1.trans e2)
end
abbrev s_law_clamped : Stmt := topS 30
theorem sc_law_clamped : FnScope ["number"] ["number"] (defScope s_law_clamped) := ⟨rfl, rfl, rfl, by decide +kernel, rfl, by decide +kernel, by decide +kernel⟩
section
variable {P : Program} {w : World} {K : PySem.W.Frag} {mg : Str → Option Value} {base : Heap}
/-! ### _law_clamped -/
def spClamped : Sp := fun vs H Q _ => ∃ n, vs = [.int n] ∧ ∀ m, InR m → (InR n → m = n) → Q (.int m) H
theorem ok_clamped {k : Nat} {f : Addr} {fd : FuncData} (F : Fun K "_law_clamped" "_law_clamped" s_law_clamped f fd) (T : Blt mg) : FnOk P w K mg base CX0 (k + 1) f fd ["number"] spClamped := by
  refine F.ok sc_law_clamped (fun vs H Q E h => ?_) (fun cdv A outer s H vs Q E hr h => ?_)
  · obtain ⟨n, rfl, _⟩ := h; rfl
  · obtain ⟨n, rfl, h⟩ := h
    refine ⟨_, (pss_one (ps_ret (pe_callB (call_max2 rfl) (by rfl) T.max (by decide +kernel) (pa_cons (pe_un un_neg (pe_op op_pow pe_int pe_int)) (pa_cons (pe_callB (call_min2 rfl) (by rfl) T.min (by decide +kernel) (pa_cons (pe_op op_pow pe_int pe_int) (pa_cons (pv 0) pa_nil))) pa_nil))))), ?_⟩
    walk_at "rdA"
    refine h _ ?_ (fun hn => ?_)
    · unfold InR; split <;> split <;> omega
    · unfold InR at hn; split <;> split <;> omega
end
abbrev s_law_pool : Stmt := topS 31
theorem sc_law_pool : FnScope ["store", "many", "kind", "ends", "start", "step", "numbers", "k"] ["store"] (defScope s_law_pool) := ⟨rfl, rfl, rfl, by decide +kernel, rfl, by decide +kernel, by decide +kernel⟩
section
variable {P : Program} {w : World} {K : PySem.W.Frag} {mg : Str → Option Value} {base : Heap}
/-! ### _law_pool -/
def spPool : Sp := fun vs H Q _ => ∃ S : Sto, vs = [.ref S.1] ∧ StoreOk S H ∧ ∀ p, ∀ ns : List Int, ∀ H', (∀ n ∈ ns, InR n) → 2 ≤ ns.length → ns.length ≤ 6 → At S H' p (.lst (ns.map V.int)) → StoreOk S H' → ExS S H H' → Q (.ref p) H'
theorem ok_pool {k : Nat} {f : Addr} {fd : FuncData} (F : Fun K "_law_pool" "_law_pool" s_law_pool f fd) (T : Blt mg) (H_law_take : Has P w K mg base "_law_take" k ["store", "many"] spTake) (H_law_shuffled : Has P w K mg base "_law_shuffled" k ["store", "items"] spShuffled) : FnOk P w K mg base CX0 (k + 1) f fd ["store"] spPool := by
  refine F.ok sc_law_pool (fun vs H Q E h => ?_) (fun cdv A outer s H vs Q E hr h => ?_)
  · obtain ⟨S, rfl, _⟩ := h; rfl
  · obtain ⟨S, rfl, hS, h⟩ := h
    refine ⟨_, (pss_cons (ps_set (i := 1) sc_law_pool.nd rfl (.inl rfl) (pe_op op_add pe_int (pe_callH H_law_take hr (by rfl) (pa_cons (pv 0) (pa_cons pe_int pa_nil)))))
 (pss_cons (ps_set (i := 2) sc_law_pool.nd rfl (.inl rfl) (pe_callH H_law_take hr (by rfl) (pa_cons (pv 0) (pa_cons pe_int pa_nil))))
 (pss_cons (ps_if (pt_cmpR op_eq (pv 2) pe_int (nomark _)) (pss_cons (ps_set (i := 3) sc_law_pool.nd rfl (.inl rfl) (pe_lst (pa_cons (pe_un un_neg (pe_op op_pow pe_int pe_int)) (pa_cons (pe_op op_sub pe_int (pe_op op_pow pe_int pe_int)) (pa_cons (pe_un un_neg pe_int) (pa_cons pe_int (pa_cons (pe_op op_sub (pe_op op_pow pe_int pe_int) pe_int) (pa_cons (pe_op op_pow pe_int pe_int) pa_nil))))))))
 (pss_one (ps_ret (pe_callB cr_sortedI (by rfl) T.sorted (by decide +kernel) (pa_cons (pe_slice sl_list (pe_callH H_law_shuffled hr (by rfl) (pa_cons (pv 0) (pa_cons (pv 3) pa_nil))) po_none (po_some (pv 1))) pa_nil))))) pss_nil)
 (pss_cons (ps_set (i := 4) sc_law_pool.nd rfl (.inl rfl) (pe_op op_sub (pe_callH H_law_take hr (by rfl) (pa_cons (pv 0) (pa_cons pe_int pa_nil))) pe_int))
 (pss_cons (ps_set (i := 5) sc_law_pool.nd rfl (.inl rfl) pe_int)
 (C8.pss_cut (ps_if (pt_cmpR op_eq (pv 2) pe_int (nomark _)) (pss_cons (ps_set (i := 4) sc_law_pool.nd rfl (.inl rfl) (pe_op op_sub (pe_callH H_law_take hr (by rfl) (pa_cons (pv 0) (pa_cons pe_int pa_nil))) pe_int))
 (pss_one (ps_set (i := 5) sc_law_pool.nd rfl (.inl rfl) pe_int))) pss_nil)
 (C8.pss_cut (ps_if (pt_cmpR op_eq (pv 2) pe_int (nomark _)) (pss_cons (ps_set (i := 4) sc_law_pool.nd rfl (.inl rfl) (pe_op op_sub (pe_callH H_law_take hr (by rfl) (pa_cons (pv 0) (pa_cons (pe_op op_pow pe_int pe_int) pa_nil))) (pe_op op_pow pe_int pe_int)))
 (pss_one (ps_set (i := 5) sc_law_pool.nd rfl (.inl rfl) (pe_op op_mul pe_int (pe_op op_pow pe_int pe_int))))) pss_nil)
 (pss_cons (ps_set (i := 6) sc_law_pool.nd rfl (.inl rfl) (pe_lst (pa_cons (pv 4) pa_nil)))
 (pss_cons (ps_for PassesOwn.never rfl (pi_range1 rfl T.range (pa_cons (pe_op op_sub (pv 1) pe_int) pa_nil)) (pg_name (i := 7) sc_law_pool.nd rfl (.inl rfl)) (pss_one (ps_expr (pe_bm PySem.F.plainAttrs_list PySem.F.slot_list_append PySem.F.type_list_append mt_append (pv 6) (pa_cons (pe_op op_add (pe_op op_add (pe_ix ix_list (pv 6) (pv 7) (fun _ _ => rfl)) pe_int) (pe_callH H_law_take hr (by rfl) (pa_cons (pv 0) (pa_cons (pv 5) pa_nil)))) pa_nil)))))
 (pss_one (ps_ret (pv 6)))))))))))), ?_⟩
    walk_at "rdA"
    refine ⟨S, 5, rfl, by omega, hS, fun m H1 m0 m1 hS1 e1 => ?_⟩
    walk_at "rdA"
    refine ⟨S, 4, rfl, by omega, hS1, fun kd H2 k0 k1 hS2 e2 => ?_⟩
    have e2 := e1.trans e2
    walk_at "rdA"
    refine if_dec (fun hk => ?_) (fun hk => ?_)
    · walk_at "rdA"
      refine ⟨sz (by simp), fun p np => ?_⟩
      walk_at "rdA"
      refine ⟨S, p, _, rfl, hS2.new np, .new hS2 np, by simp, fun p2 ys H3 hp _ hA3 hS3 e3 => ?_⟩
      walk_at "rdA"
      refine ⟨_, rfl, p2, ys, rfl, sl_of hA3.2, fun p3 np3 => ?_⟩
      walk_at "rdA"
      obtain ⟨M, hM⟩ : ∃ M : Nat, (M : Int) = 2 + m := ⟨(2 + m).toNat, by omega⟩
      obtain ⟨ms, em, hm⟩ := ints_of (ns := [-1000000000000, 1 - 1000000000000, -1, 0, 1000000000000 - 1, 1000000000000]) (ys := ys.take M) (fun y hy => by
        have := hp.mem_iff.mp (List.mem_of_mem_take hy)
        simpa using this)
      have l6 : ys.length = 6 := by rw [hp.length_eq]; rfl
      have lm : ms.length = M := by
        have := congrArg List.length em
        rw [List.length_take, List.length_map, l6] at this
        omega
      rw [← hM, cut_to, em]
      refine ⟨p3, ms, rfl, sl_of upd_same, fun ns' p4 hp4 _ np4 => ?_⟩
      have hS4 := (hS3.new (o := .lst (ms.map V.int)) np3)
      refine h p4 ns' _ (fun n hn => ?_) (by rw [hp4.length_eq]; omega) (by rw [hp4.length_eq]; omega) (.new hS4 np4) (hS4.new np4) (((e2.trans (.new np)).trans e3).trans ((ExS.new np3).trans (.new np4)))
      have := hm n (hp4.mem_iff.mp hn)
      simp only [List.mem_cons, List.not_mem_nil, or_false] at this
      unfold InR
      omega
    · walk_at "rdA"
      refine ⟨S, 5, rfl, by omega, hS2, fun s0 H3 s00 s01 hS3 e3 => ?_⟩
      have e3 := e2.trans e3
      walk_at "rdA"
      refine rd_cut (fun σ' H' => ∃ s0 st : Int, σ' = [some (.ref S.1), some (.int (2 + m)), some (.int kd), none, some (.int s0), some (.int st), none, none] ∧ -1000000000000 ≤ s0 ∧ 1 ≤ st ∧ st ≤ 300000000000 ∧ s0 + 5 * st ≤ 1000000000000 ∧ StoreOk S H' ∧ ExS S H H') ?_ ?_
      · walk_at "rdA"
        refine if_dec (fun hk => ?_) (fun hk => ?_)
        · walk_at "rdA"
          refine ⟨S, 100, rfl, by omega, hS3, fun s1 H4 s10 s11 hS4 e4 => ?_⟩
          walk_at "rdA"
          exact ⟨_, _, rfl, by omega, by omega, by omega, by omega, hS4, e3.trans e4⟩
        · walk_at "rdA"
          exact ⟨_, _, rfl, by omega, by omega, by omega, by omega, hS3, e3⟩
      · rintro σ' H4 ⟨s0, st, rfl, a0, a1, a2, a3, hS4, e4⟩
        refine rd_cut (fun σ' H' => ∃ s0 st : Int, σ' = [some (.ref S.1), some (.int (2 + m)), some (.int kd), none, some (.int s0), some (.int st), none, none] ∧ -1000000000000 ≤ s0 ∧ 1 ≤ st ∧ st ≤ 300000000000 ∧ s0 + 5 * st ≤ 1000000000000 ∧ StoreOk S H' ∧ ExS S H H') ?_ ?_
        · walk_at "rdA"
          refine if_dec (fun hk => ?_) (fun hk => ?_)
          · walk_at "rdA"
            refine ⟨S, _, rfl, by omega, hS4, fun s1 H5 s10 s11 hS5 e5 => ?_⟩
            walk_at "rdA"
            exact ⟨_, _, rfl, by omega, by omega, by omega, by omega, hS5, e4.trans e5⟩
          · walk_at "rdA"
            exact ⟨_, _, rfl, a0, a1, a2, a3, hS4, e4⟩
        · rintro σ' H5 ⟨s0, st, rfl, a0, a1, a2, a3, hS5, e5⟩
          walk_at "rdA"
          refine ⟨sz (by simp), fun p np => ?_⟩
          have pS := hS5.ne1 np
          have pS2 := hS5.ne2 np
          walk_at "rdA"
          refine ⟨_, rfl, by omega, by omega, for_rng (fun i σ H' => ∃ ms : List Int, ∃ y, σ = [some (.ref S.1), some (.int (2 + m)), some (.int kd), none, some (.int s0), some (.int st), some (.ref p), y] ∧ ms.length = i + 1 ∧ (∀ n ∈ ms, -1000000000000 ≤ n ∧ n ≤ s0 + i * st) ∧ H' p = some (.lst (ms.map V.int)) ∧ StoreOk S H' ∧ ExS S H5 H') ⟨[s0], _, rfl, rfl, by simp; omega, upd_same, hS5.new np, .new np⟩ ?_ ?_⟩
          · rintro i σ H6 hi ⟨ms, y, rfl, hl, hb, eH, hS6, e6⟩
            walk_at "rdA"
            obtain ⟨n, hn, _, en⟩ := atI_ints (xs := ms) (i := (i : Int)) (by omega) (by omega)
            refine ⟨.inl ⟨rfl, _, .inl (.inl eH)⟩, ?_⟩
            walk_at "rdA"
            refine rd_ixL eH en ?_
            walk_at "rdA"
            refine ⟨S, _, rfl, by omega, hS6, fun r H7 r0 r1 hS7 e7 => ?_⟩
            walk_at "rdA"
            have eH7 := e7 _ _ pS eH
            have hn' := hb n hn
            refine ⟨p, _, _, rfl, rfl, eH7, ?_, ?_⟩
            · rw [List.length_map]; exact Nat.lt_of_lt_of_le (by omega : ms.length < 100000) (by decide)
            · walk_at "rdA"
              have em : ((i + 1 : Nat) : Int) * st = i * st + st := by rw [Int.natCast_add, Int.add_mul]; simp
              have e0 : 0 ≤ (i : Int) * st := Int.mul_nonneg (by omega) (by omega)
              refine ⟨ms ++ [n + 1 + r], _, rfl, by rw [List.length_append, hl]; rfl, ?_, ?_, store_upd hS7 pS pS2, (e6.trans e7).mut np⟩
              · intro x hx
                rcases List.mem_append.mp hx with h1 | h1
                · have := hb x h1; omega
                · have := List.mem_singleton.mp h1; omega
              · rw [upd_same, List.map_append]; rfl
          · rintro σ H6 ⟨ms, y, rfl, hl, hb, eH, hS6, e6⟩
            walk_at "rdA"
            have e7 : ((2 + m - 1).toNat : Int) * st ≤ 5 * st := Int.mul_le_mul_of_nonneg_right (by omega) (by omega)
            exact h p ms H6 (fun n hn => by have := hb n hn; exact ⟨by omega, by omega⟩) (by omega) (by omega) ⟨pS, eH⟩ hS6 (e5.trans e6)
end
abbrev s_law_near : Stmt := topS 32
theorem sc_law_near : FnScope ["store", "pool"] ["store", "pool"] (defScope s_law_near) := ⟨rfl, rfl, rfl, by decide +kernel, rfl, by decide +kernel, by decide +kernel⟩
section
variable {P : Program} {w : World} {K : PySem.W.Frag} {mg : Str → Option Value} {base : Heap}
/-! ### _law_near -/
def spNear : Sp := fun vs H Q _ => ∃ S : Sto, ∃ p, ∃ ns : List Int, vs = [.ref S.1, .ref p] ∧ StoreOk S H ∧ At S H p (.lst (ns.map V.int)) ∧ 0 < ns.length ∧ ns.length < 1000 ∧ ∀ n H', InR n → StoreOk S H' → ExS S H H' → Q (.int n) H'
theorem ok_near {k : Nat} {f : Addr} {fd : FuncData} (F : Fun K "_law_near" "_law_near" s_law_near f fd) (T : Blt mg) (H_law_take : Has P w K mg base "_law_take" k ["store", "many"] spTake) (H_law_pick : Has P w K mg base "_law_pick" k ["store", "items"] spPick)
    (H_law_clamped : Has P w K mg base "_law_clamped" k ["number"] spClamped) : FnOk P w K mg base CX0 (k + 1) f fd ["store", "pool"] spNear := by
  refine F.ok sc_law_near (fun vs H Q E h => ?_) (fun cdv A outer s H vs Q E hr h => ?_)
  · obtain ⟨S, p, ns, rfl, _⟩ := h; rfl
  · obtain ⟨S, p, ns, rfl, hS, hA, l0, l1, h⟩ := h
    refine ⟨_, (pss_one (ps_ret (pe_callH H_law_clamped hr (by rfl) (pa_cons (pe_op op_add (pe_callH H_law_pick hr (by rfl) (pa_cons (pv 0) (pa_cons (pv 1) pa_nil))) (pe_ix ix_list (pe_lst (pa_cons pe_int (pa_cons pe_int (pa_cons pe_int (pa_cons (pe_un un_neg pe_int) pa_nil))))) (pe_callH H_law_take hr (by rfl) (pa_cons (pv 0) (pa_cons pe_int pa_nil))) (fun _ _ => rfl))) pa_nil)))), ?_⟩
    walk_at "rdA"
    refine ⟨S, _, rfl, hS, .inl ⟨p, _, rfl, hA, by simpa using l0, by rw [List.length_map]; omega, fun v H1 hv hS1 e1 => ?_⟩⟩
    obtain ⟨n, hn, rfl⟩ := List.mem_map.mp hv
    walk_at "rdA"
    refine ⟨sz (by simp), fun q nq => ?_⟩
    walk_at "rdA"
    refine ⟨S, 4, rfl, by omega, hS1.new nq, fun r H2 r0 r1 hS2 e2 => ?_⟩
    have hq := e2 _ _ (hS1.ne1 nq) upd_same
    have e3 := e1.trans ((ExS.new nq).trans e2)
    obtain ⟨hb, en⟩ := atI_get (xs := [V.int 0, .int 0, .int 1, .int (-1)]) (i := r) r0 (by simp; omega)
    refine rd_ixL hq en ?_
    obtain ⟨d, hd⟩ : ∃ d, [V.int 0, .int 0, .int 1, .int (-1)][r.toNat] = .int d := by
      have : r.toNat = 0 ∨ r.toNat = 1 ∨ r.toNat = 2 ∨ r.toNat = 3 := by omega
      rcases this with e | e | e | e <;> simp only [e] <;> exact ⟨_, rfl⟩
    rw [hd]
    walk_at "rdA"
    refine ⟨_, rfl, fun m hm _ => ?_⟩
    exact h m H2 hm hS2 e3
end
abbrev s_law_bad_number : Stmt := topS 33
theorem sc_law_bad_number : FnScope ["store", "keyed", "far", "kind"] ["store", "keyed"] (defScope s_law_bad_number) := ⟨rfl, rfl, rfl, by decide +kernel, rfl, by decide +kernel, by decide +kernel⟩
section
variable {P : Program} {w : World} {K : PySem.W.Frag} {mg : Str → Option Value} {base : Heap}
/-! ### _law_bad_number -/
def spBadNum : Sp := fun vs H Q _ => ∃ S : Sto, ∃ kd, vs = [.ref S.1, .bl kd] ∧ StoreOk S H ∧ ∀ v H', Bad v → (kd = true → ∃ n, v = .int n) → StoreOk S H' → ExS S H H' → Q v H'
theorem ok_bad_number {k : Nat} {f : Addr} {fd : FuncData} (F : Fun K "_law_bad_number" "_law_bad_number" s_law_bad_number f fd) (T : Blt mg) (H_law_take : Has P w K mg base "_law_take" k ["store", "many"] spTake) (H_law_pick : Has P w K mg base "_law_pick" k ["store", "items"] spPick) : FnOk P w K mg base CX0 (k + 1) f fd ["store", "keyed"] spBadNum := by
  refine F.ok sc_law_bad_number (fun vs H Q E h => ?_) (fun cdv A outer s H vs Q E hr h => ?_)
  · obtain ⟨S, kd, rfl, _⟩ := h; rfl
  · obtain ⟨S, kd, rfl, hS, h⟩ := h
    refine ⟨_, (pss_cons (ps_set (i := 2) sc_law_bad_number.nd rfl (.inl rfl) (pe_lst (pa_cons (pe_op op_add (pe_op op_pow pe_int pe_int) pe_int) (pa_cons (pe_op op_sub (pe_un un_neg (pe_op op_pow pe_int pe_int)) pe_int) (pa_cons (pe_op op_pow pe_int pe_int) (pa_cons (pe_un un_neg (pe_op op_pow pe_int pe_int)) (pa_cons (pe_op op_add (pe_op op_add (pe_op op_pow pe_int pe_int) pe_int) (pe_callH H_law_take hr (by rfl) (pa_cons (pv 0) (pa_cons (pe_op op_pow pe_int pe_int) pa_nil)))) pa_nil)))))))
 (pss_cons (ps_set (i := 3) sc_law_bad_number.nd rfl (.inl rfl) (pe_callH H_law_take hr (by rfl) (pa_cons (pv 0) (pa_cons pe_int pa_nil))))
 (pss_cons (ps_if (PW.pt (pw_or (pt_val (pv 1)) (pw_or1 (pt_cmpR op_eq (pv 3) pe_int (nomark _))))) (pss_one (ps_ret (pe_callH H_law_pick hr (by rfl) (pa_cons (pv 0) (pa_cons (pv 2) pa_nil))))) pss_nil)
 (pss_one (ps_ret (pe_cmpR op_eq (pv 3) pe_int (nomark _))))))), ?_⟩
    walk_at "rdA"
    refine ⟨S, _, rfl, by omega, hS, fun r H1 r0 r1 hS1 e1 => ?_⟩
    walk_at "rdA"
    refine ⟨sz (by simp), fun p np => ?_⟩
    walk_at "rdA"
    refine ⟨S, 3, rfl, by omega, hS1.new np, fun c H2 c0 c1 hS2 e2 => ?_⟩
    have hp := e2 _ _ (hS1.ne1 np) upd_same
    have e3 := e1.trans ((ExS.new np).trans e2)
    have go : ∀ v H', v ∈ [V.int (1000000000000 + 1), .int (-1000000000000 - 1), .int 10000000000000, .int (-1000000000000000000000000000000), .int (1000000000000 + 1 + r)] → StoreOk S H' → ExS S H2 H' → Q v H' := fun v H' hv hS' e' => by
      have : ∃ n, v = .int n ∧ ¬ InR n := by
        simp only [List.mem_cons, List.not_mem_nil, or_false] at hv
        rcases hv with rfl | rfl | rfl | rfl | rfl <;> exact ⟨_, rfl, by unfold InR; omega⟩
      obtain ⟨n, rfl, hn⟩ := this
      exact h _ _ (.inr ⟨n, rfl, hn⟩) (fun _ => ⟨n, rfl⟩) hS' (e3.trans e')
    walk_at "rdA"
    refine if_bool (fun hk => ?_) (fun hk => ?_)
    · walk_at "rdA"
      exact ⟨S, _, rfl, hS2, .inl ⟨p, _, rfl, ⟨hS1.ne1 np, hp⟩, by simp, by simp, go⟩⟩
    · walk_at "rdA"
      refine if_dec (fun hc => ?_) (fun hc => ?_)
      · walk_at "rdA"
        exact ⟨S, _, rfl, hS2, .inl ⟨p, _, rfl, ⟨hS1.ne1 np, hp⟩, by simp, by simp, go⟩⟩
      · walk_at "rdA"
        exact h _ _ (.inl ⟨_, rfl⟩) (fun e => by rw [e] at hk; cases hk) hS2 e3
end
abbrev s_law_is_number : Stmt := topS 36
theorem sc_law_is_number : FnScope ["value"] ["value"] (defScope s_law_is_number) := ⟨rfl, rfl, rfl, by decide +kernel, rfl, by decide +kernel, by decide +kernel⟩
section
variable {P : Program} {w : World} {K : PySem.W.Frag} {mg : Str → Option Value} {base : Heap}
/-! ### _law_is_number -/
def spIsNum : Sp := fun vs H Q _ => ∃ v, vs = [v] ∧ Sc v ∧ Q (.bl (isNum v)) H
theorem ok_is_number {k : Nat} {f : Addr} {fd : FuncData} (F : Fun K "_law_is_number" "_law_is_number" s_law_is_number f fd) (T : Blt mg) : FnOk P w K mg base CX0 (k + 1) f fd ["value"] spIsNum := by
  refine F.ok sc_law_is_number (fun vs H Q E h => ?_) (fun cdv A outer s H vs Q E hr h => ?_)
  · obtain ⟨v, rfl, _⟩ := h; rfl
  · obtain ⟨v, rfl, hv, h⟩ := h
    refine ⟨_, (pss_one (ps_ret (pe_and (pe_callB call_isi (by rfl) T.isinstance (by decide +kernel) (pa_cons (pv 0) (pa_cons (pe_bltn (v := .ty "int") rfl T.int (by decide +kernel) rfl) pa_nil))) (pe_and (pe_not (pe_callB call_isi (by rfl) T.isinstance (by decide +kernel) (pa_cons (pv 0) (pa_cons (pe_bltn (v := .ty "bool") rfl T.bool (by decide +kernel) rfl) pa_nil)))) (pe_one (pe_chain op_le op_le (pe_un un_neg (pe_op op_pow pe_int pe_int)) (pv 0) (pe_op op_pow pe_int pe_int))))))), ?_⟩
    cases v <;> first | exact hv.elim | skip
    · walk_at "rdA"; exact h
    · walk_at "rdA"; exact h
    · rename_i n
      walk_at "rdA"
      have hh : ∀ b : Bool, b = isNum (.int n) → Q (.bl b) H := fun b e => by rw [e]; exact h
      refine if_dec (fun h1 => ?_) (fun h1 => ?_)
      · walk_at "rdA"
        refine hh _ ?_
        unfold isNum InR; simp [h1]
      · refine hh _ ?_
        unfold isNum InR; simp [h1]
    · walk_at "rdA"; exact h
end
abbrev s_law_sign : Stmt := topS 35
theorem sc_law_sign : FnScope ["store", "signs"] ["store"] (defScope s_law_sign) := ⟨rfl, rfl, rfl, by decide +kernel, rfl, by decide +kernel, by decide +kernel⟩
section
variable {P : Program} {w : World} {K : PySem.W.Frag} {mg : Str → Option Value} {base : Heap}
/-! ### _law_sign -/
def spSign : Sp := fun vs H Q _ => ∃ S : Sto, vs = [.ref S.1] ∧ StoreOk S H ∧ ∀ c H', c < 128 → StoreOk S H' → ExS S H H' → Q (.str ⟨#[c]⟩) H'
theorem ok_sign {k : Nat} {f : Addr} {fd : FuncData} (F : Fun K "_law_sign" "_law_sign" s_law_sign f fd) (T : Blt mg) (H_law_pick : Has P w K mg base "_law_pick" k ["store", "items"] spPick) : FnOk P w K mg base CX0 (k + 1) f fd ["store"] spSign := by
  refine F.ok sc_law_sign (fun vs H Q E h => ?_) (fun cdv A outer s H vs Q E hr h => ?_)
  · obtain ⟨S, rfl, _⟩ := h; rfl
  · obtain ⟨S, rfl, hS, h⟩ := h
    refine ⟨_, (pss_cons (ps_set (i := 1) sc_law_sign.nd rfl (.inl rfl) pe_str)
 (pss_one (ps_ret (pe_callH H_law_pick hr (by rfl) (pa_cons (pv 0) (pa_cons (pe_op op_add_str (pv 1) pe_str) pa_nil)))))), ?_⟩
    walk_at "rdB"
    refine ⟨by decide +kernel, S, _, rfl, hS, .inr ⟨_, rfl, by decide +kernel, by decide +kernel, fun c H1 hc hS1 e1 => ?_⟩⟩
    exact h c H1 ((okS_iff.mp (show OkS 100 _ from by decide +kernel)).2 c hc) hS1 e1
end


abbrev s_law_match : Stmt := topS 41
theorem sc_law_match : FnScope ["left", "right", "strict", "k"] ["left", "right", "strict"] (defScope s_law_match) := ⟨rfl, rfl, rfl, by decide +kernel, rfl, by decide +kernel, by decide +kernel⟩
abbrev s_law_same : Stmt := topS 43
theorem sc_law_same : FnScope ["actual", "expected"] ["actual", "expected"] (defScope s_law_same) := ⟨rfl, rfl, rfl, by decide +kernel, rfl, by decide +kernel, by decide +kernel⟩
section
variable {P : Program} {w : World} {K : PySem.W.Frag} {mg : Str → Option Value} {base : Heap}
/-! ### _law_match, _law_same -/
def spMatch (n : Nat) : Sp := fun vs H Q _ => ∃ x y st, vs = [x, y, .bl st] ∧ ((Sc x ∧ Sc y ∧ ∀ H', Same H H' → Q (.bl (decide (x = y))) H') ∨ (Alike H n x y ∧ ∀ H', Same H H' → Q (.bl true) H'))
theorem ok_match0 {k : Nat} {f : Addr} {fd : FuncData} (F : Fun K "_law_match" "_law_match" s_law_match f fd) (T : Blt mg) : FnOk P w K mg base CX0 (k + 1) f fd ["left", "right", "strict"] (spMatch 0) := by
  refine F.ok sc_law_match (fun vs H Q E h => ?_) (fun cdv A outer s H vs Q E hr h => ?_)
  · obtain ⟨x, y, st, rfl, _⟩ := h; rfl
  · obtain ⟨x, y, st, rfl, h⟩ := h
    have h : Sc x ∧ Sc y ∧ ∀ H', Same H H' → Q (.bl (decide (x = y))) H' := by
      rcases h with h | ⟨⟨h1, rfl⟩, h⟩
      · exact h
      · exact ⟨h1, h1, fun H' e => by rw [decide_eq_true rfl]; exact h H' e⟩
    refine ⟨_, (pss_cons (ps_if (PW.pt (pw_or (pt_cmpR op_isN (pv 0) pe_non (nomark _)) (pw_or1 (pt_cmpR op_isN (pv 1) pe_non (nomark _))))) (pss_one (ps_ret (pe_and (pe_cmpR op_isN (pv 0) pe_non (nomark _)) (pe_one (pe_cmpR op_isN (pv 1) pe_non (nomark _)))))) pss_nil)
 (pss_cons (ps_if (PW.pt (pw_or (pt_val (pe_callB call_isi (by rfl) T.isinstance (by decide +kernel) (pa_cons (pv 0) (pa_cons (pe_bltn (v := .ty "bool") rfl T.bool (by decide +kernel) rfl) pa_nil)))) (pw_or1 (pt_val (pe_callB call_isi (by rfl) T.isinstance (by decide +kernel) (pa_cons (pv 1) (pa_cons (pe_bltn (v := .ty "bool") rfl T.bool (by decide +kernel) rfl) pa_nil))))))) (pss_one (ps_ret (pe_and (pe_callB call_isi (by rfl) T.isinstance (by decide +kernel) (pa_cons (pv 0) (pa_cons (pe_bltn (v := .ty "bool") rfl T.bool (by decide +kernel) rfl) pa_nil))) (pe_and (pe_callB call_isi (by rfl) T.isinstance (by decide +kernel) (pa_cons (pv 1) (pa_cons (pe_bltn (v := .ty "bool") rfl T.bool (by decide +kernel) rfl) pa_nil))) (pe_one (pe_cmpR op_eq (pv 0) (pv 1) (nomark _))))))) pss_nil)
 (pss_cons (ps_if (PW.pt (pw_or (pt_val (pe_callB call_isi (by rfl) T.isinstance (by decide +kernel) (pa_cons (pv 0) (pa_cons (pe_bltn (v := .ty "int") rfl T.int (by decide +kernel) rfl) pa_nil)))) (pw_or1 (pt_val (pe_callB call_isi (by rfl) T.isinstance (by decide +kernel) (pa_cons (pv 1) (pa_cons (pe_bltn (v := .ty "int") rfl T.int (by decide +kernel) rfl) pa_nil))))))) (pss_one (ps_ret (pe_and (pe_callB call_isi (by rfl) T.isinstance (by decide +kernel) (pa_cons (pv 0) (pa_cons (pe_bltn (v := .ty "int") rfl T.int (by decide +kernel) rfl) pa_nil))) (pe_and (pe_callB call_isi (by rfl) T.isinstance (by decide +kernel) (pa_cons (pv 1) (pa_cons (pe_bltn (v := .ty "int") rfl T.int (by decide +kernel) rfl) pa_nil))) (pe_one (pe_cmpR op_eq (pv 0) (pv 1) (nomark _))))))) pss_nil)
 (pss_cons (ps_if (PW.pt (pw_or (pt_val (pe_callB call_isi (by rfl) T.isinstance (by decide +kernel) (pa_cons (pv 0) (pa_cons (pe_bltn (v := .ty "str") rfl T.str (by decide +kernel) rfl) pa_nil)))) (pw_or1 (pt_val (pe_callB call_isi (by rfl) T.isinstance (by decide +kernel) (pa_cons (pv 1) (pa_cons (pe_bltn (v := .ty "str") rfl T.str (by decide +kernel) rfl) pa_nil))))))) (pss_one (ps_ret (pe_and (pe_callB call_isi (by rfl) T.isinstance (by decide +kernel) (pa_cons (pv 0) (pa_cons (pe_bltn (v := .ty "str") rfl T.str (by decide +kernel) rfl) pa_nil))) (pe_and (pe_callB call_isi (by rfl) T.isinstance (by decide +kernel) (pa_cons (pv 1) (pa_cons (pe_bltn (v := .ty "str") rfl T.str (by decide +kernel) rfl) pa_nil))) (pe_one (pe_cmpR op_eq (pv 0) (pv 1) (nomark _))))))) pss_nil)
 (pss_cons (ps_if (PW.pt (pw_or (pt_val (pe_callB call_isi (by rfl) T.isinstance (by decide +kernel) (pa_cons (pv 0) (pa_cons (pe_bltn (v := .ty "dict") rfl T.dict (by decide +kernel) rfl) pa_nil)))) (pw_or1 (pt_val (pe_callB call_isi (by rfl) T.isinstance (by decide +kernel) (pa_cons (pv 1) (pa_cons (pe_bltn (v := .ty "dict") rfl T.dict (by decide +kernel) rfl) pa_nil))))))) (pss_one ps_never) pss_nil)
 (pss_cons (ps_if (PW.pt (pw_or (pt_not (pt_val (pe_callB call_isiT (by rfl) T.isinstance (by decide +kernel) (pa_cons (pv 0) (pa_cons (pe_tup (pa_cons (pe_bltn (v := .ty "list") rfl T.list' (by decide +kernel) rfl) (pa_cons (pe_bltn (v := .ty "tuple") rfl T.tuple (by decide +kernel) rfl) pa_nil))) pa_nil))))) (pw_or1 (pt_not (pt_val (pe_callB call_isiT (by rfl) T.isinstance (by decide +kernel) (pa_cons (pv 1) (pa_cons (pe_tup (pa_cons (pe_bltn (v := .ty "list") rfl T.list' (by decide +kernel) rfl) (pa_cons (pe_bltn (v := .ty "tuple") rfl T.tuple (by decide +kernel) rfl) pa_nil))) pa_nil)))))))) (pss_one (ps_ret pe_bl)) pss_nil)
 (pss_cons (ps_if (PW.pt (pw_or (pt_cmpR op_ne (pe_callB call_len_seq (by rfl) T.len (by decide +kernel) (pa_cons (pv 0) pa_nil)) (pe_callB call_len_seq (by rfl) T.len (by decide +kernel) (pa_cons (pv 1) pa_nil)) (nomark _)) (pw_or1 (PW.pt (pw_and (pt_val (pv 2)) (pw_and1 (pt_cmpR op_ne (pe_callB call_isi (by rfl) T.isinstance (by decide +kernel) (pa_cons (pv 0) (pa_cons (pe_bltn (v := .ty "list") rfl T.list' (by decide +kernel) rfl) pa_nil))) (pe_callB call_isi (by rfl) T.isinstance (by decide +kernel) (pa_cons (pv 1) (pa_cons (pe_bltn (v := .ty "list") rfl T.list' (by decide +kernel) rfl) pa_nil))) (nomark _)))))))) (pss_one (ps_ret pe_bl)) pss_nil)
 (pss_cons ps_never
 (pss_one (ps_ret pe_bl)))))))))), ?_⟩
    obtain ⟨hx, hy, h⟩ := h
    have h := h H (Same.refl H)
    cases x <;> first | exact hx.elim | skip
    all_goals cases y <;> first | exact hy.elim | skip
    all_goals walk_at "rdB"
    all_goals first | exact h | (have e := h; simp at e ⊢; exact e)
theorem ok_matchS {n : Nat} {k : Nat} {f : Addr} {fd : FuncData} (F : Fun K "_law_match" "_law_match" s_law_match f fd) (T : Blt mg) (H_law_match : Has P w K mg base "_law_match" k ["left", "right", "strict"] (spMatch n)) : FnOk P w K mg base CX0 (k + 1) f fd ["left", "right", "strict"] (spMatch (n + 1)) := by
  refine F.ok sc_law_match (fun vs H Q E h => ?_) (fun cdv A outer s H vs Q E hr h => ?_)
  · obtain ⟨x, y, st, rfl, _⟩ := h; rfl
  · obtain ⟨x, y, st, rfl, h⟩ := h
    have h : (Sc x ∧ Sc y ∧ ∀ H', Same H H' → Q (.bl (decide (x = y))) H') ∨ ((∃ (a b : Addr) (xs ys : List V), x = .ref a ∧ y = .ref b ∧ ((H a = some (.lst xs) ∧ H b = some (.lst ys)) ∨ (H a = some (.tup xs) ∧ H b = some (.tup ys))) ∧ xs.length = ys.length ∧ xs.length ≤ 100000 ∧ ∀ (i : Nat) (u v : V), xs[i]? = some u → ys[i]? = some v → Alike H n u v) ∧ ∀ H', Same H H' → Q (.bl true) H') := by
      rcases h with h | ⟨⟨h1, rfl⟩ | h1, h⟩
      · exact .inl h
      · exact .inl ⟨h1, h1, fun H' e => by rw [decide_eq_true rfl]; exact h H' e⟩
      · exact .inr ⟨h1, h⟩
    refine ⟨_, (pss_cons (ps_if (PW.pt (pw_or (pt_cmpR op_isN (pv 0) pe_non (nomark _)) (pw_or1 (pt_cmpR op_isN (pv 1) pe_non (nomark _))))) (pss_one (ps_ret (pe_and (pe_cmpR op_isN (pv 0) pe_non (nomark _)) (pe_one (pe_cmpR op_isN (pv 1) pe_non (nomark _)))))) pss_nil)
 (pss_cons (ps_if (PW.pt (pw_or (pt_val (pe_callB call_isi (by rfl) T.isinstance (by decide +kernel) (pa_cons (pv 0) (pa_cons (pe_bltn (v := .ty "bool") rfl T.bool (by decide +kernel) rfl) pa_nil)))) (pw_or1 (pt_val (pe_callB call_isi (by rfl) T.isinstance (by decide +kernel) (pa_cons (pv 1) (pa_cons (pe_bltn (v := .ty "bool") rfl T.bool (by decide +kernel) rfl) pa_nil))))))) (pss_one (ps_ret (pe_and (pe_callB call_isi (by rfl) T.isinstance (by decide +kernel) (pa_cons (pv 0) (pa_cons (pe_bltn (v := .ty "bool") rfl T.bool (by decide +kernel) rfl) pa_nil))) (pe_and (pe_callB call_isi (by rfl) T.isinstance (by decide +kernel) (pa_cons (pv 1) (pa_cons (pe_bltn (v := .ty "bool") rfl T.bool (by decide +kernel) rfl) pa_nil))) (pe_one (pe_cmpR op_eq (pv 0) (pv 1) (nomark _))))))) pss_nil)
 (pss_cons (ps_if (PW.pt (pw_or (pt_val (pe_callB call_isi (by rfl) T.isinstance (by decide +kernel) (pa_cons (pv 0) (pa_cons (pe_bltn (v := .ty "int") rfl T.int (by decide +kernel) rfl) pa_nil)))) (pw_or1 (pt_val (pe_callB call_isi (by rfl) T.isinstance (by decide +kernel) (pa_cons (pv 1) (pa_cons (pe_bltn (v := .ty "int") rfl T.int (by decide +kernel) rfl) pa_nil))))))) (pss_one (ps_ret (pe_and (pe_callB call_isi (by rfl) T.isinstance (by decide +kernel) (pa_cons (pv 0) (pa_cons (pe_bltn (v := .ty "int") rfl T.int (by decide +kernel) rfl) pa_nil))) (pe_and (pe_callB call_isi (by rfl) T.isinstance (by decide +kernel) (pa_cons (pv 1) (pa_cons (pe_bltn (v := .ty "int") rfl T.int (by decide +kernel) rfl) pa_nil))) (pe_one (pe_cmpR op_eq (pv 0) (pv 1) (nomark _))))))) pss_nil)
 (pss_cons (ps_if (PW.pt (pw_or (pt_val (pe_callB call_isi (by rfl) T.isinstance (by decide +kernel) (pa_cons (pv 0) (pa_cons (pe_bltn (v := .ty "str") rfl T.str (by decide +kernel) rfl) pa_nil)))) (pw_or1 (pt_val (pe_callB call_isi (by rfl) T.isinstance (by decide +kernel) (pa_cons (pv 1) (pa_cons (pe_bltn (v := .ty "str") rfl T.str (by decide +kernel) rfl) pa_nil))))))) (pss_one (ps_ret (pe_and (pe_callB call_isi (by rfl) T.isinstance (by decide +kernel) (pa_cons (pv 0) (pa_cons (pe_bltn (v := .ty "str") rfl T.str (by decide +kernel) rfl) pa_nil))) (pe_and (pe_callB call_isi (by rfl) T.isinstance (by decide +kernel) (pa_cons (pv 1) (pa_cons (pe_bltn (v := .ty "str") rfl T.str (by decide +kernel) rfl) pa_nil))) (pe_one (pe_cmpR op_eq (pv 0) (pv 1) (nomark _))))))) pss_nil)
 (pss_cons (ps_if (PW.pt (pw_or (pt_val (pe_callB call_isi (by rfl) T.isinstance (by decide +kernel) (pa_cons (pv 0) (pa_cons (pe_bltn (v := .ty "dict") rfl T.dict (by decide +kernel) rfl) pa_nil)))) (pw_or1 (pt_val (pe_callB call_isi (by rfl) T.isinstance (by decide +kernel) (pa_cons (pv 1) (pa_cons (pe_bltn (v := .ty "dict") rfl T.dict (by decide +kernel) rfl) pa_nil))))))) (pss_one ps_never) pss_nil)
 (pss_cons (ps_if (PW.pt (pw_or (pt_not (pt_val (pe_callB call_isiT (by rfl) T.isinstance (by decide +kernel) (pa_cons (pv 0) (pa_cons (pe_tup (pa_cons (pe_bltn (v := .ty "list") rfl T.list' (by decide +kernel) rfl) (pa_cons (pe_bltn (v := .ty "tuple") rfl T.tuple (by decide +kernel) rfl) pa_nil))) pa_nil))))) (pw_or1 (pt_not (pt_val (pe_callB call_isiT (by rfl) T.isinstance (by decide +kernel) (pa_cons (pv 1) (pa_cons (pe_tup (pa_cons (pe_bltn (v := .ty "list") rfl T.list' (by decide +kernel) rfl) (pa_cons (pe_bltn (v := .ty "tuple") rfl T.tuple (by decide +kernel) rfl) pa_nil))) pa_nil)))))))) (pss_one (ps_ret pe_bl)) pss_nil)
 (C8.pss_cut (ps_if (PW.pt (pw_or (pt_cmpR op_ne (pe_callB call_len_seq (by rfl) T.len (by decide +kernel) (pa_cons (pv 0) pa_nil)) (pe_callB call_len_seq (by rfl) T.len (by decide +kernel) (pa_cons (pv 1) pa_nil)) (nomark _)) (pw_or1 (PW.pt (pw_and (pt_val (pv 2)) (pw_and1 (pt_cmpR op_ne (pe_callB call_isi (by rfl) T.isinstance (by decide +kernel) (pa_cons (pv 0) (pa_cons (pe_bltn (v := .ty "list") rfl T.list' (by decide +kernel) rfl) pa_nil))) (pe_callB call_isi (by rfl) T.isinstance (by decide +kernel) (pa_cons (pv 1) (pa_cons (pe_bltn (v := .ty "list") rfl T.list' (by decide +kernel) rfl) pa_nil))) (nomark _)))))))) (pss_one (ps_ret pe_bl)) pss_nil)
 (pss_cons (ps_for PassesOwn.never rfl (pi_range1 rfl T.range (pa_cons (pe_callB call_len_seq (by rfl) T.len (by decide +kernel) (pa_cons (pv 0) pa_nil)) pa_nil)) (pg_name (i := 3) sc_law_match.nd rfl (.inl rfl)) (pss_one (ps_if (pt_not (pt_val (pe_callH H_law_match hr (by rfl) (pa_cons (pe_ix ix_seq (pv 0) (pv 3) (fun _ _ => rfl)) (pa_cons (pe_ix ix_seq (pv 1) (pv 3) (fun _ _ => rfl)) (pa_cons (pv 2) pa_nil)))))) (pss_one (ps_ret pe_bl)) pss_nil)))
 (pss_one (ps_ret pe_bl)))))))))), ?_⟩
    rcases h with ⟨hx, hy, h⟩ | ⟨⟨a, b, xs, ys, rfl, rfl, hab, hl, h100, hi⟩, hq⟩
    · have h := h H (Same.refl H)
      cases x <;> first | exact hx.elim | skip
      all_goals cases y <;> first | exact hy.elim | skip
      all_goals walk_at "rdB"
      all_goals first | exact h | (have e := h; simp at e ⊢; exact e)
    · rcases hab with ⟨ha, hb⟩ | ⟨ha, hb⟩
      · walk_at "rdB"
        refine ⟨sz (by simp), fun p np => ?_⟩
        walk_at "rdB"
        have ha1 := same_new (o := .tup [V.ty "list", V.ty "tuple"]) np _ _ ha
        have hb1 := same_new (o := .tup [V.ty "list", V.ty "tuple"]) np _ _ hb
        refine rd_isiLT upd_same (.lst ha1) ka_list ?_
        walk_at "rdB"
        refine ⟨sz (by simp), fun p2 np2 => ?_⟩
        walk_at "rdB"
        have s2 := (same_new (o := .tup [V.ty "list", V.ty "tuple"]) np).trans (same_new (o := .tup [V.ty "list", V.ty "tuple"]) np2)
        have ha2 := s2 _ _ ha
        have hb2 := s2 _ _ hb
        refine rd_isiLT upd_same (.lst hb2) ka_list ?_
        walk_at "rdB"
        refine rd_cut (fun σ' H' => σ' = [some (.ref a), some (.ref b), some (.bl st), none] ∧ Same H H') ?_ ?_
        · walk_at "rdB"
          refine rd_seqL ha2 ?_
          walk_at "rdB"
          refine rd_seqL hb2 ?_
          walk_at "rdB"
          refine if_ndec (fun hne => absurd (by rw [hl]) hne) (fun _ => ?_)
          walk_at "rdB"
          refine if_bool (fun hst => ?_) (fun hst => ?_)
          · walk_at "rdB"
            first | rw [decTF] | rw [show decide (false = false) = true from rfl]
            walk_at "rdB"
            exact ⟨rfl, s2⟩
          · walk_at "rdB"
            exact ⟨rfl, s2⟩
        · rintro σ' H3 ⟨rfl, s3⟩
          have ha3 := s3 _ _ ha
          have hb3 := s3 _ _ hb
          walk_at "rdB"
          refine rd_seqL ha3 ?_
          walk_at "rdB"
          refine ⟨by omega, ?_, for_rng (fun i σ H' => ∃ y, σ = [some (.ref a), some (.ref b), some (.bl st), y] ∧ Same H H') ⟨none, rfl, s3⟩ ?_ ?_⟩
          · omega
          · rintro i σ H4 hi4 ⟨y, rfl, s4⟩
            have ha4 := s4 _ _ ha
            have hb4 := s4 _ _ hb
            obtain ⟨c1, e1⟩ := atI_get (xs := xs) (i := (i : Int)) (by omega) (by omega)
            obtain ⟨c2, e2⟩ := atI_get (xs := ys) (i := (i : Int)) (by omega) (by omega)
            walk_at "rdB"
            refine rd_ixQL ha4 e1 ?_
            walk_at "rdB"
            refine rd_ixQL hb4 e2 ?_
            walk_at "rdB"
            refine ⟨_, _, _, rfl, .inr ⟨(hi i _ _ (by simp) (by simp)).same s4, fun H5 s5 => ?_⟩⟩
            walk_at "rdB"
            exact ⟨_, rfl, s4.trans s5⟩
          · rintro σ H4 ⟨y, rfl, s4⟩
            walk_at "rdB"
            exact hq H4 s4
      · walk_at "rdB"
        refine ⟨sz (by simp), fun p np => ?_⟩
        walk_at "rdB"
        have ha1 := same_new (o := .tup [V.ty "list", V.ty "tuple"]) np _ _ ha
        have hb1 := same_new (o := .tup [V.ty "list", V.ty "tuple"]) np _ _ hb
        refine rd_isiLT upd_same (.tup ha1) ka_tuple ?_
        walk_at "rdB"
        refine ⟨sz (by simp), fun p2 np2 => ?_⟩
        walk_at "rdB"
        have s2 := (same_new (o := .tup [V.ty "list", V.ty "tuple"]) np).trans (same_new (o := .tup [V.ty "list", V.ty "tuple"]) np2)
        have ha2 := s2 _ _ ha
        have hb2 := s2 _ _ hb
        refine rd_isiLT upd_same (.tup hb2) ka_tuple ?_
        walk_at "rdB"
        refine rd_cut (fun σ' H' => σ' = [some (.ref a), some (.ref b), some (.bl st), none] ∧ Same H H') ?_ ?_
        · walk_at "rdB"
          refine rd_seqT ha2 ?_
          walk_at "rdB"
          refine rd_seqT hb2 ?_
          walk_at "rdB"
          refine if_ndec (fun hne => absurd (by rw [hl]) hne) (fun _ => ?_)
          walk_at "rdB"
          refine if_bool (fun hst => ?_) (fun hst => ?_)
          · walk_at "rdB"
            first | rw [decTF] | rw [show decide (false = false) = true from rfl]
            walk_at "rdB"
            exact ⟨rfl, s2⟩
          · walk_at "rdB"
            exact ⟨rfl, s2⟩
        · rintro σ' H3 ⟨rfl, s3⟩
          have ha3 := s3 _ _ ha
          have hb3 := s3 _ _ hb
          walk_at "rdB"
          refine rd_seqT ha3 ?_
          walk_at "rdB"
          refine ⟨by omega, ?_, for_rng (fun i σ H' => ∃ y, σ = [some (.ref a), some (.ref b), some (.bl st), y] ∧ Same H H') ⟨none, rfl, s3⟩ ?_ ?_⟩
          · omega
          · rintro i σ H4 hi4 ⟨y, rfl, s4⟩
            have ha4 := s4 _ _ ha
            have hb4 := s4 _ _ hb
            obtain ⟨c1, e1⟩ := atI_get (xs := xs) (i := (i : Int)) (by omega) (by omega)
            obtain ⟨c2, e2⟩ := atI_get (xs := ys) (i := (i : Int)) (by omega) (by omega)
            walk_at "rdB"
            refine rd_ixQT ha4 e1 ?_
            walk_at "rdB"
            refine rd_ixQT hb4 e2 ?_
            walk_at "rdB"
            refine ⟨_, _, _, rfl, .inr ⟨(hi i _ _ (by simp) (by simp)).same s4, fun H5 s5 => ?_⟩⟩
            walk_at "rdB"
            exact ⟨_, rfl, s4.trans s5⟩
          · rintro σ H4 ⟨y, rfl, s4⟩
            walk_at "rdB"
            exact hq H4 s4
def spSame (n : Nat) : Sp := fun vs H Q _ => ∃ x y, vs = [x, y] ∧ ((Sc x ∧ Sc y ∧ ∀ H', Same H H' → Q (.bl (decide (x = y))) H') ∨ (Alike H n x y ∧ ∀ H', Same H H' → Q (.bl true) H'))
theorem ok_same {n : Nat} {k : Nat} {f : Addr} {fd : FuncData} (F : Fun K "_law_same" "_law_same" s_law_same f fd) (T : Blt mg) (H_law_match : Has P w K mg base "_law_match" k ["left", "right", "strict"] (spMatch n)) : FnOk P w K mg base CX0 (k + 1) f fd ["actual", "expected"] (spSame n) := by
  refine F.ok sc_law_same (fun vs H Q E h => ?_) (fun cdv A outer s H vs Q E hr h => ?_)
  · obtain ⟨x, y, rfl, _⟩ := h; rfl
  · obtain ⟨x, y, rfl, h⟩ := h
    refine ⟨_, (pss_one (ps_ret (pe_callH H_law_match hr (by rfl) (pa_cons (pv 0) (pa_cons (pv 1) (pa_cons pe_bl pa_nil)))))), ?_⟩
    walk_at "rdB"
    exact ⟨_, _, _, rfl, h⟩
end



def isOpen : V → Bool
  | .non => true
  | v => isNum v
def under : V → V → Bool
  | _, .non => true
  | .int l, .int c => decide (l ≤ c)
  | _, _ => false
def ofV : V → List Int
  | .int i => [i]
  | _ => []
def lowC : V → V → V
  | .int i, .int j => .int (if j < i then j else i)
  | .non, y => y
  | x, _ => x
def NI (v : V) : Prop := v = .non ∨ ∃ i, v = .int i
def crossed : V → V → Bool
  | .int i, .int j => decide (j < i)
  | _, _ => false
def grC : V → V → V
  | .int i, .int j => .int (if i < j then j else i)
  | .non, y => y
  | x, _ => x
abbrev sBadNumber___init__ : Stmt := inClass (topS 4) 0
theorem scBadNumber___init__ : FnScope ["self", "number"] ["self", "number"] (defScope sBadNumber___init__) := ⟨rfl, rfl, rfl, by decide +kernel, rfl, by decide +kernel, by decide +kernel⟩
section
variable {P : Program} {w : World} {K : PySem.W.Frag} {mg : Str → Option Value} {base : Heap} {C : Addr}
/-! ### the error -/
theorem ok_BadNumber_init {k : Nat} {f : Addr} {fd : FuncData} (F : Fun K "__init__" "BadNumber.__init__" sBadNumber___init__ f fd) : FnOk P w K mg base CX0 (k + 1) f fd ["self", "number"] (spInit1 K "number") := by
  refine F.ok scBadNumber___init__ (fun vs H Q E h => ?_) (fun cdv A outer s H vs Q E hr h => ?_)
  · obtain ⟨a, C, v, rfl, _⟩ := h; rfl
  · obtain ⟨a, C, v, rfl, ox, nf, ha, h⟩ := h
    refine ⟨_, (pss_one (ps_ost (pv 0) (pv 1))), ?_⟩
    exact ⟨v, rfl, .ref a, rfl, a, C, rfl, ox, nf, .inl ⟨ha, h⟩⟩
end
abbrev sis_number : Stmt := topS 10
theorem scis_number : FnScope ["value"] ["value"] (defScope sis_number) := ⟨rfl, rfl, rfl, by decide +kernel, rfl, by decide +kernel, by decide +kernel⟩
abbrev scheck_number : Stmt := topS 11
theorem sccheck_number : FnScope ["value"] ["value"] (defScope scheck_number) := ⟨rfl, rfl, rfl, by decide +kernel, rfl, by decide +kernel, by decide +kernel⟩
abbrev scheck_open_number : Stmt := topS 12
theorem sccheck_open_number : FnScope ["value"] ["value"] (defScope scheck_open_number) := ⟨rfl, rfl, rfl, by decide +kernel, rfl, by decide +kernel, by decide +kernel⟩
section
variable {P : Program} {w : World} {K : PySem.W.Frag} {mg : Str → Option Value} {base : Heap} {C : Addr}
/-! ### is_number, check_number, check_open_number -/
theorem ok_p_is_number {k : Nat} {f : Addr} {fd : FuncData} (F : Fun K "is_number" "is_number" sis_number f fd) (T : Blt mg) : FnOk P w K mg base CX0 (k + 1) f fd ["value"] spIsNum := by
  refine F.ok scis_number (fun vs H Q E h => ?_) (fun cdv A outer s H vs Q E hr h => ?_)
  · obtain ⟨v, rfl, _⟩ := h; rfl
  · obtain ⟨v, rfl, hv, h⟩ := h
    refine ⟨_, (pss_one (ps_ret (pe_and (pe_callB call_isi (by rfl) T.isinstance (by decide +kernel) (pa_cons (pv 0) (pa_cons (pe_bltn (v := .ty "int") rfl T.int (by decide +kernel) rfl) pa_nil))) (pe_and (pe_not (pe_callB call_isi (by rfl) T.isinstance (by decide +kernel) (pa_cons (pv 0) (pa_cons (pe_bltn (v := .ty "bool") rfl T.bool (by decide +kernel) rfl) pa_nil)))) (pe_one (pe_chain op_le op_le (pe_un un_neg (pe_globI rfl T.g_LIMIT)) (pv 0) (pe_globI rfl T.g_LIMIT))))))), ?_⟩
    cases v <;> first | exact hv.elim | skip
    · walk_at "rdA"; exact h
    · walk_at "rdA"; exact h
    · rename_i n
      walk_at "rdA"
      have hh : ∀ b : Bool, b = isNum (.int n) → Q (.bl b) H := fun b e => by rw [e]; exact h
      refine if_dec (fun h1 => ?_) (fun h1 => ?_)
      · walk_at "rdA"
        refine hh _ ?_
        unfold isNum InR; simp [h1]
      · refine hh _ ?_
        unfold isNum InR; simp [h1]
    · walk_at "rdA"; exact h
def Err (E : XK) (C : Addr) (H : Hp) (v : V) : Prop := ∀ d H', Same H H' → H' d = some (.xd [("number", v)]) → E (.ref C) (some d) H'
def spCheck (C : Addr) : Sp := fun vs H Q E => ∃ v, vs = [v] ∧ Sc v ∧ (isNum v = true → Q v H) ∧ (isNum v = false → Err E C H v)
theorem ok_check_number {k : Nat} {f : Addr} {fd : FuncData} (F : Fun K "check_number" "check_number" scheck_number f fd) (T : Blt mg) (E_BadNumber : ErrC K mg "BadNumber" C) (I_BadNumber : HasI P w K mg base C 1 ["self", "number"] (spInit1 K "number")) (N_BadNumber_number : PySem.W.findIn K (.ref C) "number" = some none)
    (His_number : Has P w K mg base "is_number" k ["value"] spIsNum) (hk : 2 ≤ k) : FnOk P w K mg base (L2.CX P w) (k + 1) f fd ["value"] (spCheck C) := by
  refine F.okX sccheck_number (fun vs H Q E h => ?_) (fun cdv A outer s H vs Q E hr h => ?_)
  · obtain ⟨v, rfl, _⟩ := h; rfl
  · obtain ⟨v, rfl, hv, h1, h2⟩ := h
    refine ⟨_, (pss_cons (ps_if (pt_not (pt_val (pe_callH His_number hr (by rfl) (pa_cons (pv 0) pa_nil)))) (pss_one (ps_raiseC rfl (takes_of rfl rfl rfl rfl) E_BadNumber I_BadNumber hr (by omega) (by rfl) (pa_cons (pv 0) pa_nil))) pss_nil)
 (pss_one (ps_ret (pv 0)))), ?_⟩
    walk_at "rdA"
    refine ⟨v, rfl, hv, ?_⟩
    walk_at "rdA"
    refine if_nbool (fun hn => ?_) (fun hn => ?_)
    · walk_at "rdA"
      exact rd_mk1 E_BadNumber.ox N_BadNumber_number fun d H' _ sm e => h2 hn d H' sm e
    · walk_at "rdA"
      exact h1 hn
def spCheckO (C : Addr) : Sp := fun vs H Q E => ∃ v, vs = [v] ∧ Sc v ∧ (isOpen v = true → Q v H) ∧ (isOpen v = false → Err E C H v)
theorem ok_check_open_number {k : Nat} {f : Addr} {fd : FuncData} (F : Fun K "check_open_number" "check_open_number" scheck_open_number f fd) (T : Blt mg) (Hcheck_number : HasX P w K mg base "check_number" k ["value"] (spCheck C)) : FnOk P w K mg base (L2.CX P w) (k + 1) f fd ["value"] (spCheckO C) := by
  refine F.okX sccheck_open_number (fun vs H Q E h => ?_) (fun cdv A outer s H vs Q E hr h => ?_)
  · obtain ⟨v, rfl, _⟩ := h; rfl
  · obtain ⟨v, rfl, hv, h1, h2⟩ := h
    refine ⟨_, (pss_cons (ps_if (pt_cmpR op_isN (pv 0) pe_non (nomark _)) (pss_one (ps_ret pe_non)) pss_nil)
 (pss_one (ps_ret (pe_callX Hcheck_number hr (by rfl) (takes_of rfl rfl rfl rfl) (pa_cons (pv 0) pa_nil))))), ?_⟩
    cases v <;> first | exact hv.elim | skip
    · walk_at "rdA"; exact h1 rfl
    all_goals walk_at "rdA"
    all_goals exact ⟨_, rfl, trivial, h1, h2⟩
end
abbrev sBadSpan___init__ : Stmt := inClass (topS 5) 0
theorem scBadSpan___init__ : FnScope ["self", "low", "high"] ["self", "low", "high"] (defScope sBadSpan___init__) := ⟨rfl, rfl, rfl, by decide +kernel, rfl, by decide +kernel, by decide +kernel⟩
abbrev sare_crossed : Stmt := topS 14
theorem scare_crossed : FnScope ["low", "high"] ["low", "high"] (defScope sare_crossed) := ⟨rfl, rfl, rfl, by decide +kernel, rfl, by decide +kernel, by decide +kernel⟩
abbrev scheck_low_high : Stmt := topS 13
theorem sccheck_low_high : FnScope ["low", "high"] ["low", "high"] (defScope scheck_low_high) := ⟨rfl, rfl, rfl, by decide +kernel, rfl, by decide +kernel, by decide +kernel⟩
section
variable {P : Program} {w : World} {K : PySem.W.Frag} {mg : Str → Option Value} {base : Heap} {C : Addr}
/-! ### two fields; crossed ends -/
theorem ok_BadSpan_init {k : Nat} {f : Addr} {fd : FuncData} (F : Fun K "__init__" "BadSpan.__init__" sBadSpan___init__ f fd) : FnOk P w K mg base CX0 (k + 1) f fd ["self", "low", "high"] (spInit2 K "low" "high") := by
  refine F.ok scBadSpan___init__ (fun vs H Q E h => ?_) (fun cdv A outer s H vs Q E hr h => ?_)
  · obtain ⟨a, C, u, v, rfl, _⟩ := h; rfl
  · obtain ⟨a, C, u, v, rfl, ox, nf, ng, ha, h⟩ := h
    refine ⟨_, (pss_cons (ps_ost (pv 0) (pv 1))
 (pss_one (ps_ost (pv 0) (pv 2)))), ?_⟩
    exact ⟨u, rfl, .ref a, rfl, a, C, rfl, ox, nf, .inl ⟨ha, fun dx ndx ne => ⟨v, rfl, .ref a, rfl, a, C, rfl, ox, ng, .inr ⟨dx, [("low", u)], upd_same, by rw [upd_ne ne]; exact upd_same, by simp, h dx ndx ne⟩⟩⟩⟩
def spCrossed : Sp := fun vs H Q _ => ∃ x y, vs = [x, y] ∧ NI x ∧ NI y ∧ Q (.bl (crossed x y)) H
theorem ok_are_crossed {k : Nat} {f : Addr} {fd : FuncData} (F : Fun K "are_crossed" "are_crossed" sare_crossed f fd) (T : Blt mg) : FnOk P w K mg base CX0 (k + 1) f fd ["low", "high"] spCrossed := by
  refine F.ok scare_crossed (fun vs H Q E h => ?_) (fun cdv A outer s H vs Q E hr h => ?_)
  · obtain ⟨x, y, rfl, _⟩ := h; rfl
  · obtain ⟨x, y, rfl, hx, hy, h⟩ := h
    refine ⟨_, (pss_one (ps_ret (pe_and (pe_cmpR op_notN (pv 0) pe_non (nomark _)) (pe_and (pe_cmpR op_notN (pv 1) pe_non (nomark _)) (pe_one (pe_cmpR op_gt (pv 0) (pv 1) (nomark _))))))), ?_⟩
    rcases hx with rfl | ⟨i, rfl⟩ <;> rcases hy with rfl | ⟨j, rfl⟩ <;> walk_at "rdA" <;> exact h
def ErrB (E : XK) (C : Addr) (H : Hp) (x y : V) : Prop := ∀ d H', Same H H' → H' d = some (.xd [("high", y), ("low", x)]) → E (.ref C) (some d) H'
def spLowHigh (C : Addr) : Sp := fun vs H Q E => ∃ x y, vs = [x, y] ∧ NI x ∧ NI y ∧ (crossed x y = false → Q .non H) ∧ (crossed x y = true → ErrB E C H x y)
theorem ok_check_low_high {k : Nat} {f C2 : Addr} {fd : FuncData} (F : Fun K "check_low_high" "check_low_high" scheck_low_high f fd) (T : Blt mg) (E_BadSpan : ErrC K mg "BadSpan" C2) (I_BadSpan : HasI P w K mg base C2 1 ["self", "low", "high"] (spInit2 K "low" "high")) (N1 : PySem.W.findIn K (.ref C2) "low" = some none) (N2 : PySem.W.findIn K (.ref C2) "high" = some none)
    (Hare_crossed : Has P w K mg base "are_crossed" k ["low", "high"] spCrossed) (hk : 2 ≤ k) : FnOk P w K mg base (L2.CX P w) (k + 1) f fd ["low", "high"] (spLowHigh C2) := by
  refine F.okX sccheck_low_high (fun vs H Q E h => ?_) (fun cdv A outer s H vs Q E hr h => ?_)
  · obtain ⟨x, y, rfl, _⟩ := h; rfl
  · obtain ⟨x, y, rfl, hx, hy, h1, h2⟩ := h
    refine ⟨_, (pss_one (ps_if (pt_val (pe_callH Hare_crossed hr (by rfl) (pa_cons (pv 0) (pa_cons (pv 1) pa_nil)))) (pss_one (ps_raiseC rfl (takes_of rfl rfl rfl rfl) E_BadSpan I_BadSpan hr (by omega) (by rfl) (pa_cons (pv 0) (pa_cons (pv 1) pa_nil)))) pss_nil)), ?_⟩
    walk_at "rdA"
    refine ⟨x, y, rfl, hx, hy, ?_⟩
    walk_at "rdA"
    refine if_bool (fun hc => ?_) (fun hc => ?_)
    · walk_at "rdA"
      exact rd_mk2 E_BadSpan.ox N1 N2 fun d H' _ sm e => h2 hc d H' sm e
    · walk_at "rdA"
      exact h1 hc
end
/-! a class that may be called by its name -/
structure HasMk (P : Program) (w : World) (K : PySem.W.Frag) (mg : Str → Option Value) (base : Heap) (CX : CXT) (C : Addr) (x : Str) (k : Nat) (ps : List Str) (dvs : List V) (sp : Sp) : Prop where
  ex : ∃ f fd ds, FnOk P w K mg base CX k f fd ps sp ∧ Mk K C f ∧ mg x = some (.ref C) ∧ Vals dvs ds ∧ Binds K fd ps ds
theorem HasMk.mono {P : Program} {w : World} {K : PySem.W.Frag} {mg : Str → Option Value} {base : Heap} {CX : CXT} {C : Addr} {x : Str} {j k : Nat} {ps : List Str} {dvs : List V} {sp : Sp} (h : HasMk P w K mg base CX C x j ps dvs sp) (l : j ≤ k) : HasMk P w K mg base CX C x k ps dvs sp := by
  obtain ⟨f, fd, ds, F, r⟩ := h.ex
  exact ⟨f, fd, ds, F.mono l, r⟩
theorem pe_makeH {X : Cx} {CX : CXT} {C : Addr} {x : Str} {k : Nat} {ps : List Str} {dvs : List V} {sp : Sp} {E : XK} {p pos : Pos} {e : Expr} {es : List Expr} {t : TA} (h : HasMk X.prog X.w X.K X.mg X.base CX C x k ps dvs sp) (hr : Room (k + 1) X.A) (hg : Gl X x) (hx : Passes CX X E) (ha : PA X (e :: es) t)
    (hdb : (x == ("__debug__" : Str)) = false := by decide) (he : starEach (e :: es) X.env = (false, eval e X.env) :: starEach es X.env := by rfl) (hpl : (backTo pos (starEach es X.env)).any (·.1) = false := by rfl) :
    PE X (.Call (.Name x p) (e :: es) [] pos) (tMake C sp dvs E t) := by
  obtain ⟨f, fd, ds, F, M, hm, hd, hb⟩ := h.ex
  exact pe_make M F hr hg hm hb hd hx ha hdb he hpl
structure SpC (K : PySem.W.Frag) (C : Addr) : Prop where
  cl : Cls K C
  nl : NoAttr K C "low"
  nh : NoAttr K C "high"
abbrev spn (l h : V) : List (Str × V) := [("low", l), ("high", h)]
theorem spn_low {l h : V} : (spn l h).lookup ("low" : Str) = some l := by simp [spn, List.lookup]
theorem spn_high {l h : V} : (spn l h).lookup ("high" : Str) = some h := by
  have e : (("high" : Str) == ("low" : Str)) = false := by decide
  simp [spn, List.lookup, e]
abbrev sSpan___init__ : Stmt := inClass (topS 22) 0
theorem scSpan___init__ : FnScope ["self", "low", "high"] ["self", "low", "high"] (defScope sSpan___init__) := ⟨rfl, rfl, rfl, by decide +kernel, rfl, by decide +kernel, by decide +kernel⟩
section
variable {P : Program} {w : World} {K : PySem.W.Frag} {mg : Str → Option Value} {base : Heap} {C CE CB : Addr}
/-! ### Span.__init__ -/
def spSpanI (C CE CB : Addr) : Sp := fun vs H Q E => ∃ (a dx : Addr) (l h : V), vs = [.ref a, l, h] ∧ H a = some (.ins C dx []) ∧ Sc l ∧ Sc h ∧ (isOpen l = true → isOpen h = true → crossed l h = false → Q .non (upd H a (.ins C dx (spn l h)))) ∧
  (isOpen l = false → Err E CE H l) ∧ (isOpen l = true → isOpen h = false → Err E CE H h) ∧ (isOpen l = true → isOpen h = true → crossed l h = true → ErrB E CB H l h)
theorem open_NI {x : V} (h : isOpen x = true) : NI x := by
  cases x <;> first | exact .inl rfl | exact .inr ⟨_, rfl⟩ | cases h
theorem ok_span_init {k : Nat} {f : Addr} {fd : FuncData} (F : FunD K "__init__" "Span.__init__" (defArgs sSpan___init__) (defBody sSpan___init__) (defScope sSpan___init__) [.non, .non] [] f fd) (T : Blt mg) (S : SpC K C)
    (Hcheck_open_number : HasX P w K mg base "check_open_number" k ["value"] (spCheckO CE)) (Hcheck_low_high : HasX P w K mg base "check_low_high" k ["low", "high"] (spLowHigh CB)) : FnOk P w K mg base (L2.CX P w) (k + 1) f fd ["self", "low", "high"] (spSpanI C CE CB) := by
  refine F.ok scSpan___init__ (fun vs H Q E h => ?_) (fun cdv A outer s H vs Q E hr h => ?_)
  · obtain ⟨a, dx, l, h, rfl, _⟩ := h; rfl
  · obtain ⟨a, dx, l, hh, rfl, ha, sl, sh, h1, h2, h3, h4⟩ := h
    refine ⟨_, (pss_cons (ps_expr (pe_callX Hcheck_open_number hr (by rfl) (takes_of rfl rfl rfl rfl) (pa_cons (pv 1) pa_nil)))
 (pss_cons (ps_expr (pe_callX Hcheck_open_number hr (by rfl) (takes_of rfl rfl rfl rfl) (pa_cons (pv 2) pa_nil)))
 (pss_cons (ps_expr (pe_callX Hcheck_low_high hr (by rfl) (takes_of rfl rfl rfl rfl) (pa_cons (pv 1) (pa_cons (pv 2) pa_nil))))
 (pss_cons (ps_fld (pv 0) (pv 1) rfl)
 (pss_one (ps_fld (pv 0) (pv 2) rfl)))))), ?_⟩
    walk_at "rdB"
    refine ⟨l, rfl, sl, fun ol => ?_, h2⟩
    walk_at "rdB"
    refine ⟨hh, rfl, sh, fun oh => ?_, h3 ol⟩
    walk_at "rdB"
    refine ⟨l, hh, rfl, open_NI ol, open_NI oh, fun nc => ?_, h4 ol oh⟩
    walk_at "rdB"
    refine ⟨a, C, dx, _, rfl, ha, S.cl, S.nl, by simp, ?_⟩
    walk_at "rdB"
    refine ⟨a, C, dx, _, rfl, upd_same, S.cl, S.nh, by simp [putF], ?_⟩
    have e : putF "high" hh (putF "low" l []) = spn l hh := by
      have e0 : ¬ (("low" : Str) = ("high" : Str)) := by decide
      simp [putF, spn, e0]
    rw [upd_upd, e]
    walk_at "rdB"
    exact h1 ol oh nc
end
def OpE (v : V) : Prop := NI v ∧ isOpen v = true
theorem OpE.sc {v : V} (h : OpE v) : Sc v := by
  rcases h.1 with rfl | ⟨n, rfl⟩ <;> trivial
def Bar (v : V) : Prop := v = .non ∨ ∃ n, v = .int n ∧ InR n
theorem Bar.op {v : V} (h : Bar v) : OpE v := by
  rcases h with rfl | ⟨n, rfl, h⟩
  · exact ⟨.inl rfl, rfl⟩
  · exact ⟨.inr ⟨n, rfl⟩, decide_eq_true h⟩
abbrev s_law_ends : Stmt := topS 34
theorem sc_law_ends : FnScope ["store", "pool", "kind", "one", "other"] ["store", "pool"] (defScope s_law_ends) := ⟨rfl, rfl, rfl, by decide +kernel, rfl, by decide +kernel, by decide +kernel⟩
section
variable {P : Program} {w : World} {K : PySem.W.Frag} {mg : Str → Option Value} {base : Heap} {C : Addr}
/-! ### _law_ends -/
def spEnds : Sp := fun vs H Q _ => ∃ S : Sto, ∃ p, ∃ ns : List Int, vs = [.ref S.1, .ref p] ∧ StoreOk S H ∧ At S H p (.lst (ns.map V.int)) ∧ 0 < ns.length ∧ ns.length < 1000 ∧
  ∀ q l h H', Bar l → Bar h → crossed l h = false → H q = none → At S H' q (.tup [l, h]) → StoreOk S H' → ExS S H H' → Q (.ref q) H'
theorem exs_free {S : Sto} {H H2 : Hp} {u : Addr} (e : ExS S H H2) (hS : StoreOk S H2) (n : H2 u = none) : H u = none := by
  cases q : H u with
  | none => rfl
  | some o => rw [e u o (hS.ne1 n) q] at n; cases n
theorem ok_ends {k : Nat} {f : Addr} {fd : FuncData} (F : Fun K "_law_ends" "_law_ends" s_law_ends f fd) (T : Blt mg) (H_law_take : Has P w K mg base "_law_take" k ["store", "many"] spTake) (H_law_near : Has P w K mg base "_law_near" k ["store", "pool"] spNear) : FnOk P w K mg base CX0 (k + 1) f fd ["store", "pool"] spEnds := by
  refine F.ok sc_law_ends (fun vs H Q E h => ?_) (fun cdv A outer s H vs Q E hr h => ?_)
  · obtain ⟨S, p, ns, rfl, _⟩ := h; rfl
  · obtain ⟨S, p, ns, rfl, hS, hA, l0, l1, h⟩ := h
    refine ⟨_, (pss_cons (ps_set (i := 2) sc_law_ends.nd rfl (.inl rfl) (pe_callH H_law_take hr (by rfl) (pa_cons (pv 0) (pa_cons pe_int pa_nil))))
 (pss_cons (ps_if (pt_cmpR op_lt (pv 2) pe_int (nomark _)) (pss_one (ps_ret (pe_tup (pa_cons pe_non (pa_cons pe_non pa_nil))))) pss_nil)
 (pss_cons (ps_set (i := 3) sc_law_ends.nd rfl (.inl rfl) (pe_callH H_law_near hr (by rfl) (pa_cons (pv 0) (pa_cons (pv 1) pa_nil))))
 (pss_cons (ps_if (pt_cmpR op_eq (pv 2) pe_int (nomark _)) (pss_one (ps_ret (pe_tup (pa_cons pe_non (pa_cons (pv 3) pa_nil))))) pss_nil)
 (pss_cons (ps_if (pt_cmpR op_eq (pv 2) pe_int (nomark _)) (pss_one (ps_ret (pe_tup (pa_cons (pv 3) (pa_cons pe_non pa_nil))))) pss_nil)
 (pss_cons (ps_if (pt_cmpR op_eq (pv 2) pe_int (nomark _)) (pss_one (ps_ret (pe_tup (pa_cons (pv 3) (pa_cons (pv 3) pa_nil))))) pss_nil)
 (pss_cons (ps_set (i := 4) sc_law_ends.nd rfl (.inl rfl) (pe_callH H_law_near hr (by rfl) (pa_cons (pv 0) (pa_cons (pv 1) pa_nil))))
 (pss_one (ps_ret (pe_tup (pa_cons (pe_callB (call_min2 rfl) (by rfl) T.min (by decide +kernel) (pa_cons (pv 3) (pa_cons (pv 4) pa_nil))) (pa_cons (pe_callB (call_max2 rfl) (by rfl) T.max (by decide +kernel) (pa_cons (pv 3) (pa_cons (pv 4) pa_nil))) pa_nil)))))))))))), ?_⟩
    have fin : ∀ {H1 : Hp} {l hh : V}, Bar l → Bar hh → crossed l hh = false → StoreOk S H1 → ExS S H H1 → [l, hh].length ≤ sizeLine ∧ ∀ q, H1 q = none → Q (.ref q) (upd H1 q (.tup [l, hh])) := fun {H1 l hh} b1 b2 c hS1 e1 =>
      ⟨sz (by simp), fun q nq => h q l hh _ b1 b2 c (exs_free e1 hS1 nq) (.new hS1 nq) (hS1.new nq) (e1.trans (ExS.new nq))⟩
    walk_at "rdB"
    refine ⟨S, 6, rfl, by omega, hS, fun r H1 r0 r1 hS1 e1 => ?_⟩
    walk_at "rdB"
    refine if_dec (fun hk => ?_) (fun hk => ?_)
    · walk_at "rdB"
      exact fin (.inl rfl) (.inl rfl) rfl hS1 e1
    · walk_at "rdB"
      refine ⟨S, p, ns, rfl, hS1, hA.back e1, l0, l1, fun n H2 hn hS2 e2 => ?_⟩
      have e2' := e1.trans e2
      walk_at "rdB"
      refine if_dec (fun hk2 => ?_) (fun hk2 => ?_)
      · walk_at "rdB"
        exact fin (.inl rfl) (.inr ⟨n, rfl, hn⟩) rfl hS2 e2'
      · walk_at "rdB"
        refine if_dec (fun hk3 => ?_) (fun hk3 => ?_)
        · walk_at "rdB"
          exact fin (.inr ⟨n, rfl, hn⟩) (.inl rfl) rfl hS2 e2'
        · walk_at "rdB"
          refine if_dec (fun hk5 => ?_) (fun hk5 => ?_)
          · walk_at "rdB"
            exact fin (.inr ⟨n, rfl, hn⟩) (.inr ⟨n, rfl, hn⟩) (decide_eq_false (by omega)) hS2 e2'
          · walk_at "rdB"
            refine ⟨S, p, ns, rfl, hS2, hA.back e2', l0, l1, fun m H3 hm hS3 e3 => ?_⟩
            walk_at "rdB"
            refine fin (.inr ⟨_, rfl, ?_⟩) (.inr ⟨_, rfl, ?_⟩) (decide_eq_false ?_) hS3 (e2'.trans e3)
            all_goals unfold InR at *
            all_goals (repeat' split)
            all_goals omega
end

open PySem.NumText (AllDigits digitsVal)
open TL (numL numL_lt numL_step numL_ne numL_val numL_digits numL_len tl_num tl_ofString)
/-! ### reading a number out of signs -/
theorem dig_snoc (l : List Nat) (d : Nat) : digitsVal (l ++ [d]) = digitsVal l * 10 + (d - 48) := by
  unfold digitsVal; rw [List.foldl_append]; rfl
theorem snoc_ind {P : List Nat → Prop} (h0 : P []) (h1 : ∀ l d, P l → P (l ++ [d])) : ∀ l, P l := fun l => by
  have : ∀ n, ∀ l : List Nat, l.length = n → P l := by
    intro n
    induction n with
    | zero => intro l hl; rw [List.length_eq_zero_iff.mp hl]; exact h0
    | succ n ih =>
      intro l hl
      have hne : l ≠ [] := fun e => by rw [e] at hl; cases hl
      rw [← List.dropLast_concat_getLast hne]
      exact h1 _ _ (ih _ (by rw [List.length_dropLast]; omega))
  exact this _ l rfl
theorem num_head {n : Nat} : 1 ≤ n → (numL n).head? ≠ some 48 := by
  induction n using Nat.strongRecOn with
  | _ n ih =>
    intro h
    by_cases h10 : n < 10
    · rw [numL_lt h10]; simp; omega
    · rw [numL_step (by omega)]
      have := ih (n / 10) (by omega) (by omega)
      rw [List.head?_append]
      cases e : (numL (n / 10)).head? with
      | none => exact absurd (List.head?_eq_none_iff.mp e) (numL_ne _)
      | some c => rw [e] at this; simpa using this
theorem dig_zero {l : List Nat} : AllDigits l → digitsVal l = 0 → l ≠ [] → l.head? = some 48 := by
  induction l using snoc_ind with
  | h0 => intro _ _ h; exact absurd rfl h
  | h1 l d ih =>
    intro ha hv _
    rw [dig_snoc] at hv
    have hd := ha d (by simp)
    by_cases hl : l = []
    · subst hl; simp at *; omega
    · have := ih (fun c hc => ha c (by simp [hc])) (by omega) hl
      rw [List.head?_append, this]; rfl
theorem dig_back {l : List Nat} : AllDigits l → l ≠ [] → l.head? ≠ some 48 → numL (digitsVal l) = l := by
  induction l using snoc_ind with
  | h0 => intro _ h; exact absurd rfl h
  | h1 l d ih =>
    intro ha _ hh
    have hd := ha d (by simp)
    by_cases hl : l = []
    · subst hl
      have : digitsVal ([] ++ [d]) = d - 48 := by rw [dig_snoc]; simp [digitsVal]
      rw [this, numL_lt (by omega)]; simp; omega
    · have hh' : l.head? ≠ some 48 := fun e => hh (by rw [List.head?_append, e]; rfl)
      have ha' : AllDigits l := fun c hc => ha c (by simp [hc])
      have h1 : 1 ≤ digitsVal l := Nat.pos_of_ne_zero fun e => hh' (dig_zero ha' e hl)
      rw [dig_snoc, numL_step (by omega), show (digitsVal l * 10 + (d - 48)) / 10 = digitsVal l from by omega, show (digitsVal l * 10 + (d - 48)) % 10 = d - 48 from by omega, ih ha' hl hh']
      congr 2; omega
theorem num_zero : numL 0 = [48] := numL_lt (by decide)
/-- the figures of signs: what stands behind a minus -/
def figs : List Nat → List Nat
  | 45 :: r => r
  | l => l
def valI : List Nat → Int
  | 45 :: r => -((digitsVal r : Nat) : Int)
  | l => ((digitsVal l : Nat) : Int)
def numI (n : Int) : List Nat := if n < 0 then 45 :: numL n.natAbs else numL n.natAbs
def allD (l : List Nat) : Bool := l.all fun c => decide (48 ≤ c) && decide (c ≤ 57)
theorem allD_iff {l : List Nat} : allD l = true ↔ AllDigits l := by
  unfold allD AllDigits
  rw [List.all_eq_true]
  refine ⟨fun h c hc => ?_, fun h c hc => ?_⟩
  · have := h c hc; simpa using this
  · have := h c hc; simpa using this
theorem no_minus {l : List Nat} (h : AllDigits l) (c : Nat) (r : List Nat) (e : l = c :: r) : c ≠ 45 := by
  have := h c (by rw [e]; simp); omega
/-- figures all of them -/
def Fig (l : List Nat) : Prop := figs l ≠ [] ∧ AllDigits (figs l)
/-- no needless nought ahead -/
def Neat (l : List Nat) : Prop := (figs l).head? = some 48 → l = [48]
theorem figs_cases (l : List Nat) : (∃ r, l = 45 :: r ∧ figs l = r ∧ valI l = -((digitsVal r : Nat) : Int)) ∨ (l.head? ≠ some 45 ∧ figs l = l ∧ valI l = ((digitsVal l : Nat) : Int)) := by
  unfold figs valI
  split
  · exact .inl ⟨_, rfl, rfl, rfl⟩
  · rename_i h
    refine .inr ⟨fun e => ?_, ?_, ?_⟩
    · cases l with
      | nil => cases e
      | cons c r => simp at e; exact h r (by rw [e])
    · rfl
    · rfl
theorem neat_iff {l : List Nat} (h : Fig l) : numI (valI l) = l ↔ Neat l := by
  obtain ⟨h1, h2⟩ := h
  rcases figs_cases l with ⟨r, rfl, ef, ev⟩ | ⟨hm, ef, ev⟩
  · rw [ef] at h1 h2
    unfold Neat numI
    rw [ev, ef]
    have z : digitsVal r = 0 → r.head? = some 48 := fun e => dig_zero h2 e h1
    constructor
    · intro e hh
      split at e
      · rw [Int.natAbs_neg, Int.natAbs_natCast] at e
        have := (List.cons.inj e).2
        rw [← this] at hh
        exact absurd hh (num_head (by omega))
      · have e0 : digitsVal r = 0 := by omega
        rw [e0] at e
        have : numL 0 = 45 :: r := e
        rw [num_zero] at this; cases this
    · intro e
      have hh : r.head? ≠ some 48 := fun q => by have := e q; cases this
      have : digitsVal r ≠ 0 := fun q => hh (z q)
      rw [if_pos (by omega), Int.natAbs_neg, Int.natAbs_natCast, dig_back h2 h1 hh]
  · rw [ef] at h1 h2
    unfold Neat numI
    rw [ev, ef, if_neg (by omega), Int.natAbs_natCast]
    constructor
    · intro e hh
      by_cases q : digitsVal l = 0
      · rw [q, num_zero] at e; exact e.symm
      · rw [← e] at hh; exact absurd hh (num_head (by omega))
    · intro e
      by_cases hh : l.head? = some 48
      · rw [e hh]; rfl
      · exact dig_back h2 h1 hh
instance (l : List Nat) : Decidable (Neat l) := by unfold Neat; infer_instance
def rdL (l : List Nat) : Option Int := if (figs l ≠ [] ∧ (figs l).length ≤ 13 ∧ allD (figs l) = true) ∧ Neat l ∧ InR (valI l) then some (valI l) else none
theorem rd_some {l : List Nat} {n : Int} (h : rdL l = some n) : Fig l ∧ (figs l).length ≤ 13 ∧ Neat l ∧ InR n ∧ n = valI l := by
  unfold rdL at h
  split at h
  · rename_i q
    cases h
    exact ⟨⟨q.1.1, allD_iff.mp q.1.2.2⟩, q.1.2.1, q.2.1, q.2.2, rfl⟩
  · cases h
theorem rd_back {l : List Nat} {n : Int} (h : rdL l = some n) : numI n = l := by
  obtain ⟨a, _, b, _, rfl⟩ := rd_some h
  exact (neat_iff a).mpr b
/-- a text of at most fourteen signs: the length of its figures needs no look -/
theorem rd_of {l : List Nat} (hl : l.length ≤ 14) (h : Fig l) (hn : Neat l) (hr : InR (valI l)) : rdL l = some (valI l) := by
  unfold rdL
  refine if_pos ⟨⟨h.1, ?_, allD_iff.mpr h.2⟩, hn, hr⟩
  rcases figs_cases l with ⟨r, rfl, ef, ev⟩ | ⟨hm, ef, ev⟩
  · rw [ef]; simp at hl; omega
  · have e := (neat_iff h).mpr hn
    rw [ev] at e hr
    unfold numI at e
    rw [if_neg (by omega), Int.natAbs_natCast] at e
    rw [ef, ← e]
    refine numL_len (by decide) ?_
    unfold InR at hr
    omega
theorem numI_digits {n : Int} : figs (numI n) = numL n.natAbs ∧ valI (numI n) = n := by
  unfold numI
  split
  · refine ⟨rfl, ?_⟩
    show -((digitsVal (numL n.natAbs) : Nat) : Int) = n
    rw [numL_val]; omega
  · have hd := numL_digits n.natAbs
    rcases figs_cases (numL n.natAbs) with ⟨r, e, _, _⟩ | ⟨_, ef, ev⟩
    · exact absurd rfl (no_minus hd 45 r e)
    · rw [ef, ev, numL_val]; exact ⟨rfl, by omega⟩
theorem numI_fig (n : Int) : Fig (numI n) := by
  unfold Fig; rw [numI_digits.1]; exact ⟨numL_ne _, numL_digits _⟩
theorem rd_numI {n : Int} (h : InR n) : rdL (numI n) = some n := by
  have hv := (numI_digits (n := n)).2
  have hl : (numI n).length ≤ 14 := by
    have := numL_len (n := n.natAbs) (k := 13) (by decide) (by unfold InR at h; omega)
    unfold numI; split
    · simp; omega
    · omega
  have := rd_of hl (numI_fig n) ((neat_iff (numI_fig n)).mp (by rw [hv])) (by rw [hv]; exact h)
  rw [this, hv]
theorem tl_numI (n : Int) : TL.tl (Str.ofString (toString n)) = numI n := by
  unfold numI
  split
  · rename_i h
    have : TL.tl (Str.ofString (toString n)) = (toString n).toList.map Char.toNat := tl_ofString _
    rw [this, toString_neg h, String.toList_append, List.map_append]
    have e : 0 - n = ((n.natAbs : Nat) : Int) := by omega
    rw [e, ← tl_ofString (toString ((n.natAbs : Nat) : Int)), tl_num]
    rfl
  · have e : n = ((n.natAbs : Nat) : Int) := by omega
    rw [e, tl_num]; simp
theorem isDig : ∀ c, c < 128 → Unicode.isDigit c = (decide (48 ≤ c) && decide (c ≤ 57)) := by decide +kernel
theorem toInt_text {z : Str} (h : Fig (TL.tl z)) (hl : z.length ≤ 4300) : intText? z = some (valI (TL.tl z)) := by
  rcases figs_cases (TL.tl z) with ⟨r, e, ef, ev⟩ | ⟨_, ef, ev⟩
  · rw [ev]
    exact intText_neg e (by have := h.2; rwa [ef] at this) (by have := h.1; rwa [ef] at this) hl
  · rw [ev]
    exact intText_digits (by have := h.2; rwa [ef] at this) (by have := h.1; rwa [ef] at this) hl

abbrev sBadText___init__ : Stmt := inClass (topS 6) 0
theorem scBadText___init__ : FnScope ["self", "line"] ["self", "line"] (defScope sBadText___init__) := ⟨rfl, rfl, rfl, by decide +kernel, rfl, by decide +kernel, by decide +kernel⟩
abbrev snumber_text : Stmt := topS 18
theorem scnumber_text : FnScope ["number"] ["number"] (defScope snumber_text) := ⟨rfl, rfl, rfl, by decide +kernel, rfl, by decide +kernel, by decide +kernel⟩
abbrev sparse_number : Stmt := topS 19
theorem scparse_number : FnScope ["text", "digits", "number"] ["text"] (defScope sparse_number) := ⟨rfl, rfl, rfl, by decide +kernel, rfl, by decide +kernel, by decide +kernel⟩
abbrev send_text : Stmt := topS 20
theorem scend_text : FnScope ["end"] ["end"] (defScope send_text) := ⟨rfl, rfl, rfl, by decide +kernel, rfl, by decide +kernel, by decide +kernel⟩
abbrev sparse_end : Stmt := topS 21
theorem scparse_end : FnScope ["text"] ["text"] (defScope sparse_end) := ⟨rfl, rfl, rfl, by decide +kernel, rfl, by decide +kernel, by decide +kernel⟩
abbrev s_law_read : Stmt := topS 37
theorem sc_law_read : FnScope ["word", "figures", "sign"] ["word"] (defScope s_law_read) := ⟨rfl, rfl, rfl, by decide +kernel, rfl, by decide +kernel, by decide +kernel⟩
abbrev s_law_ends_text : Stmt := topS 38
theorem sc_law_ends_text : FnScope ["ends", "text"] ["ends"] (defScope s_law_ends_text) := ⟨rfl, rfl, rfl, by decide +kernel, rfl, by decide +kernel, by decide +kernel⟩
local macro_rules | `(tactic| walk_at "sideE") => `(tactic| first | assumption | exact Z.sl_of (by assumption) | exact upd_same | (show (0 : Int) < _; omega) | exact Or.inl ⟨by omega, by omega⟩ | exact Or.inr ⟨by omega, by omega⟩)
local macro_rules | `(tactic| walk_at "tyofE") => `(tactic| first | exact TyOf.int _ | exact TyOf.bl _ | exact TyOf.non | exact TyOf.str _ | (apply TyOf.lst; assumption) | (apply TyOf.tup; assumption))
local macro_rules | `(tactic| walk_at "rd1E") => `(tactic| first
  | with_reducible first
    | refine rd_seq ?_ | refine rd_asg ?_ | refine rd_c ?_ | refine rd_op ?_ | refine rd_cons ?_ | refine rd_nil ?_ | refine rd_cb ?_ | refine rd_call ?_ | refine rd_I0 ?_ | refine rd_eqI ?_ | refine rd_bx ?_ | refine rd_nn ?_ | refine rd_int1 ?_ | refine rd_max2 ?_ | refine rd_min2 ?_
    | refine rd_ret ?_ | refine rd_ifS ?_ | refine rd_test ?_ | refine rd_tB ?_ | refine rd_not ?_ | refine rd_and ?_ | refine rd_or ?_ | refine rd_un ?_ | refine rd_U ?_ | refine rd_next ?_ | refine rd_drop ?_ | refine rd_andV ?_ | refine rd_orV ?_ | refine rd_notV ?_ | refine rd_if ?_ | refine rd_neI ?_
    | refine rd_lst ?_ | refine rd_tup ?_ | refine rd_sl ?_ | refine rd_bm ?_ | refine rd_chain ?_ | refine rd_asgS ?_ | refine iteT ?_ | refine iteF ?_ | refine if_nn ?_ | refine if_nf ?_ | refine if_nt ?_ | refine if_nnN ?_ | refine if_n_int ?_ | refine if_n_bl ?_ | refine if_n_str ?_ | refine if_n_ref ?_ | refine if_nN_int ?_ | refine if_nN_bl ?_ | refine if_nN_str ?_ | refine if_nN_ref ?_ | refine rd_eqB ?_ | refine rd_eqS ?_ | refine rd_neB ?_ | refine rd_part ?_ | refine rd_nopart ?_ | refine rd_for ?_ | refine rd_iRng1 ?_ | refine rd_iList ?_ | refine rd_iTup ?_ | refine rd_lc ?_ | refine rd_callS ?_ | refine rd_callKS ?_ | refine rd_mkO ?_ | refine rd_ckw ?_ | refine rd_xf ?_
    | refine rd_p9 ?_ | refine rd_p11 ?_ | refine rd_p12 ?_ | refine rd_p13 ?_ | refine rd_p18 ?_ | refine rd_p30 ?_ | refine rd_p40 ?_ | refine rd_ss ?_ | refine rd_s1 ?_ | refine rd_i1 ?_ | refine rd_fld ?_ | refine rd_sfld ?_ | refine rd_make ?_ | refine rd_makeS ?_ | refine rd_lrv ?_ | refine rd_dnewK ?_ | refine rd_dput ?_ | refine rd_dnotin ?_ | refine rd_yes ?_ | refine rd_callNS ?_ | refine rd_callSD ?_ | refine rd_ii ?_ | refine rd_si ?_ | refine rd_iStr ?_ | refine rd_iSeq ?_ | refine rd_raise ?_ | refine rd_pass ?_ | refine rd_m0 ?_ | refine rd_m1 ?_ | refine rd_isS ?_ | refine rd_neS ?_ | refine rd_js ?_ | refine rd_js0 ?_ | refine rd_fmt ?_ | refine rd_st1 ?_ | refine rd_nl ?_ | refine rd_st2 ?_ | refine rd_prop ?_ | refine rd_sm ?_ | refine rd_smK ?_ | refine rd_smI ?_
  | ((with_reducible refine rd_var (v := ?v) ?hv ?_); (case hv => exact rfl))
  | ((with_reducible refine rd_setS (j := ?j) ?he ?_); (case he => exact rfl))
  | ((with_reducible refine rd_isi (a := ?a) (b := ?b) ?ty ?k ?_); (case ty => first | exact TyOf.int _ | exact TyOf.bl _ | exact TyOf.non | exact TyOf.str _); (case k => with_reducible first | exact kb_int_int | exact kb_int_bool | exact kb_int_str | exact kb_int_dict | exact kb_int_list | exact kb_int_tuple | exact kb_bool_int | exact kb_bool_bool | exact kb_bool_str | exact kb_bool_dict | exact kb_bool_list | exact kb_bool_tuple | exact kb_NoneType_int | exact kb_NoneType_bool | exact kb_NoneType_str | exact kb_NoneType_dict | exact kb_NoneType_list | exact kb_NoneType_tuple | exact kb_str_int | exact kb_str_bool | exact kb_str_str | exact kb_str_dict | exact kb_str_list | exact kb_str_tuple))
  | ((with_reducible refine rd_isiL (b := ?b) (by assumption) ?k ?_); (case k => with_reducible first | exact kb_list_int | exact kb_list_bool | exact kb_list_str | exact kb_list_dict | exact kb_list_list | exact kb_list_tuple))
  | ((with_reducible refine rd_isiT (b := ?b) (by assumption) ?k ?_); (case k => with_reducible first | exact kb_tuple_int | exact kb_tuple_bool | exact kb_tuple_str | exact kb_tuple_dict | exact kb_tuple_list | exact kb_tuple_tuple))
  | ((with_reducible refine rd_I ?hc ?_); (case hc => walk_at "sideE"))
  | ((with_reducible refine rd_ixL (xs := ?xs) (v := ?v) ?hh ?he ?_); (case hh => first | exact upd_same | assumption); (case he => exact rfl)))
local macro_rules | `(tactic| walk_at "rdE") => `(tactic| repeat walk_at "rd1E")

section
variable {P : Program} {w : World} {K : PySem.W.Frag} {mg : Str → Option Value} {base : Heap} {C CT : Addr}
/-! ### BadText -/
theorem ok_BadText_init {k : Nat} {f : Addr} {fd : FuncData} (F : Fun K "__init__" "BadText.__init__" sBadText___init__ f fd) : FnOk P w K mg base CX0 (k + 1) f fd ["self", "line"] (spInit1 K "line") := by
  refine F.ok scBadText___init__ (fun vs H Q E h => ?_) (fun cdv A outer s H vs Q E hr h => ?_)
  · obtain ⟨a, C, v, rfl, _⟩ := h; rfl
  · obtain ⟨a, C, v, rfl, ox, nf, ha, h⟩ := h
    refine ⟨_, (pss_one (ps_ost (pv 0) (pv 1))), ?_⟩
    exact ⟨v, rfl, .ref a, rfl, a, C, rfl, ox, nf, .inl ⟨ha, h⟩⟩
def ErrT (E : XK) (C : Addr) (H : Hp) : Prop := ∀ d H', Same H H' → H' d = some (.xd [("line", .int 1)]) → E (.ref C) (some d) H'
/-! ### number_text -/
theorem log_InR {n : Int} (h : InR n) : n.natAbs.log2 < 1920 := by
  by_cases h0 : n.natAbs = 0
  · rw [h0]; decide
  · refine Nat.lt_of_lt_of_le ((Nat.log2_lt h0).mpr (?_ : n.natAbs < 2 ^ 40)) (by decide)
    unfold InR at h; omega
def spNumText (C : Addr) : Sp := fun vs H Q E => ∃ v, vs = [v] ∧ Sc v ∧ (∀ n, v = .int n → InR n → Q (.str (toString n)) H) ∧ (isNum v = false → Err E C H v)
theorem isNum_int {v : V} (h : isNum v = true) : ∃ n, v = .int n ∧ InR n := by
  cases v <;> first | exact ⟨_, rfl, of_decide_eq_true h⟩ | cases h
theorem ok_number_text {k : Nat} {f : Addr} {fd : FuncData} (F : Fun K "number_text" "number_text" snumber_text f fd) (T : Blt mg) (Hcheck_number : HasX P w K mg base "check_number" k ["value"] (spCheck C)) : FnOk P w K mg base (L2.CX P w) (k + 1) f fd ["number"] (spNumText C) := by
  refine F.okX scnumber_text (fun vs H Q E h => ?_) (fun cdv A outer s H vs Q E hr h => ?_)
  · obtain ⟨v, rfl, _⟩ := h; rfl
  · obtain ⟨v, rfl, sv, h1, h2⟩ := h
    refine ⟨_, (pss_one (ps_ret (pe_callTy call_str_int (by rfl) T.str (by decide +kernel) (pa_cons (pe_callX Hcheck_number hr (by rfl) (takes_of rfl rfl rfl rfl) (pa_cons (pv 0) pa_nil)) pa_nil)))), ?_⟩
    walk_at "rdE"
    refine ⟨v, rfl, sv, fun nv => ?_, h2⟩
    obtain ⟨n, rfl, hn⟩ := isNum_int nv
    walk_at "rdE"
    exact ⟨log_InR hn, h1 n rfl hn⟩
/-! ### parse_number -/
theorem sw_minus (z : Str) : Txt.startswith z "-" = decide ((TL.tl z).head? = some 45) := by
  have h := TL.at_iff (x := z) (y := "-") (by decide) 0
  have e : Txt.startswith z "-" = true ↔ PySem.StrLaws.At z "-" z.length 0 := by
    unfold Txt.startswith
    rw [Bool.and_eq_true, decide_eq_true_iff]; exact Iff.rfl
  rw [Bool.eq_iff_iff, e, h, decide_eq_true_iff, List.drop_zero]
  have e2 : TL.tl "-" = [45] := by decide
  rw [e2]
  unfold TL.pre
  cases TL.tl z with
  | nil => simp
  | cons c r => simp
theorem cut_from (z : Str) (k : Nat) : TL.tl (cutS z (some (k : Int)) none) = (TL.tl z).drop k := by
  show ((z.cps.toList.drop _).take _).toArray.toList = _
  rw [List.toList_toArray, HT.sIx_none, HT.sIx_nat]
  by_cases h : k ≤ z.length
  · rw [Nat.min_eq_left h, List.take_of_length_le (by rw [List.length_drop, len_l]; omega)]
  · have e1 : min k z.length = z.length := by omega
    rw [e1, Nat.sub_self, List.take_zero]
    exact (List.drop_eq_nil_of_le (by rw [len_l]; omega)).symm
theorem figs_cut (z : Str) : figs (TL.tl z) = TL.tl (if (TL.tl z).head? = some 45 then cutS z (some 1) none else z) := by
  rcases figs_cases (TL.tl z) with ⟨r, e, ef, _⟩ | ⟨hm, ef, _⟩
  · rw [if_pos (by rw [e]; rfl), ef]
    have := cut_from z 1
    rw [show (some ((1 : Nat) : Int)) = some (1 : Int) from rfl] at this
    rw [this, e]; rfl
  · rw [if_neg hm, ef]
theorem ascdig {x : Str} : (Txt.isascii x = true ∧ Txt.isdigit x = true) ↔ (TL.tl x ≠ [] ∧ NumText.AllDigits (TL.tl x)) := by
  have hl : 0 < x.length ↔ TL.tl x ≠ [] := by
    rw [TL.len_tl]; exact List.length_pos_iff
  unfold Txt.isascii Txt.isdigit
  rw [Bool.and_eq_true, decide_eq_true_iff, ← Array.all_toList, ← Array.all_toList, List.all_eq_true, List.all_eq_true]
  constructor
  · rintro ⟨h1, h2, h3⟩
    refine ⟨hl.mp h2, fun c hc => ?_⟩
    have a := h1 c hc
    have b := h3 c hc
    rw [isDig c (by simpa using a)] at b
    simpa using b
  · rintro ⟨h1, h2⟩
    refine ⟨fun c hc => ?_, hl.mpr h1, fun c hc => ?_⟩
    · have := h2 c hc; exact decide_eq_true (by omega)
    · have := h2 c hc
      rw [isDig c (by omega)]; simp; exact this
def spParseNum (C : Addr) : Sp := fun vs H Q E => ∃ z : Str, vs = [.str z] ∧ z.length ≤ 1000 ∧ (∀ n, rdL (TL.tl z) = some n → Q (.int n) H) ∧ (rdL (TL.tl z) = none → ErrT E C H)
theorem rd_none {l : List Nat} (h : ¬ (Fig l ∧ (figs l).length ≤ 13 ∧ Neat l ∧ InR (valI l))) : rdL l = none := by
  cases e : rdL l with
  | none => rfl
  | some n =>
    obtain ⟨a, b, c, d, rfl⟩ := rd_some e
    exact absurd ⟨a, b, c, d⟩ h
theorem figs_le {l : List Nat} (h : (figs l).length ≤ 13) : l.length ≤ 14 := by
  rcases figs_cases l with ⟨r, rfl, ef, _⟩ | ⟨_, ef, _⟩ <;> rw [ef] at h
  · simp; omega
  · omega
theorem str_numI {z : Str} {n : Int} : toString n = z ↔ numI n = TL.tl z := by
  constructor
  · intro e; rw [← e]; exact (tl_numI n).symm
  · intro e; exact TL.ext_tl (by rw [← e]; exact tl_numI n)
theorem ok_parse_number {k : Nat} {f : Addr} {fd : FuncData} (F : Fun K "parse_number" "parse_number" sparse_number f fd) (T : Blt mg) (E_BadText : ErrC K mg "BadText" C) (I_BadText : HasI P w K mg base C 1 ["self", "line"] (spInit1 K "line")) (N_BadText_line : PySem.W.findIn K (.ref C) "line" = some none)
    (His_number : Has P w K mg base "is_number" k ["value"] spIsNum) (hk : 2 ≤ k) : FnOk P w K mg base (L2.CX P w) (k + 1) f fd ["text"] (spParseNum C) := by
  refine F.okX scparse_number (fun vs H Q E h => ?_) (fun cdv A outer s H vs Q E hr h => ?_)
  · obtain ⟨v, rfl, _⟩ := h; rfl
  · obtain ⟨z, rfl, hz, h1, h2⟩ := h
    refine ⟨_, (pss_cons (ps_if (pt_cmpR op_gt (pe_callB call_len_str (by rfl) T.len (by decide +kernel) (pa_cons (pv 0) pa_nil)) (pe_globI rfl T.g_LONGEST_NUMBER) (nomark _)) (pss_one (ps_raiseC rfl (takes_of rfl rfl rfl rfl) E_BadText I_BadText hr (by omega) (by rfl) (pa_cons pe_int pa_nil))) pss_nil)
 (pss_cons (ps_set (i := 1) scparse_number.nd rfl (.inl rfl) (pe_ifExp (pt_val (pe_m1 PySem.F.slot_str_startswith PySem.F.type_str_startswith mt_startswith (pv 0) pe_str)) (pe_slice sl_str (pv 0) (po_some pe_int) po_none) (pv 0)))
 (pss_cons (ps_if (PW.pt (pw_or (pt_not (pt_val (pe_m0 PySem.F.slot_str_isascii PySem.F.type_str_isascii mt_isascii (pv 1)))) (pw_or1 (pt_not (pt_val (pe_m0 PySem.F.slot_str_isdigit PySem.F.type_str_isdigit mt_isdigit (pv 1))))))) (pss_one (ps_raiseC rfl (takes_of rfl rfl rfl rfl) E_BadText I_BadText hr (by omega) (by rfl) (pa_cons pe_int pa_nil))) pss_nil)
 (pss_cons (ps_set (i := 2) scparse_number.nd rfl (.inl rfl) (pe_callTy call_int_str (by rfl) T.int (by decide +kernel) (pa_cons (pv 0) pa_nil)))
 (pss_cons (ps_if (PW.pt (pw_or (pt_not (pt_val (pe_callH His_number hr (by rfl) (pa_cons (pv 2) pa_nil)))) (pw_or1 (pt_cmpR op_ne (pe_callTy call_str_int (by rfl) T.str (by decide +kernel) (pa_cons (pv 2) pa_nil)) (pv 0) (nomark _))))) (pss_one (ps_raiseC rfl (takes_of rfl rfl rfl rfl) E_BadText I_BadText hr (by omega) (by rfl) (pa_cons pe_int pa_nil))) pss_nil)
 (pss_one (ps_ret (pv 2)))))))), ?_⟩
    have hzl := TL.len_tl z
    walk_at "rdE"
    refine ⟨sz (by omega), ?_⟩
    walk_at "rdE"
    refine if_dec (fun hl => ?_) (fun hl => ?_)
    · walk_at "rdE"
      exact rd_mk1 E_BadText.ox N_BadText_line fun d H' _ sm e => h2 (rd_none fun q => by have := figs_le q.2.1; omega) d H' sm e
    · walk_at "rdE"
      refine if_bool (fun hm => ?_) (fun hm => ?_)
      · have hd : TL.tl (cutS z (some 1) none) = figs (TL.tl z) := by rw [figs_cut, if_pos (by rw [sw_minus] at hm; exact of_decide_eq_true hm)]
        walk_at "rdE"
        refine ⟨z, rfl, sz (by omega), ?_⟩
        generalize cutS z (some 1) none = D at hd ⊢
        walk_at "rdE"
        refine if_nbool (fun ha => ?_) (fun ha => ?_)
        · walk_at "rdE"
          exact rd_mk1 E_BadText.ox N_BadText_line fun d H' _ sm e => h2 (rd_none fun q => by have := ((ascdig (x := D)).mpr (by rw [hd]; exact q.1)).1; rw [ha] at this; cases this) d H' sm e
        · walk_at "rdE"
          refine if_nbool (fun hg => ?_) (fun hg => ?_)
          · walk_at "rdE"
            exact rd_mk1 E_BadText.ox N_BadText_line fun d H' _ sm e => h2 (rd_none fun q => by have := ((ascdig (x := D)).mpr (by rw [hd]; exact q.1)).2; rw [hg] at this; cases this) d H' sm e
          · have hF : Fig (TL.tl z) := by have := ascdig.mp ⟨ha, hg⟩; rw [hd] at this; exact this
            walk_at "rdE"
            refine ⟨z, valI (TL.tl z), rfl, toInt_text hF (by omega), by omega, ?_⟩
            walk_at "rdE"
            refine ⟨.int (valI (TL.tl z)), rfl, trivial, ?_⟩
            walk_at "rdE"
            refine if_nbool (fun hi => ?_) (fun hi => ?_)
            · walk_at "rdE"
              exact rd_mk1 E_BadText.ox N_BadText_line fun d H' _ sm e => h2 (rd_none fun q => by have := decide_eq_true q.2.2.2; rw [show decide (InR (valI (TL.tl z))) = false from hi] at this; cases this) d H' sm e
            · have hr : InR (valI (TL.tl z)) := of_decide_eq_true hi
              walk_at "rdE"
              refine ⟨log_InR hr, ?_⟩
              walk_at "rdE"
              refine if_ndec (fun he => ?_) (fun he => ?_)
              · walk_at "rdE"
                exact rd_mk1 E_BadText.ox N_BadText_line fun d H' _ sm e => h2 (rd_none fun q => he (str_numI.mpr ((neat_iff hF).mpr q.2.2.1))) d H' sm e
              · have hn : Neat (TL.tl z) := (neat_iff hF).mp (str_numI.mp he)
                walk_at "rdE"
                exact h1 _ (rd_of (by omega) hF hn hr)
      · have hd : TL.tl z = figs (TL.tl z) := by rw [figs_cut, if_neg (by rw [sw_minus] at hm; exact of_decide_eq_false hm)]
        walk_at "rdE"
        refine if_nbool (fun ha => ?_) (fun ha => ?_)
        · walk_at "rdE"
          exact rd_mk1 E_BadText.ox N_BadText_line fun d H' _ sm e => h2 (rd_none fun q => by have := ((ascdig (x := z)).mpr (by rw [hd]; exact q.1)).1; rw [ha] at this; cases this) d H' sm e
        · walk_at "rdE"
          refine if_nbool (fun hg => ?_) (fun hg => ?_)
          · walk_at "rdE"
            exact rd_mk1 E_BadText.ox N_BadText_line fun d H' _ sm e => h2 (rd_none fun q => by have := ((ascdig (x := z)).mpr (by rw [hd]; exact q.1)).2; rw [hg] at this; cases this) d H' sm e
          · have hF : Fig (TL.tl z) := by have := ascdig.mp ⟨ha, hg⟩; rw [hd] at this; exact this
            walk_at "rdE"
            refine ⟨z, valI (TL.tl z), rfl, toInt_text hF (by omega), by omega, ?_⟩
            walk_at "rdE"
            refine ⟨.int (valI (TL.tl z)), rfl, trivial, ?_⟩
            walk_at "rdE"
            refine if_nbool (fun hi => ?_) (fun hi => ?_)
            · walk_at "rdE"
              exact rd_mk1 E_BadText.ox N_BadText_line fun d H' _ sm e => h2 (rd_none fun q => by have := decide_eq_true q.2.2.2; rw [show decide (InR (valI (TL.tl z))) = false from hi] at this; cases this) d H' sm e
            · have hr : InR (valI (TL.tl z)) := of_decide_eq_true hi
              walk_at "rdE"
              refine ⟨log_InR hr, ?_⟩
              walk_at "rdE"
              refine if_ndec (fun he => ?_) (fun he => ?_)
              · walk_at "rdE"
                exact rd_mk1 E_BadText.ox N_BadText_line fun d H' _ sm e => h2 (rd_none fun q => he (str_numI.mpr ((neat_iff hF).mpr q.2.2.1))) d H' sm e
              · have hn : Neat (TL.tl z) := (neat_iff hF).mp (str_numI.mp he)
                walk_at "rdE"
                exact h1 _ (rd_of (by omega) hF hn hr)
/-! ### end_text, parse_end -/
def endS : V → Str
  | .int n => toString n
  | _ => Str.empty
def spEndText : Sp := fun vs H Q _ => ∃ v, vs = [v] ∧ OpE v ∧ Q (.str (endS v)) H
theorem ok_end_text {k : Nat} {f : Addr} {fd : FuncData} (F : Fun K "end_text" "end_text" send_text f fd) (T : Blt mg) (Hnumber_text : HasX P w K mg base "number_text" k ["number"] (spNumText C)) : FnOk P w K mg base (L2.CX P w) (k + 1) f fd ["end"] spEndText := by
  refine F.okX scend_text (fun vs H Q E h => ?_) (fun cdv A outer s H vs Q E hr h => ?_)
  · obtain ⟨v, rfl, _⟩ := h; rfl
  · obtain ⟨v, rfl, ov, h⟩ := h
    refine ⟨_, (pss_one (ps_ret (pe_ifExp (pt_cmpR op_isN (pv 0) pe_non (nomark _)) pe_str (pe_callX Hnumber_text hr (by rfl) (takes_of rfl rfl rfl rfl) (pa_cons (pv 0) pa_nil))))), ?_⟩
    obtain ⟨rfl | ⟨n, rfl⟩, o⟩ := ov
    · walk_at "rdE"
      exact h
    · walk_at "rdE"
      refine ⟨.int n, rfl, trivial, fun m e hm => ?_, fun q => ?_⟩
      · cases e; exact h
      · rw [show isOpen (.int n) = isNum (.int n) from rfl, q] at o; cases o
/-- a text as an end: nothing is no end -/
def rdE (l : List Nat) : Option V := if l = [] then some .non else (rdL l).map V.int
def spParseEnd (C : Addr) : Sp := fun vs H Q E => ∃ z : Str, vs = [.str z] ∧ z.length ≤ 1000 ∧ (∀ v, rdE (TL.tl z) = some v → Q v H) ∧ (rdE (TL.tl z) = none → ErrT E C H)
theorem empty_iff {z : Str} : z = "" ↔ TL.tl z = [] := by
  constructor
  · intro e; rw [e]; rfl
  · intro e; exact TL.ext_tl (by rw [e]; rfl)
theorem ok_parse_end {k : Nat} {f : Addr} {fd : FuncData} (F : Fun K "parse_end" "parse_end" sparse_end f fd) (T : Blt mg) (Hparse_number : HasX P w K mg base "parse_number" k ["text"] (spParseNum C)) : FnOk P w K mg base (L2.CX P w) (k + 1) f fd ["text"] (spParseEnd C) := by
  refine F.okX scparse_end (fun vs H Q E h => ?_) (fun cdv A outer s H vs Q E hr h => ?_)
  · obtain ⟨v, rfl, _⟩ := h; rfl
  · obtain ⟨z, rfl, hz, h1, h2⟩ := h
    refine ⟨_, (pss_one (ps_ret (pe_ifExp (pt_cmpR op_eq (pv 0) pe_str (nomark _)) pe_non (pe_callX Hparse_number hr (by rfl) (takes_of rfl rfl rfl rfl) (pa_cons (pv 0) pa_nil))))), ?_⟩
    walk_at "rdE"
    refine if_dec (fun he => ?_) (fun he => ?_)
    · have e := empty_iff.mp (V.str.inj he)
      walk_at "rdE"
      exact h1 _ (by unfold rdE; rw [if_pos e])
    · have e : TL.tl z ≠ [] := fun q => he (by rw [empty_iff.mpr q])
      walk_at "rdE"
      refine ⟨z, rfl, hz, fun n hn => ?_, fun hn => ?_⟩
      · exact h1 _ (by unfold rdE; rw [if_neg e, hn]; rfl)
      · exact h2 (by unfold rdE; rw [if_neg e, hn]; rfl)
/-! ### _law_read -/
theorem fig_in {c : Nat} : c ∈ ("0123456789" : Str).cps.toList ↔ 48 ≤ c ∧ c ≤ 57 := by
  show c ∈ [48, 49, 50, 51, 52, 53, 54, 55, 56, 57] ↔ _
  simp only [List.mem_cons, List.not_mem_nil, or_false]
  omega
def optV : Option Int → V
  | some n => .int n
  | none => .non
def spRead : Sp := fun vs H Q _ => ∃ z : Str, vs = [.str z] ∧ z.length ≤ 1000 ∧ Q (optV (rdL (TL.tl z))) H
theorem ok_read {k : Nat} {f : Addr} {fd : FuncData} (F : Fun K "_law_read" "_law_read" s_law_read f fd) (T : Blt mg) (H_law_is_number : Has P w K mg base "_law_is_number" k ["value"] spIsNum) : FnOk P w K mg base CX0 (k + 1) f fd ["word"] spRead := by
  refine F.ok sc_law_read (fun vs H Q E h => ?_) (fun cdv A outer s H vs Q E hr h => ?_)
  · obtain ⟨v, rfl, _⟩ := h; rfl
  · obtain ⟨z, rfl, hz, h⟩ := h
    refine ⟨_, (pss_cons (ps_set (i := 1) sc_law_read.nd rfl (.inl rfl) (pv 0))
 (C8.pss_cut (ps_if (pt_val (pe_m1 PySem.F.slot_str_startswith PySem.F.type_str_startswith mt_startswith (pv 0) pe_str)) (pss_one (ps_set (i := 1) sc_law_read.nd rfl (.inl rfl) (pe_slice sl_str (pv 0) (po_some pe_int) po_none))) pss_nil)
 (pss_cons (ps_if (PW.pt (pw_or (pt_cmpR op_eq (pv 1) pe_str (nomark _)) (pw_or1 (pt_cmpR op_gt (pe_callB call_len_str (by rfl) T.len (by decide +kernel) (pa_cons (pv 1) pa_nil)) pe_int (nomark _))))) (pss_one (ps_ret pe_non)) pss_nil)
 (pss_cons (ps_for PassesOwn.never rfl (pi_str (pv 1)) (pg_name (i := 2) sc_law_read.nd rfl (.inl rfl)) (pss_one (ps_if (pt_cmpR op_notIn_sign (pv 2) pe_str (by rfl)) (pss_one (ps_ret pe_non)) pss_nil)))
 (pss_cons (ps_if (PW.pt (pw_and (pt_cmpR op_eq (pe_ix ix_str (pv 1) pe_int (fun _ _ => rfl)) pe_str (nomark _)) (pw_and1 (pt_cmpR op_ne (pv 0) pe_str (nomark _))))) (pss_one (ps_ret pe_non)) pss_nil)
 (pss_cons (ps_if (pt_not (pt_val (pe_callH H_law_is_number hr (by rfl) (pa_cons (pe_callTy call_int_str (by rfl) T.int (by decide +kernel) (pa_cons (pv 0) pa_nil)) pa_nil)))) (pss_one (ps_ret pe_non)) pss_nil)
 (pss_one (ps_ret (pe_callTy call_int_str (by rfl) T.int (by decide +kernel) (pa_cons (pv 0) pa_nil)))))))))), ?_⟩
    have hzl := TL.len_tl z
    walk_at "rdE"
    refine rd_cut (fun σ' H' => ∃ D : Str, σ' = [some (.str z), some (.str D), none] ∧ TL.tl D = figs (TL.tl z) ∧ H' = H) ?_ ?_
    · walk_at "rdE"
      refine if_bool (fun hm => ?_) (fun hm => ?_)
      · walk_at "rdE"
        refine ⟨z, rfl, sz (by omega), ?_⟩
        walk_at "rdE"
        exact ⟨_, rfl, by rw [figs_cut, if_pos (by rw [sw_minus] at hm; exact of_decide_eq_true hm)], rfl⟩
      · walk_at "rdE"
        exact ⟨_, rfl, by rw [figs_cut, if_neg (by rw [sw_minus] at hm; exact of_decide_eq_false hm)], rfl⟩
    · rintro σ' H' ⟨D, rfl, hd, rfl⟩
      have hdl : D.length = (figs (TL.tl z)).length := by rw [TL.len_tl, hd]
      have hle : (figs (TL.tl z)).length ≤ z.length := by
        rcases figs_cases (TL.tl z) with ⟨r, e, ef, _⟩ | ⟨_, ef, _⟩ <;> rw [ef, hzl]
        · rw [e]; simp
        · omega
      have no : rdL (TL.tl z) = none → Q .non H' := fun e => by rw [e] at h; exact h
      walk_at "rdE"
      refine if_dec (fun he => ?_) (fun he => ?_)
      · walk_at "rdE"
        exact no (rd_none fun q => q.1.1 (by rw [← hd]; exact empty_iff.mp (V.str.inj he)))
      · have hne : TL.tl D ≠ [] := fun q => he (by rw [empty_iff.mpr q])
        walk_at "rdE"
        refine ⟨sz (by omega), ?_⟩
        walk_at "rdE"
        refine if_dec (fun hl => ?_) (fun hl => ?_)
        · walk_at "rdE"
          exact no (rd_none fun q => by omega)
        · walk_at "rdE"
          refine for_sgn (fun i σ H1 => ∃ y, σ = [some (.str z), some (.str D), y] ∧ H1 = H' ∧ ∀ d ∈ D.cps.toList.take i, 48 ≤ d ∧ d ≤ 57) ⟨_, rfl, rfl, by simp⟩ ?_ ?_
          · rintro i d σ H1 hid ⟨y, rfl, rfl, ha⟩
            walk_at "rdE"
            refine ⟨d, _, rfl, rfl, ?_⟩
            walk_at "rdE"
            refine if_ndec (fun hn => ?_) (fun hn => ?_)
            · walk_at "rdE"
              refine no (rd_none fun q => hn (fig_in.mpr (q.1.2 d (by rw [← hd]; exact List.mem_of_getElem? hid))))
            · walk_at "rdE"
              refine ⟨_, rfl, rfl, fun x hx => ?_⟩
              rw [List.take_add_one, hid] at hx
              rcases List.mem_append.mp hx with q | q
              · exact ha x q
              · have : x = d := by simpa using q
                rw [this]; exact fig_in.mp hn
          · rintro σ H1 ⟨y, rfl, rfl, ha⟩
            have hD : NumText.AllDigits (TL.tl D) := fun c hc => ha c (by rw [List.take_of_length_le (by rw [len_l]; omega)]; exact hc)
            have hF : Fig (TL.tl z) := ⟨by rw [← hd]; exact hne, by rw [← hd]; exact hD⟩
            obtain ⟨c, r, hcr⟩ : ∃ c r, TL.tl D = c :: r := by
              cases e : TL.tl D with
              | nil => exact absurd e hne
              | cons c r => exact ⟨c, r, rfl⟩
            walk_at "rdE"
            refine rd_ixS (c := c) (by omega) (by rw [show D.cps.toList = c :: r from hcr]; simp [atI, ixN]) ?_
            have fin : Neat (TL.tl z) → intText? z = some (valI (TL.tl z)) ∧ (∀ b, b = isNum (.int (valI (TL.tl z))) → (b = false → Q .non H1) ∧ (b = true → Q (.int (valI (TL.tl z))) H1)) := fun hn => by
              refine ⟨toInt_text hF (by omega), fun b eb => ⟨fun q => no (rd_none fun q2 => ?_), fun q => ?_⟩⟩
              · rw [q] at eb
                exact absurd q2.2.2.2 (of_decide_eq_false (eb.symm : decide (InR _) = false))
              · rw [q] at eb
                have hr : InR (valI (TL.tl z)) := of_decide_eq_true (eb.symm : decide (InR _) = true)
                rw [rd_of (by have := figs_le (l := TL.tl z) (by omega); omega) hF hn hr] at h
                exact h
            walk_at "rdE"
            refine if_dec (fun h0 => ?_) (fun h0 => ?_)
            · have c0 : c = 48 := by
                have := congrArg (fun s : Str => s.cps.toList) (V.str.inj h0)
                have e : [c] = [48] := this
                simpa using e
              walk_at "rdE"
              refine if_ndec (fun hz0 => ?_) (fun hz0 => ?_)
              · walk_at "rdE"
                refine no (rd_none fun q => hz0 (TL.ext_tl (by rw [q.2.2.1 (by rw [← hd, hcr, c0]; rfl)]; rfl)))
              · have hn : Neat (TL.tl z) := fun _ => by rw [hz0]; rfl
                walk_at "rdE"
                obtain ⟨f1, f2⟩ := fin hn
                refine ⟨z, _, rfl, f1, by have := figs_le (l := TL.tl z) (by omega); omega, ?_⟩
                walk_at "rdE"
                refine ⟨_, rfl, trivial, ?_⟩
                walk_at "rdE"
                refine if_nbool (fun hi => ?_) (fun hi => ?_)
                · walk_at "rdE"
                  exact (f2 _ rfl).1 hi
                · walk_at "rdE"
                  refine ⟨z, _, rfl, f1, by have := figs_le (l := TL.tl z) (by omega); omega, ?_⟩
                  exact (f2 _ rfl).2 hi
            · have hn : Neat (TL.tl z) := fun q => by
                rw [← hd, hcr] at q
                have : c = 48 := by simpa using q
                rw [this] at h0
                exact absurd rfl h0
              walk_at "rdE"
              obtain ⟨f1, f2⟩ := fin hn
              refine ⟨z, _, rfl, f1, by have := figs_le (l := TL.tl z) (by omega); omega, ?_⟩
              walk_at "rdE"
              refine ⟨_, rfl, trivial, ?_⟩
              walk_at "rdE"
              refine if_nbool (fun hi => ?_) (fun hi => ?_)
              · walk_at "rdE"
                exact (f2 _ rfl).1 hi
              · walk_at "rdE"
                refine ⟨z, _, rfl, f1, by have := figs_le (l := TL.tl z) (by omega); omega, ?_⟩
                exact (f2 _ rfl).2 hi
/-! ### _law_ends_text -/
def dots : Str := ".."
def endsS (l h : V) : Str := endS l ++ dots ++ endS h
theorem app_empty (z : Str) : z ++ Str.empty = z := str_ext (by rw [app_l]; exact List.append_nil _)
theorem endS_len {v : V} (h : OpE v) : (endS v).length ≤ 14 := by
  obtain ⟨rfl | ⟨n, rfl⟩, o⟩ := h
  · exact Nat.zero_le _
  · have hr : InR n := of_decide_eq_true o
    show (Str.ofString (toString n)).length ≤ 14
    have := rd_some (rd_numI hr)
    rw [TL.len_tl, tl_numI]
    exact figs_le this.2.1
def spEndsText : Sp := fun vs H Q _ => ∃ (q : Addr) (l h : V), vs = [.ref q] ∧ H q = some (.tup [l, h]) ∧ OpE l ∧ OpE h ∧ Q (.str (endsS l h)) H
theorem op_InR {n : Int} (h : OpE (.int n)) : InR n := of_decide_eq_true h.2
theorem ok_ends_text {k : Nat} {f : Addr} {fd : FuncData} (F : Fun K "_law_ends_text" "_law_ends_text" s_law_ends_text f fd) (T : Blt mg) : FnOk P w K mg base CX0 (k + 1) f fd ["ends"] spEndsText := by
  refine F.ok sc_law_ends_text (fun vs H Q E h => ?_) (fun cdv A outer s H vs Q E hr h => ?_)
  · obtain ⟨q, l, h, rfl, _⟩ := h; rfl
  · obtain ⟨q, l, hh, rfl, hq, ol, oh, h⟩ := h
    refine ⟨_, (pss_cons (ps_set (i := 1) sc_law_ends_text.nd rfl (.inl rfl) pe_str)
 (C8.pss_cut (ps_if (pt_cmpR op_notN (pe_ix ix_seq (pv 0) pe_int (fun _ _ => rfl)) pe_non (nomark _)) (pss_one (ps_set (i := 1) sc_law_ends_text.nd rfl (.inl rfl) (pe_op op_add_str (pe_callTy call_str_int (by rfl) T.str (by decide +kernel) (pa_cons (pe_ix ix_seq (pv 0) pe_int (fun _ _ => rfl)) pa_nil)) (pv 1)))) pss_nil)
 (pss_cons (ps_if (pt_cmpR op_notN (pe_ix ix_seq (pv 0) pe_int (fun _ _ => rfl)) pe_non (nomark _)) (pss_one (ps_set (i := 1) sc_law_ends_text.nd rfl (.inl rfl) (pe_op op_add_str (pv 1) (pe_callTy call_str_int (by rfl) T.str (by decide +kernel) (pa_cons (pe_ix ix_seq (pv 0) pe_int (fun _ _ => rfl)) pa_nil))))) pss_nil)
 (pss_one (ps_ret (pv 1)))))), ?_⟩
    have len1 := endS_len ol
    have len2 := endS_len oh
    have ld : dots.length = 2 := rfl
    walk_at "rdE"
    refine rd_cut (fun σ' H' => σ' = [some (.ref q), some (.str (endS l ++ dots))] ∧ H' = H) ?_ ?_
    · obtain ⟨rfl | ⟨i, rfl⟩, o1⟩ := id ol
      · walk_at "rdE"
        refine rd_ixQT hq rfl ?_
        walk_at "rdE"
        exact ⟨by rw [show endS V.non = Str.empty from rfl, empty_app]; rfl, rfl⟩
      · walk_at "rdE"
        refine rd_ixQT hq rfl ?_
        walk_at "rdE"
        refine rd_ixQT hq rfl ?_
        walk_at "rdE"
        refine ⟨log_InR (op_InR ol), ?_⟩
        walk_at "rdE"
        exact ⟨sz (by have : (Str.ofString (toString i)).length ≤ 14 := len1; have : (".." : Str).length = 2 := rfl; omega), rfl, rfl⟩
    · rintro σ' H' ⟨rfl, rfl⟩
      obtain ⟨rfl | ⟨j, rfl⟩, o2⟩ := id oh
      · walk_at "rdE"
        refine rd_ixQT hq rfl ?_
        walk_at "rdE"
        rw [show endsS l V.non = endS l ++ dots from app_empty _] at h
        exact h
      · walk_at "rdE"
        refine rd_ixQT hq rfl ?_
        walk_at "rdE"
        refine rd_ixQT hq rfl ?_
        walk_at "rdE"
        refine ⟨log_InR (op_InR oh), ?_⟩
        walk_at "rdE"
        exact ⟨sz (by rw [app_len]; have : (Str.ofString (toString j)).length ≤ 14 := len2; omega), by walk_at "rdE"; exact h⟩
end

abbrev sSpan_text : Stmt := inClass (topS 22) 1
theorem scSpan_text : FnScope ["self"] ["self"] (defScope sSpan_text) := ⟨rfl, rfl, rfl, by decide +kernel, rfl, by decide +kernel, by decide +kernel⟩
abbrev sSpan_parse : Stmt := inClass (topS 22) 6
theorem scSpan_parse : FnScope ["text", "low_text", "dots", "high_text", "low", "high"] ["text"] (defScope sSpan_parse) := ⟨rfl, rfl, rfl, by decide +kernel, rfl, by decide +kernel, by decide +kernel⟩
abbrev s_law_read_ends : Stmt := topS 39
theorem sc_law_read_ends : FnScope ["text", "pieces", "ends", "word"] ["text"] (defScope s_law_read_ends) := ⟨rfl, rfl, rfl, by decide +kernel, rfl, by decide +kernel, by decide +kernel⟩

section
variable {P : Program} {w : World} {K : PySem.W.Frag} {mg : Str → Option Value} {base : Heap} {C CE CB CT : Addr}
/-! ### a text of two ends -/
theorem part_len (z : Str) : (Txt.partition z dots).1.length ≤ z.length ∧ (Txt.partition z dots).2.2.length ≤ z.length := by
  rcases PyProof.Rows.partition_whole z dots with ⟨e, _⟩ | ⟨i, e, _, _⟩
  · rw [e]; exact ⟨Nat.le_refl _, Nat.zero_le _⟩
  · rw [e]
    refine ⟨?_, ?_⟩
    · dsimp only
      rw [TL.len_tl, TL.tl_strSub, TL.len_tl, List.length_take, List.length_drop]; omega
    · dsimp only
      rw [TL.len_tl, TL.tl_strSub, TL.len_tl, List.length_take, List.length_drop]; omega
def rdP (z : Str) : Option (V × V) :=
  match rdE (TL.tl (Txt.partition z dots).1), rdE (TL.tl (Txt.partition z dots).2.2) with
  | some l, some h => if (Txt.partition z dots).2.1 = "" then none else if crossed l h = true then none else some (l, h)
  | _, _ => none
theorem tl_endS {v : V} (h : OpE v) : rdE (TL.tl (endS v)) = some v ∧ 46 ∉ TL.tl (endS v) := by
  obtain ⟨rfl | ⟨n, rfl⟩, o⟩ := h
  · exact ⟨rfl, by decide⟩
  · have hr : InR n := of_decide_eq_true o
    have e : TL.tl (endS (.int n)) = numI n := tl_numI n
    rw [e]
    have hf := numI_fig n
    refine ⟨?_, fun hm => ?_⟩
    · unfold rdE
      rw [if_neg (fun q => by have := hf.1; rw [q] at this; exact this rfl), rd_numI hr]; rfl
    · rcases figs_cases (numI n) with ⟨r, e1, ef, _⟩ | ⟨_, ef, _⟩
      · rw [e1] at hm
        rcases List.mem_cons.mp hm with q | q
        · cases q
        · have := hf.2 46 (by rw [ef]; exact q); omega
      · have := hf.2 46 (by rw [ef]; exact hm); omega
theorem part_ends {l h : V} (ol : OpE l) : Txt.partition (endsS l h) dots = (endS l, dots, endS h) := TL.partition_app (s := 46) (S := [46]) rfl (tl_endS ol).2
theorem rdP_ends {l h : V} (ol : OpE l) (oh : OpE h) (c : crossed l h = false) : rdP (endsS l h) = some (l, h) := by
  unfold rdP
  rw [part_ends ol]
  dsimp only
  rw [(tl_endS ol).1, (tl_endS oh).1]
  dsimp only
  rw [if_neg (by decide), if_neg (by rw [c]; simp)]
/-! ### Span.text -/
def spText (C : Addr) : Sp := fun vs H Q _ => ∃ (a dx : Addr) (l h : V), vs = [.ref a] ∧ H a = some (.ins C dx (spn l h)) ∧ OpE l ∧ OpE h ∧ Q (.str (endsS l h)) H
theorem ok_text {k : Nat} {f : Addr} {fd : FuncData} (F : Fun K "text" "Span.text" sSpan_text f fd) (T : Blt mg) (S : SpC K C) (Hend_text : HasX P w K mg base "end_text" k ["end"] spEndText) : FnOk P w K mg base (L2.CX P w) (k + 1) f fd ["self"] (spText C) := by
  refine F.okX scSpan_text (fun vs H Q E h => ?_) (fun cdv A outer s H vs Q E hr h => ?_)
  · obtain ⟨a, dx, l, h, rfl, _⟩ := h; rfl
  · obtain ⟨a, dx, l, hh, rfl, ha, ol, oh, h⟩ := h
    refine ⟨_, (pss_one (ps_ret (pe_joined (.cons (pe_fmt (pe_callX Hend_text hr (by rfl) (takes_of rfl rfl rfl rfl) (pa_cons (pe_fld (pv 0) rfl) pa_nil))) (.cons pe_str (.cons (pe_fmt (pe_callX Hend_text hr (by rfl) (takes_of rfl rfl rfl rfl) (pa_cons (pe_fld (pv 0) rfl) pa_nil))) .nil)))))), ?_⟩
    have l1 := endS_len ol
    have l2 := endS_len oh
    walk_at "rdE"
    refine ⟨a, C, dx, _, l, rfl, ha, S.cl, S.nl, spn_low, ?_⟩
    walk_at "rdE"
    refine ⟨l, rfl, ol, .inl ⟨_, rfl, sz (by omega), ?_⟩⟩
    refine ⟨_, rfl, by rw [empty_app]; exact sz (by omega), ?_⟩
    rw [empty_app]
    walk_at "rdE"
    refine ⟨sz (by rw [app_len]; have : (".." : Str).length = 2 := rfl; omega), ?_⟩
    walk_at "rdE"
    refine ⟨a, C, dx, _, hh, rfl, ha, S.cl, S.nh, spn_high, ?_⟩
    walk_at "rdE"
    refine ⟨hh, rfl, oh, .inl ⟨_, rfl, sz (by omega), ?_⟩⟩
    refine ⟨_, rfl, sz (by rw [app_len, app_len]; have : (".." : Str).length = 2 := rfl; omega), ?_⟩
    walk_at "rdE"
    exact h
/-! ### Span.parse -/
def spParse (C CT : Addr) : Sp := fun vs H Q E => ∃ z : Str, vs = [.str z] ∧ z.length ≤ 1000 ∧ (∀ l h p dp H', rdP z = some (l, h) → OpE l → OpE h → Same H H' → H' p = some (.ins C dp (spn l h)) → Q (.ref p) H') ∧ (rdP z = none → ErrT E CT H)
theorem rdE_op {l : List Nat} {v : V} (h : rdE l = some v) : OpE v := by
  unfold rdE at h
  split at h
  · cases h; exact ⟨.inl rfl, rfl⟩
  · cases e : rdL l with
    | none => rw [e] at h; cases h
    | some n => rw [e] at h; cases h; exact ⟨.inr ⟨n, rfl⟩, decide_eq_true (rd_some e).2.2.2.1⟩
theorem ok_parse {k j : Nat} {f : Addr} {fd : FuncData} (F : Fun K "parse" "Span.parse" sSpan_parse f fd) (T : Blt mg) (E_BadText : ErrC K mg "BadText" CT) (I_BadText : HasI P w K mg base CT 1 ["self", "line"] (spInit1 K "line")) (N_BadText_line : PySem.W.findIn K (.ref CT) "line" = some none)
    (Hparse_end : HasX P w K mg base "parse_end" k ["text"] (spParseEnd CT)) (Hare_crossed : Has P w K mg base "are_crossed" k ["low", "high"] spCrossed) (HM_Span : HasMk P w K mg base (L2.CX P w) C "Span" j ["self", "low", "high"] [] (spSpanI C CE CB)) (hk : j + 1 ≤ k) (hk2 : 2 ≤ k) : FnOk P w K mg base (L2.CX P w) (k + 1) f fd ["text"] (spParse C CT) := by
  refine F.okX scSpan_parse (fun vs H Q E h => ?_) (fun cdv A outer s H vs Q E hr h => ?_)
  · obtain ⟨v, rfl, _⟩ := h; rfl
  · obtain ⟨z, rfl, hz, h1, h2⟩ := h
    refine ⟨_, (pss_cons (ps_asg (pe_partition (pv 0) pe_str) (pg_tup rfl (pgs_cons (pg_name (i := 1) scSpan_parse.nd rfl (.inl rfl)) (pgs_cons (pg_name (i := 2) scSpan_parse.nd rfl (.inl rfl)) (pgs_cons (pg_name (i := 3) scSpan_parse.nd rfl (.inl rfl)) pgs_nil)))))
 (pss_cons (ps_if (pt_cmpR op_eq (pv 2) pe_str (nomark _)) (pss_one (ps_raiseC rfl (takes_of rfl rfl rfl rfl) E_BadText I_BadText hr (by omega) (by rfl) (pa_cons pe_int pa_nil))) pss_nil)
 (pss_cons (ps_set (i := 4) scSpan_parse.nd rfl (.inl rfl) (pe_callX Hparse_end hr (by rfl) (takes_of rfl rfl rfl rfl) (pa_cons (pv 1) pa_nil)))
 (pss_cons (ps_set (i := 5) scSpan_parse.nd rfl (.inl rfl) (pe_callX Hparse_end hr (by rfl) (takes_of rfl rfl rfl rfl) (pa_cons (pv 3) pa_nil)))
 (pss_cons (ps_if (pt_val (pe_callH Hare_crossed hr (by rfl) (pa_cons (pv 4) (pa_cons (pv 5) pa_nil)))) (pss_one (ps_raiseC rfl (takes_of rfl rfl rfl rfl) E_BadText I_BadText hr (by omega) (by rfl) (pa_cons pe_int pa_nil))) pss_nil)
 (pss_one (ps_ret (pe_makeH HM_Span (hr.mono hk) (by rfl) (passF takes0) (pa_cons (pv 4) (pa_cons (pv 5) pa_nil)))))))))), ?_⟩
    obtain ⟨pl1, pl2⟩ := part_len z
    walk_at "rdE"
    refine rd_asgT ?_
    walk_at "rdE"
    refine ⟨rfl, sz (by omega), fun tp ntp => ⟨tp, _, rfl, st_of upd_same, rfl, ?_⟩⟩
    have s1 := same_new (o := HO.tup [V.str (Txt.partition z dots).1, V.str (Txt.partition z dots).2.1, V.str (Txt.partition z dots).2.2]) ntp
    have h2' : rdP z = none → ErrT E CT (upd H tp (HO.tup [V.str (Txt.partition z dots).1, V.str (Txt.partition z dots).2.1, V.str (Txt.partition z dots).2.2])) := fun e d H' s q => h2 e d H' (s1.trans s) q
    refine ⟨_, _, rfl, _, _, rfl, _, _, rfl, rfl, ?_⟩
    rw [show ((".." : Str)) = dots from rfl]
    walk_at "rdE"
    refine if_dec (fun hd => ?_) (fun hd => ?_)
    · have hd : (Txt.partition z dots).2.1 = "" := V.str.inj hd
      walk_at "rdE"
      refine rd_mk1 E_BadText.ox N_BadText_line fun d H' _ sm e => h2' ?_ d H' sm e
      unfold rdP
      split
      · rw [if_pos hd]
      · rfl
    · have hd : ¬ (Txt.partition z dots).2.1 = "" := fun q => hd (by show V.str (Txt.partition z dots).2.1 = _; rw [q])
      walk_at "rdE"
      refine ⟨_, rfl, by omega, fun l hl => ?_, fun e => h2' (by unfold rdP; rw [e])⟩
      walk_at "rdE"
      refine ⟨_, rfl, by omega, fun hh hhe => ?_, fun e => h2' (by unfold rdP; rw [e]; split <;> first | rfl | (rename_i q; cases q))⟩
      have ol := rdE_op hl
      have oh := rdE_op hhe
      walk_at "rdE"
      refine ⟨l, hh, rfl, ol.1, oh.1, ?_⟩
      have er : rdP z = if crossed l hh = true then none else some (l, hh) := by
        unfold rdP
        rw [hl, hhe]
        dsimp only
        rw [if_neg hd]
      walk_at "rdE"
      refine if_bool (fun hc => ?_) (fun hc => ?_)
      · walk_at "rdE"
        exact rd_mk1 E_BadText.ox N_BadText_line fun d H' _ sm e => h2' (by rw [er, if_pos hc]) d H' sm e
      · walk_at "rdE"
        intro p dp np ndp ne
        refine ⟨p, dp, _, _, rfl, upd_same, ol.sc, oh.sc, fun _ _ _ => ⟨rfl, ?_⟩, fun o => ?_, fun _ o => ?_, fun _ _ c => ?_⟩
        · exact h1 l hh p dp _ (by rw [er, if_neg (by rw [hc]; simp)]) ol oh (s1.trans (same_mut ((same_new ndp).trans (same_new (by rw [upd_ne ne.symm]; exact np))) np)) upd_same
        · rw [ol.2] at o; cases o
        · rw [oh.2] at o; cases o
        · rw [hc] at c; cases c
/-! ### _law_read_ends -/
def spReadEnds : Sp := fun vs H Q _ => ∃ z : Str, vs = [.str z] ∧ z.length ≤ 1000 ∧ (∀ l h p H', rdP z = some (l, h) → Same H H' → H p = none → H' p = some (.tup [l, h]) → Q (.ref p) H') ∧ (rdP z = none → ∀ H', Same H H' → Q .non H')
theorem ok_read_ends {k : Nat} {f : Addr} {fd : FuncData} (F : Fun K "_law_read_ends" "_law_read_ends" s_law_read_ends f fd) (T : Blt mg) (H_law_read : Has P w K mg base "_law_read" k ["word"] spRead) : FnOk P w K mg base CX0 (k + 1) f fd ["text"] spReadEnds := by
  refine F.ok sc_law_read_ends (fun vs H Q E h => ?_) (fun cdv A outer s H vs Q E hr h => ?_)
  · obtain ⟨v, rfl, _⟩ := h; rfl
  · obtain ⟨z, rfl, hz, h1, h2⟩ := h
    refine ⟨_, (pss_cons (ps_set (i := 1) sc_law_read_ends.nd rfl (.inl rfl) (pe_partition (pv 0) pe_str))
 (pss_cons (ps_set (i := 2) sc_law_read_ends.nd rfl (.inl rfl) (pe_lst pa_nil))
 (pss_cons (ps_for PassesOwn.never rfl (pi_list (pe_lst (pa_cons (pe_ix ix_seq (pv 1) pe_int (fun _ _ => rfl)) (pa_cons (pe_ix ix_seq (pv 1) pe_int (fun _ _ => rfl)) pa_nil)))) (pg_name (i := 3) sc_law_read_ends.nd rfl (.inl rfl)) (pss_one (ps_if (pt_cmpR op_eq (pv 3) pe_str (nomark _)) (pss_one (ps_expr (pe_bm PySem.F.plainAttrs_list PySem.F.slot_list_append PySem.F.type_list_append mt_append (pv 2) (pa_cons pe_non pa_nil)))) (pss_cons (ps_expr (pe_bm PySem.F.plainAttrs_list PySem.F.slot_list_append PySem.F.type_list_append mt_append (pv 2) (pa_cons (pe_callH H_law_read hr (by rfl) (pa_cons (pv 3) pa_nil)) pa_nil)))
 (pss_one (ps_if (pt_cmpR op_isN (pe_ix ix_list (pv 2) (pe_op op_sub (pe_callB call_len_seq (by rfl) T.len (by decide +kernel) (pa_cons (pv 2) pa_nil)) pe_int) (fun _ _ => rfl)) pe_non (nomark _)) (pss_one (ps_ret pe_non)) pss_nil))))))
 (pss_cons (ps_if (PW.pt (pw_or (pt_cmpR op_eq (pe_ix ix_seq (pv 1) pe_int (fun _ _ => rfl)) pe_str (nomark _)) (pw_or1 (PW.pt (pw_and (pt_cmpR op_notN (pe_ix ix_list (pv 2) pe_int (fun _ _ => rfl)) pe_non (nomark _)) (pw_and (pt_cmpR op_notN (pe_ix ix_list (pv 2) pe_int (fun _ _ => rfl)) pe_non (nomark _)) (pw_and1 (pt_cmpR op_gt (pe_ix ix_list (pv 2) pe_int (fun _ _ => rfl)) (pe_ix ix_list (pv 2) pe_int (fun _ _ => rfl)) (nomark _))))))))) (pss_one (ps_ret pe_non)) pss_nil)
 (pss_one (ps_ret (pe_tup (pa_cons (pe_ix ix_list (pv 2) pe_int (fun _ _ => rfl)) (pa_cons (pe_ix ix_list (pv 2) pe_int (fun _ _ => rfl)) pa_nil))))))))), ?_⟩
    obtain ⟨pl1, pl2⟩ := part_len z
    walk_at "rdE"
    refine ⟨rfl, sz (by omega), fun tp ntp => ?_⟩
    walk_at "rdE"
    rw [show ((".." : Str)) = dots from rfl]
    refine ⟨sz (by simp), fun ep nep => ?_⟩
    have er : rdP z = rdP z := rfl
    conv at er => rhs; unfold rdP
    generalize Txt.partition z dots = pt at *
    obtain ⟨a, d, b⟩ := pt
    dsimp only at *
    have nte : ep ≠ tp := (ne_of_none upd_same nep).symm
    have n0 : H ep = none := by rw [upd_ne nte] at nep; exact nep
    have tpat : ∀ o, upd (upd H tp (HO.tup [V.str a, V.str d, V.str b])) ep o tp = some (HO.tup [V.str a, V.str d, V.str b]) := fun o => by rw [upd_ne nte.symm]; exact upd_same
    walk_at "rdE"
    refine rd_ixQT (tpat _) rfl ?_
    walk_at "rdE"
    refine rd_ixQT (tpat _) rfl ?_
    walk_at "rdE"
    refine ⟨sz (by simp), fun lp nlp => ?_⟩
    have nle : ep ≠ lp := ne_of_none upd_same nlp
    have nlt : tp ≠ lp := ne_of_none (tpat _) nlp
    have sm : Same H (upd (upd (upd H tp (HO.tup [V.str a, V.str d, V.str b])) ep (HO.lst [])) lp (HO.lst [V.str a, V.str b])) := ((same_new ntp).trans (same_new nep)).trans (same_new nlp)
    refine ⟨lp, rfl, ⟨_, sl_of upd_same⟩, for_lst (xs := [V.str a, V.str b]) (fun i σ H' => ∃ y vs, σ = [some (.str z), some (.ref tp), some (.ref ep), y] ∧ H' tp = some (HO.tup [V.str a, V.str d, V.str b]) ∧ H' ep = some (.lst vs) ∧ H' lp = some (HO.lst [V.str a, V.str b]) ∧ Same H H' ∧ vs.map some = ([a, b].take i).map fun s => rdE (TL.tl s)) ⟨none, [], rfl, by rw [upd_ne nlt]; exact tpat _, by rw [upd_ne nle]; exact upd_same, upd_same, sm, rfl⟩ ?_ ?_ ?_⟩
    · rintro i σ H' ⟨y, vs, rfl, q1, q2, q3, q4, q5⟩
      exact q3
    · rintro i x σ H' hi ⟨y, vs, rfl, q1, q2, q3, q4, q5⟩
      obtain ⟨s, hs, rfl, hsl, hbad⟩ : ∃ s, [a, b][i]? = some s ∧ x = V.str s ∧ s.length ≤ 1000 ∧ (rdE (TL.tl s) = none → rdP z = none) := by
        match i, hi with
        | 0, hi => exact ⟨a, rfl, (Option.some.inj hi).symm, by omega, fun e => by rw [er, e]⟩
        | 1, hi => exact ⟨b, rfl, (Option.some.inj hi).symm, by omega, fun e => by rw [er, e]; split <;> first | rfl | (rename_i q; cases q)⟩
      have add : ∀ v, rdE (TL.tl s) = some v → (vs ++ [v]).map some = ([a, b].take (i + 1)).map fun s => rdE (TL.tl s) := fun v hv => by
        rw [List.take_add_one, hs, List.map_append, List.map_append, q5]
        simp [hv]
      have hil : vs.length ≤ 2 := by
        have := congrArg List.length q5
        rw [List.length_map, List.length_map, List.length_take] at this
        simp at this; omega
      walk_at "rdE"
      refine if_dec (fun he => ?_) (fun he => ?_)
      · have he := empty_iff.mp (V.str.inj he)
        walk_at "rdE"
        refine ⟨.inl ⟨rfl, _, .inl (.inl q2)⟩, ?_⟩
        walk_at "rdE"
        refine ⟨ep, vs, _, rfl, rfl, q2, Nat.lt_of_le_of_lt hil (by decide), ?_⟩
        exact ⟨_, _, rfl, by rw [upd_ne nte.symm]; exact q1, upd_same, by rw [upd_ne nle.symm]; exact q3, same_mut q4 n0, add _ (by unfold rdE; rw [if_pos he])⟩
      · have he : TL.tl s ≠ [] := fun q => he (by rw [empty_iff.mpr q])
        walk_at "rdE"
        refine ⟨.inl ⟨rfl, _, .inl (.inl q2)⟩, ?_⟩
        walk_at "rdE"
        refine ⟨s, rfl, hsl, ?_⟩
        have hE : rdE (TL.tl s) = (rdL (TL.tl s)).map V.int := by unfold rdE; rw [if_neg he]
        have hat : ∀ v, atI (vs ++ [v]) (((vs ++ [v]).length : Int) - 1) = some v := fun v => by
          obtain ⟨hb, en⟩ := atI_get (xs := vs ++ [v]) (i := ((vs ++ [v]).length : Int) - 1) (by rw [List.length_append]; simp) (by omega)
          rw [en]
          have : (((vs ++ [v]).length : Int) - 1).toNat = vs.length := by rw [List.length_append]; simp
          simp only [this]
          simp
        walk_at "rdE"
        refine ⟨ep, vs, _, rfl, rfl, q2, Nat.lt_of_le_of_lt hil (by decide), ?_⟩
        walk_at "rdE"
        refine ⟨ep, _, rfl, .inl (sl_of upd_same), ?_⟩
        walk_at "rdE"
        refine rd_ixL upd_same (hat _) ?_
        cases er2 : rdL (TL.tl s) with
        | none =>
          rw [er2] at hE
          walk_at "rdE"
          exact h2 (hbad hE) _ (same_mut q4 n0)
        | some n =>
          rw [er2] at hE
          walk_at "rdE"
          exact ⟨_, _, rfl, by rw [upd_ne nte.symm]; exact q1, upd_same, by rw [upd_ne nle.symm]; exact q3, same_mut q4 n0, add _ hE⟩
    · rintro σ H' ⟨y, vs, rfl, q1, q2, q3, q4, q5⟩
      obtain ⟨l, hh, rfl, e1, e2⟩ : ∃ l h, vs = [l, h] ∧ rdE (TL.tl a) = some l ∧ rdE (TL.tl b) = some h := by
        have hl : vs.length = 2 := by
          have := congrArg List.length q5
          rw [List.length_map, List.length_map] at this
          exact this
        obtain ⟨l, h, rfl⟩ : ∃ l h, vs = [l, h] := by
          cases vs with
          | nil => cases hl
          | cons l r =>
            cases r with
            | nil => cases hl
            | cons h r2 =>
              cases r2 with
              | nil => exact ⟨l, h, rfl⟩
              | cons _ _ => simp at hl
        have := List.cons.inj q5
        exact ⟨l, h, rfl, this.1.symm, (List.cons.inj this.2).1.symm⟩
      rw [e1, e2] at er
      dsimp only at er
      have ol := rdE_op e1
      have oh := rdE_op e2
      walk_at "rdE"
      refine rd_ixQT q1 rfl ?_
      walk_at "rdE"
      refine if_dec (fun hd => ?_) (fun hd => ?_)
      · walk_at "rdE"
        exact h2 (by rw [er, if_pos (V.str.inj hd)]) _ q4
      · have hd : ¬ d = "" := fun q => hd (by rw [q])
        rw [if_neg hd] at er
        have fin : crossed l hh = false → [l, hh].length ≤ sizeLine ∧ ∀ p, H' p = none → Q (.ref p) (upd H' p (.tup [l, hh])) := fun c => ⟨sz (by simp), fun p np => h1 l hh p _ (by rw [er, if_neg (by rw [c]; simp)]) (q4.trans (same_new np)) (q4.free np) upd_same⟩
        obtain ⟨rfl | ⟨i, rfl⟩, _⟩ := ol
        · walk_at "rdE"
          exact fin rfl
        · obtain ⟨rfl | ⟨j, rfl⟩, _⟩ := oh
          · walk_at "rdE"
            exact fin rfl
          · walk_at "rdE"
            refine if_dec (fun hc => ?_) (fun hc => ?_)
            · walk_at "rdE"
              exact h2 (by rw [er, if_pos (show crossed (V.int i) (V.int j) = true from decide_eq_true hc)]) _ q4
            · walk_at "rdE"
              exact fin (decide_eq_false hc)
end

abbrev s_law_parsed : Stmt := topS 45
theorem sc_law_parsed : FnScope ["word", "span", "e"] ["word"] (defScope s_law_parsed) := ⟨rfl, rfl, rfl, by decide +kernel, rfl, by decide +kernel, by decide +kernel⟩
abbrev s_law_parsed_number : Stmt := topS 46
theorem sc_law_parsed_number : FnScope ["word", "told", "e"] ["word"] (defScope s_law_parsed_number) := ⟨rfl, rfl, rfl, by decide +kernel, rfl, by decide +kernel, by decide +kernel⟩
abbrev s_law_told_number : Stmt := topS 47
theorem sc_law_told_number : FnScope ["value", "told", "e"] ["value"] (defScope s_law_told_number) := ⟨rfl, rfl, rfl, by decide +kernel, rfl, by decide +kernel, by decide +kernel⟩
abbrev s_law_read_otherwise : Stmt := topS 48
theorem sc_law_read_otherwise : FnScope ["span", "text", "ends", "read"] ["span", "text", "ends"] (defScope s_law_read_otherwise) := ⟨rfl, rfl, rfl, by decide +kernel, rfl, by decide +kernel, by decide +kernel⟩
abbrev s_law_reads : Stmt := topS 49
theorem sc_law_reads : FnScope ["word", "due", "ends", "number"] ["word"] (defScope s_law_reads) := ⟨rfl, rfl, rfl, by decide +kernel, rfl, by decide +kernel, by decide +kernel⟩

theorem pe_globC {X : Cx} {x : Str} {C : Addr} {pos : Pos} (hg : Gl X x) (hm : X.mg x = some (.ref C)) (hd : (x == ("__debug__" : Str)) = false := by decide) : PE X (.Name x pos) (tC (.ref C)) := pe_glob hg hm rfl hd
structure SpI (K : PySem.W.Frag) (C : Addr) : Prop where
  cl : Cls K C
  ha : PySem.W.findIn K (.ref C) "__class__" = some (some (.builtin "object.__class__"))
  hn : PySem.W.specialIn K (.builtin "object.__class__") "__get__" = some (some (.builtin "getset_descriptor.__get__"))
  ht : PySem.W.takesIn K (.builtin "object.__class__") = some true
  hm : PySem.W.mroIn K C (.type "object") = some true
  self : PySem.W.kitOne K (.ref C) (.ref C) = some true
theorem rd_isiC {K : PySem.W.Frag} {C : Addr} {H : Hp} {Q : VK} {x : V} {t : Value} {b : Bool} (ty : TyOf K H x t) (e : PySem.W.kitOne K t (.ref C) = some b) (q : Q (.bl b) H) : rIsi K [x, .ref C] H Q := ⟨x, .ref C, t, .ref C, b, rfl, .own C, .base ty, e, q⟩
structure Errs (K : PySem.W.Frag) (mg : Str → Option Value) (CT CE CB cM cO : Addr) : Prop where
  g_OutshinerError : mg "OutshinerError" = some (.ref cO)
  g_BadName : mg "BadName" = some (.ref cM)
  g_BadNumber : mg "BadNumber" = some (.ref CE)
  g_BadSpan : mg "BadSpan" = some (.ref CB)
  g_BadText : mg "BadText" = some (.ref CT)
  tO : PySem.W.kitOne K (.ref CT) (.ref cO) = some true
  tN : PySem.W.kitOne K (.ref CT) (.ref CE) = some false
  tS : PySem.W.kitOne K (.ref CT) (.ref CB) = some false
  tM : PySem.W.kitOne K (.ref CT) (.ref cM) = some false
  nO : PySem.W.kitOne K (.ref CE) (.ref cO) = some true
  nT : PySem.W.kitOne K (.ref CE) (.ref CT) = some false
  nS : PySem.W.kitOne K (.ref CE) (.ref CB) = some false
  nM : PySem.W.kitOne K (.ref CE) (.ref cM) = some false
section
variable {P : Program} {w : World} {K : PySem.W.Frag} {mg : Str → Option Value} {base : Heap} {C CT CE CB cM cO : Addr}
theorem rdP_op {z : Str} {l h : V} (e : rdP z = some (l, h)) : OpE l ∧ OpE h := by
  unfold rdP at e
  split at e
  · rename_i e1 e2
    split at e
    · cases e
    · split at e
      · cases e
      · cases e; exact ⟨rdE_op e1, rdE_op e2⟩
  · cases e
def badT : List V := [.str "BadText", .int 1, .bl true, .bl false]
def parL (z : Str) : List V := match rdP z with | some (l, h) => [.bl true, l, h] | none => badT
/-! ### _law_parsed -/
def spParsed : Sp := fun vs H Q _ => ∃ z : Str, vs = [.str z] ∧ z.length ≤ 1000 ∧ ∀ p H', Same H H' → H p = none → H' p = some (.tup (parL z)) → Q (.ref p) H'
theorem ok_parsed {k : Nat} {f : Addr} {fd : FuncData} (F : Fun K "_law_parsed" "_law_parsed" s_law_parsed f fd) (T : Blt mg) (TE : Errs K mg CT CE CB cM cO) (S : SpC K C) (SI : SpI K C) (gS : mg "Span" = some (.ref C)) (E_BadText : ErrC K mg "BadText" CT) (N_BadText_line : PySem.W.findIn K (.ref CT) "line" = some none)
    (HS_parse : HasSM P w K mg base (L2.CX P w) C "parse" k ["text"] ["text"] (spParse C CT)) : FnOk P w K mg base CX0 (k + 1) f fd ["word"] spParsed := by
  refine F.ok sc_law_parsed (fun vs H Q E h => ?_) (fun cdv A outer s H vs Q E hr h => ?_)
  · obtain ⟨z, rfl, _⟩ := h; rfl
  · obtain ⟨z, rfl, hz, h⟩ := h
    refine ⟨_, (pss_cons (ps_try_as (i := 2) (Wout := fun _ _ _ _ => False) rfl rfl sc_law_parsed.nd rfl rfl ⟨rfl, by decide, Or.inl E_BadText.gC⟩ takes0 (fun W pn xe tk _ => (pss_one (ps_set (i := 1) sc_law_parsed.nd rfl (.inl rfl) (pe_sm HS_parse (pe_globC rfl gS) hr (fun σ => passAt tk σ) (pa_cons (pv 0) pa_nil))))) (fun a oe cls d pn hz hf => (pss_one (ps_ret (pe_tup (pa_cons pe_str (pa_cons (pe_xf E_BadText.xf N_BadText_line hz hf (pv 2)) (pa_cons (pe_callB (call_isX (K := K) rfl hz hf) (by rfl) T.isinstance (by decide +kernel) (pa_cons (pv 2) (pa_cons (pe_globC rfl TE.g_OutshinerError) pa_nil))) (pa_cons (pe_callB (call_isXT (K := K) rfl hz hf) (by rfl) T.isinstance (by decide +kernel) (pa_cons (pv 2) (pa_cons (pe_tup (pa_cons (pe_globC rfl TE.g_BadNumber) (pa_cons (pe_globC rfl TE.g_BadSpan) (pa_cons (pe_globC rfl TE.g_BadName) pa_nil)))) pa_nil))) pa_nil)))))))))
 (pss_one (ps_ret (pe_tup (pa_cons (pe_callB call_isi (by rfl) T.isinstance (by decide +kernel) (pa_cons (pv 1) (pa_cons (pe_globC rfl gS) pa_nil))) (pa_cons (pe_fld (pv 1) rfl) (pa_cons (pe_fld (pv 1) rfl) pa_nil))))))), ?_⟩
    have kT : PySem.W.kitAny K (.ref CT) [.ref CE, .ref CB, .ref cM] = some false := kitAny_cons TE.tN (fun _ => kitAny_cons TE.tS (fun _ => kitAny_cons TE.tM (fun _ => rfl) (fun h => by cases h)) (fun h => by cases h)) (fun h => by cases h)
    walk_at "rdE"
    refine ⟨rfl, ?_⟩
    walk_at "rdE"
    refine ⟨z, rfl, hz, fun l hh p dp H1 e ol oh s1 hp => ?_, fun e d H1 s1 hd => ?_⟩
    · walk_at "rdE"
      refine rd_isiC (.ins hp SI.cl SI.ha SI.hn SI.ht SI.hm) SI.self ?_
      walk_at "rdE"
      refine ⟨p, C, dp, _, l, rfl, hp, S.cl, S.nl, spn_low, ?_⟩
      walk_at "rdE"
      refine ⟨p, C, dp, _, hh, rfl, hp, S.cl, S.nh, spn_high, ?_⟩
      walk_at "rdE"
      exact ⟨sz (by simp), fun tp ntp => h tp _ (s1.trans (same_new ntp)) (s1.free ntp) (by rw [upd_same]; simp [parL, e])⟩
    · refine ⟨true, E_BadText.self, fun _ a na => ?_, fun q => Bool.noConfusion q⟩
      walk_at "rdE"
      refine ⟨rfl, rfl, d, _, .int 1, rfl, hd, (by simp [List.lookup]), ?_⟩
      walk_at "rdE"
      refine ⟨CT, d, _, .ref cO, .ref cO, true, rfl, rfl, hd, E_BadText.ec, rfl, fun _ r => r, TE.tO, ?_⟩
      walk_at "rdE"
      refine ⟨sz (by simp), fun tp ntp => ?_⟩
      walk_at "rdE"
      refine ⟨CT, d, _, tp, _, _, false, rfl, rfl, same_new ntp _ _ hd, E_BadText.ec, rfl, upd_same, .cons (.own _) (.cons (.own _) (.cons (.own _) .nil)), kT, ?_⟩
      walk_at "rdE"
      have s2 := s1.trans (same_new (o := .tup [.ref CE, .ref CB, .ref cM]) ntp)
      exact ⟨sz (by simp), fun p np => h p _ (s2.trans (same_new np)) (s2.free np) (by rw [upd_same]; simp [parL, e, badT])⟩
/-! ### _law_parsed_number -/
def spParsedNum : Sp := fun vs H Q _ => ∃ z : Str, vs = [.str z] ∧ z.length ≤ 1000 ∧ (∀ n H', rdL (TL.tl z) = some n → Same H H' → Q (.int n) H') ∧ (rdL (TL.tl z) = none → ∀ p H', Same H H' → H p = none → H' p = some (.tup badT) → Q (.ref p) H')
theorem ok_parsed_number {k : Nat} {f : Addr} {fd : FuncData} (F : Fun K "_law_parsed_number" "_law_parsed_number" s_law_parsed_number f fd) (T : Blt mg) (TE : Errs K mg CT CE CB cM cO) (E_BadText : ErrC K mg "BadText" CT) (N_BadText_line : PySem.W.findIn K (.ref CT) "line" = some none)
    (Hparse_number : HasX P w K mg base "parse_number" k ["text"] (spParseNum CT)) : FnOk P w K mg base CX0 (k + 1) f fd ["word"] spParsedNum := by
  refine F.ok sc_law_parsed_number (fun vs H Q E h => ?_) (fun cdv A outer s H vs Q E hr h => ?_)
  · obtain ⟨z, rfl, _⟩ := h; rfl
  · obtain ⟨z, rfl, hz, h1, h2⟩ := h
    refine ⟨_, (pss_cons (ps_try_as (i := 2) (Wout := fun _ _ _ _ => False) rfl rfl sc_law_parsed_number.nd rfl rfl ⟨rfl, by decide, Or.inl E_BadText.gC⟩ takes0 (fun W pn xe tk _ => (pss_one (ps_set (i := 1) sc_law_parsed_number.nd rfl (.inl rfl) (pe_callX Hparse_number hr (by rfl) tk (pa_cons (pv 0) pa_nil))))) (fun a oe cls d pn hz hf => (pss_one (ps_ret (pe_tup (pa_cons pe_str (pa_cons (pe_xf E_BadText.xf N_BadText_line hz hf (pv 2)) (pa_cons (pe_callB (call_isX (K := K) rfl hz hf) (by rfl) T.isinstance (by decide +kernel) (pa_cons (pv 2) (pa_cons (pe_globC rfl TE.g_OutshinerError) pa_nil))) (pa_cons (pe_callB (call_isXT (K := K) rfl hz hf) (by rfl) T.isinstance (by decide +kernel) (pa_cons (pv 2) (pa_cons (pe_tup (pa_cons (pe_globC rfl TE.g_BadNumber) (pa_cons (pe_globC rfl TE.g_BadSpan) (pa_cons (pe_globC rfl TE.g_BadName) pa_nil)))) pa_nil))) pa_nil)))))))))
 (pss_one (ps_ret (pv 1)))), ?_⟩
    have kT : PySem.W.kitAny K (.ref CT) [.ref CE, .ref CB, .ref cM] = some false := kitAny_cons TE.tN (fun _ => kitAny_cons TE.tS (fun _ => kitAny_cons TE.tM (fun _ => rfl) (fun h => by cases h)) (fun h => by cases h)) (fun h => by cases h)
    walk_at "rdE"
    refine ⟨z, rfl, hz, fun n hn => ?_, fun e d H1 s1 hd => ?_⟩
    · walk_at "rdE"
      exact h1 n _ hn (Same.refl _)
    · refine ⟨true, E_BadText.self, fun _ a na => ?_, fun q => Bool.noConfusion q⟩
      walk_at "rdE"
      refine ⟨rfl, rfl, d, _, .int 1, rfl, hd, (by simp [List.lookup]), ?_⟩
      walk_at "rdE"
      refine ⟨CT, d, _, .ref cO, .ref cO, true, rfl, rfl, hd, E_BadText.ec, rfl, fun _ r => r, TE.tO, ?_⟩
      walk_at "rdE"
      refine ⟨sz (by simp), fun tp ntp => ?_⟩
      walk_at "rdE"
      refine ⟨CT, d, _, tp, _, _, false, rfl, rfl, same_new ntp _ _ hd, E_BadText.ec, rfl, upd_same, .cons (.own _) (.cons (.own _) (.cons (.own _) .nil)), kT, ?_⟩
      walk_at "rdE"
      have s2 := s1.trans (same_new (o := .tup [.ref CE, .ref CB, .ref cM]) ntp)
      exact ⟨sz (by simp), fun p np => h2 e p _ (s2.trans (same_new np)) (s2.free np) upd_same⟩
/-! ### _law_told_number -/
def spToldNum : Sp := fun vs H Q _ => ∃ v, vs = [v] ∧ Sc v ∧ (∀ n H', v = .int n → InR n → Same H H' → Q (.str (toString n)) H') ∧ (isNum v = false → ∀ p H', Same H H' → H p = none → H' p = some (.tup [.str "BadNumber", v, .bl true, .bl false]) → Q (.ref p) H')
theorem ok_told_number {k : Nat} {f : Addr} {fd : FuncData} (F : Fun K "_law_told_number" "_law_told_number" s_law_told_number f fd) (T : Blt mg) (TE : Errs K mg CT CE CB cM cO) (E_BadNumber : ErrC K mg "BadNumber" CE) (N_BadNumber_number : PySem.W.findIn K (.ref CE) "number" = some none)
    (Hnumber_text : HasX P w K mg base "number_text" k ["number"] (spNumText CE)) : FnOk P w K mg base CX0 (k + 1) f fd ["value"] spToldNum := by
  refine F.ok sc_law_told_number (fun vs H Q E h => ?_) (fun cdv A outer s H vs Q E hr h => ?_)
  · obtain ⟨z, rfl, _⟩ := h; rfl
  · obtain ⟨v, rfl, sv, h1, h2⟩ := h
    refine ⟨_, (pss_cons (ps_try_as (i := 2) (Wout := fun _ _ _ _ => False) rfl rfl sc_law_told_number.nd rfl rfl ⟨rfl, by decide, Or.inl E_BadNumber.gC⟩ takes0 (fun W pn xe tk _ => (pss_one (ps_set (i := 1) sc_law_told_number.nd rfl (.inl rfl) (pe_callX Hnumber_text hr (by rfl) tk (pa_cons (pv 0) pa_nil))))) (fun a oe cls d pn hz hf => (pss_one (ps_ret (pe_tup (pa_cons pe_str (pa_cons (pe_xf E_BadNumber.xf N_BadNumber_number hz hf (pv 2)) (pa_cons (pe_callB (call_isX (K := K) rfl hz hf) (by rfl) T.isinstance (by decide +kernel) (pa_cons (pv 2) (pa_cons (pe_globC rfl TE.g_OutshinerError) pa_nil))) (pa_cons (pe_callB (call_isXT (K := K) rfl hz hf) (by rfl) T.isinstance (by decide +kernel) (pa_cons (pv 2) (pa_cons (pe_tup (pa_cons (pe_globC rfl TE.g_BadText) (pa_cons (pe_globC rfl TE.g_BadSpan) (pa_cons (pe_globC rfl TE.g_BadName) pa_nil)))) pa_nil))) pa_nil)))))))))
 (pss_one (ps_ret (pv 1)))), ?_⟩
    have kT : PySem.W.kitAny K (.ref CE) [.ref CT, .ref CB, .ref cM] = some false := kitAny_cons TE.nT (fun _ => kitAny_cons TE.nS (fun _ => kitAny_cons TE.nM (fun _ => rfl) (fun h => by cases h)) (fun h => by cases h)) (fun h => by cases h)
    walk_at "rdE"
    refine ⟨v, rfl, sv, fun n e hn => ?_, fun nv d H1 s1 hd => ?_⟩
    · walk_at "rdE"
      exact h1 n _ e hn (Same.refl _)
    · refine ⟨true, E_BadNumber.self, fun _ a na => ?_, fun q => Bool.noConfusion q⟩
      walk_at "rdE"
      refine ⟨rfl, rfl, d, _, v, rfl, hd, (by simp [List.lookup]), ?_⟩
      walk_at "rdE"
      refine ⟨CE, d, _, .ref cO, .ref cO, true, rfl, rfl, hd, E_BadNumber.ec, rfl, fun _ r => r, TE.nO, ?_⟩
      walk_at "rdE"
      refine ⟨sz (by simp), fun tp ntp => ?_⟩
      walk_at "rdE"
      refine ⟨CE, d, _, tp, _, _, false, rfl, rfl, same_new ntp _ _ hd, E_BadNumber.ec, rfl, upd_same, .cons (.own _) (.cons (.own _) (.cons (.own _) .nil)), kT, ?_⟩
      walk_at "rdE"
      have s2 := s1.trans (same_new (o := .tup [.ref CT, .ref CB, .ref cM]) ntp)
      exact ⟨sz (by simp), fun p np => h2 nv p _ (s2.trans (same_new np)) (s2.free np) upd_same⟩
end


theorem alike_tup1 {H : Hp} {p q : Addr} {xs : List V} {n : Nat} (hp : H p = some (.tup xs)) (hq : H q = some (.tup xs)) (hl : xs.length ≤ 100000) (sc : ∀ x ∈ xs, Sc x) : Alike H (n + 1) (.ref p) (.ref q) :=
  .inr ⟨p, q, xs, xs, rfl, rfl, .inr ⟨hp, hq⟩, rfl, hl, fun i u v h1 h2 => by
    have e : u = v := Option.some.inj (h1.symm.trans h2)
    subst e
    cases n with
    | zero => exact ⟨sc u (List.mem_of_getElem? h1), rfl⟩
    | succ n => exact .inl ⟨sc u (List.mem_of_getElem? h1), rfl⟩⟩
section
variable {P : Program} {w : World} {K : PySem.W.Frag} {mg : Str → Option Value} {base : Heap} {C CT CE CB cM cO : Addr}
theorem par_sc {z : Str} : (parL z).length ≤ 100000 ∧ ∀ x ∈ parL z, Sc x := by
  unfold parL
  split
  · rename_i l h e
    have := rdP_op e
    refine ⟨by simp, fun x hx => ?_⟩
    simp only [List.mem_cons, List.not_mem_nil, or_false] at hx
    rcases hx with rfl | rfl | rfl
    · trivial
    · exact this.1.sc
    · exact this.2.sc
  · refine ⟨by simp [badT], fun x hx => ?_⟩
    simp only [badT, List.mem_cons, List.not_mem_nil, or_false] at hx
    rcases hx with rfl | rfl | rfl | rfl <;> trivial
theorem ends_len {l h : V} (ol : OpE l) (oh : OpE h) : (endsS l h).length ≤ 30 := by
  have := endS_len ol
  have := endS_len oh
  have : dots.length = 2 := rfl
  unfold endsS; rw [app_len, app_len]; omega
/-! ### _law_read_otherwise -/
def spOther (C : Addr) : Sp := fun vs H Q _ => ∃ (a dx q : Addr) (l0 h0 l h : V), vs = [.ref a, .str (endsS l h), .ref q] ∧ H a = some (.ins C dx (spn l0 h0)) ∧ H q = some (.tup [l, h]) ∧ OpE l ∧ OpE h ∧ crossed l h = false ∧ ∀ H', Same H H' → Q (.bl true) H'
theorem ok_read_otherwise {k : Nat} {f : Addr} {fd : FuncData} (F : Fun K "_law_read_otherwise" "_law_read_otherwise" s_law_read_otherwise f fd) (T : Blt mg) (S : SpC K C) (SI : SpI K C) (gS : mg "Span" = some (.ref C))
    (HS_parse : HasSM P w K mg base (L2.CX P w) C "parse" k ["text"] ["text"] (spParse C CT)) (H_law_same : Has P w K mg base "_law_same" k ["actual", "expected"] (spSame 2)) : FnOk P w K mg base CX0 (k + 1) f fd ["span", "text", "ends"] (spOther C) := by
  refine F.ok sc_law_read_otherwise (fun vs H Q E h => ?_) (fun cdv A outer s H vs Q E hr h => ?_)
  · obtain ⟨a, dx, q, l0, h0, l, h, rfl, _⟩ := h; rfl
  · obtain ⟨a, dx, q, l0, h0, l, hh, rfl, ha, hq, ol, oh, nc, h⟩ := h
    refine ⟨_, (pss_cons (ps_for PassesOwn.never rfl (pi_list (pe_lst (pa_cons (pe_smK HS_parse (pe_globC rfl gS) hr (fun σ => passAt takes0 σ) (pk_cons (pv 1) pk_nil)) (pa_cons (pe_smI HS_parse (pv 0) hr (fun σ => passAt takes0 σ) (pa_cons (pv 1) pa_nil)) pa_nil)))) (pg_name (i := 3) sc_law_read_otherwise.nd rfl (.inl rfl)) (pss_one (ps_if (PW.pt (pw_or (pt_not (pt_val (pe_callB call_isi (by rfl) T.isinstance (by decide +kernel) (pa_cons (pv 3) (pa_cons (pe_globC rfl gS) pa_nil))))) (pw_or1 (pt_not (pt_val (pe_callH H_law_same hr (by rfl) (pa_cons (pe_tup (pa_cons (pe_fld (pv 3) rfl) (pa_cons (pe_fld (pv 3) rfl) pa_nil))) (pa_cons (pv 2) pa_nil)))))))) (pss_one (ps_ret pe_bl)) pss_nil)))
 (pss_one (ps_ret pe_bl))), ?_⟩
    have len := ends_len ol oh
    have er := rdP_ends ol oh nc
    have got : ∀ {l2 h2 : V}, rdP (endsS l hh) = some (l2, h2) → l2 = l ∧ h2 = hh := fun e => by rw [er] at e; cases e; exact ⟨rfl, rfl⟩
    walk_at "rdE"
    refine ⟨rfl, ?_⟩
    walk_at "rdE"
    refine ⟨rfl, _, rfl, by omega, fun l2 h2 p1 dp1 H1 e _ _ s1 hp1 => ?_, fun e => by rw [er] at e; cases e⟩
    obtain ⟨rfl, rfl⟩ := got e
    walk_at "rdE"
    refine ⟨a, dx, _, rfl, s1 _ _ ha, rfl, ?_⟩
    walk_at "rdE"
    refine ⟨_, rfl, by omega, fun l3 h3 p2 dp2 H2 e _ _ s2 hp2 => ?_, fun e => by rw [er] at e; cases e⟩
    obtain ⟨rfl, rfl⟩ := got e
    walk_at "rdE"
    refine ⟨sz (by simp), fun lp nlp => ?_⟩
    have s12 := (s1.trans s2).trans (same_new (o := .lst [.ref p1, .ref p2]) nlp)
    have hp1' := same_new (o := .lst [.ref p1, .ref p2]) nlp _ _ (s2 _ _ hp1)
    have hp2' := same_new (o := .lst [.ref p1, .ref p2]) nlp _ _ hp2
    refine ⟨lp, rfl, ⟨_, sl_of upd_same⟩, for_lst (xs := [.ref p1, .ref p2]) (fun i σ H' => ∃ y, σ = [some (.ref a), some (.str (endsS l3 h3)), some (.ref q), y] ∧ Same (upd H2 lp (.lst [.ref p1, .ref p2])) H') ⟨none, rfl, Same.refl _⟩ ?_ ?_ ?_⟩
    · rintro i σ H' ⟨y, rfl, sm⟩
      exact sm _ _ upd_same
    · rintro i x σ H' hi ⟨y, rfl, sm⟩
      obtain ⟨p, dp, rfl, hp⟩ : ∃ p dp, x = .ref p ∧ H' p = some (.ins C dp (spn l3 h3)) := by
        match i, hi with
        | 0, hi => exact ⟨p1, dp1, (Option.some.inj hi).symm, sm _ _ hp1'⟩
        | 1, hi => exact ⟨p2, dp2, (Option.some.inj hi).symm, sm _ _ hp2'⟩
      walk_at "rdE"
      refine rd_isiC (.ins hp SI.cl SI.ha SI.hn SI.ht SI.hm) SI.self ?_
      walk_at "rdE"
      refine ⟨p, C, dp, _, l3, rfl, hp, S.cl, S.nl, spn_low, ?_⟩
      walk_at "rdE"
      refine ⟨p, C, dp, _, h3, rfl, hp, S.cl, S.nh, spn_high, ?_⟩
      walk_at "rdE"
      refine ⟨sz (by simp), fun tp ntp => ?_⟩
      walk_at "rdE"
      have sq := sm.trans (same_new (o := .tup [l3, h3]) ntp)
      refine ⟨_, _, rfl, .inr ⟨alike_tup1 upd_same ((s12.trans sq) _ _ hq) (by simp) (by
        intro x hx
        simp only [List.mem_cons, List.not_mem_nil, or_false] at hx
        rcases hx with rfl | rfl
        · exact ol.sc
        · exact oh.sc), fun H3 s3 => ?_⟩⟩
      walk_at "rdE"
      exact ⟨_, rfl, sq.trans s3⟩
    · rintro σ H' ⟨y, rfl, sm⟩
      walk_at "rdE"
      exact h H' (s12.trans sm)
/-! ### _law_reads -/
theorem read_uni {z : Str} {H : Hp} {Q : VK} {E : XK} (hz : z.length ≤ 1000) (U : ∀ v H', Same H H' → ((∃ l h p, rdP z = some (l, h) ∧ v = .ref p ∧ H' p = some (.tup [l, h])) ∨ (rdP z = none ∧ v = .non)) → Q v H') : spReadEnds [.str z] H Q E :=
  ⟨z, rfl, hz, fun l h p H' e s _ hp => U _ H' s (.inl ⟨l, h, p, e, rfl, hp⟩), fun e H' s => U _ H' s (.inr ⟨e, rfl⟩)⟩
def spReads : Sp := fun vs H Q _ => ∃ z : Str, vs = [.str z] ∧ z.length ≤ 1000 ∧ ∀ H', Same H H' → Q (.bl true) H'
theorem ok_reads {k : Nat} {f : Addr} {fd : FuncData} (F : Fun K "_law_reads" "_law_reads" s_law_reads f fd) (T : Blt mg) (H_law_read_ends : Has P w K mg base "_law_read_ends" k ["text"] spReadEnds) (H_law_read : Has P w K mg base "_law_read" k ["word"] spRead)
    (H_law_parsed : Has P w K mg base "_law_parsed" k ["word"] spParsed) (H_law_parsed_number : Has P w K mg base "_law_parsed_number" k ["word"] spParsedNum) (H_law_same : Has P w K mg base "_law_same" k ["actual", "expected"] (spSame 2)) : FnOk P w K mg base CX0 (k + 1) f fd ["word"] spReads := by
  refine F.ok sc_law_reads (fun vs H Q E h => ?_) (fun cdv A outer s H vs Q E hr h => ?_)
  · obtain ⟨z, rfl, _⟩ := h; rfl
  · obtain ⟨z, rfl, hz, h⟩ := h
    refine ⟨_, (pss_cons (ps_set (i := 1) sc_law_reads.nd rfl (.inl rfl) (pe_tup (pa_cons pe_str (pa_cons pe_int (pa_cons pe_bl (pa_cons pe_bl pa_nil))))))
 (pss_cons (ps_set (i := 2) sc_law_reads.nd rfl (.inl rfl) (pe_callH H_law_read_ends hr (by rfl) (pa_cons (pv 0) pa_nil)))
 (C8.pss_cut (ps_if (pt_cmpR op_notN (pv 2) pe_non (nomark _)) (pss_one (ps_set (i := 1) sc_law_reads.nd rfl (.inl rfl) (pe_tup (pa_cons pe_bl (pa_cons (pe_ix ix_seq (pv 2) pe_int (fun _ _ => rfl)) (pa_cons (pe_ix ix_seq (pv 2) pe_int (fun _ _ => rfl)) pa_nil)))))) pss_nil)
 (pss_cons (ps_if (pt_not (pt_val (pe_callH H_law_same hr (by rfl) (pa_cons (pe_callH H_law_parsed hr (by rfl) (pa_cons (pv 0) pa_nil)) (pa_cons (pv 1) pa_nil))))) (pss_one (ps_ret pe_bl)) pss_nil)
 (pss_cons (ps_set (i := 3) sc_law_reads.nd rfl (.inl rfl) (pe_callH H_law_read hr (by rfl) (pa_cons (pv 0) pa_nil)))
 (pss_cons (ps_if (pt_cmpR op_isN (pv 3) pe_non (nomark _)) (pss_one (ps_ret (pe_callH H_law_same hr (by rfl) (pa_cons (pe_callH H_law_parsed_number hr (by rfl) (pa_cons (pv 0) pa_nil)) (pa_cons (pe_tup (pa_cons pe_str (pa_cons pe_int (pa_cons pe_bl (pa_cons pe_bl pa_nil))))) pa_nil))))) pss_nil)
 (pss_one (ps_ret (pe_callH H_law_same hr (by rfl) (pa_cons (pe_callH H_law_parsed_number hr (by rfl) (pa_cons (pv 0) pa_nil)) (pa_cons (pv 3) pa_nil))))))))))), ?_⟩
    walk_at "rdE"
    refine ⟨sz (by simp), fun dp ndp => ?_⟩
    walk_at "rdE"
    have s0 := same_new (o := .tup badT) ndp
    have h0 : upd H dp (.tup badT) dp = some (.tup badT) := upd_same
    refine read_uni hz fun v H1 s1 hv => ?_
    refine rd_cut (fun σ' H' => ∃ dq, σ' = [some (.str z), some (.ref dq), some v, none] ∧ Same H H' ∧ H' dq = some (.tup (parL z))) ?_ ?_
    · rcases hv with ⟨l, hh, p, e, rfl, hp⟩ | ⟨e, rfl⟩
      · walk_at "rdE"
        refine rd_ixQT hp rfl ?_
        walk_at "rdE"
        refine rd_ixQT hp rfl ?_
        walk_at "rdE"
        exact ⟨sz (by simp), fun q nq => ⟨q, rfl, (s0.trans s1).trans (same_new nq), by rw [upd_same]; simp [parL, e]⟩⟩
      · walk_at "rdE"
        exact ⟨dp, rfl, s0.trans s1, by rw [s1 _ _ h0]; simp [parL, e]⟩
    · rintro σ' H2 ⟨dq, rfl, s2, hq⟩
      obtain ⟨pl, psc⟩ := par_sc (z := z)
      walk_at "rdE"
      refine ⟨z, rfl, hz, fun p H3 s3 _ hp => ?_⟩
      walk_at "rdE"
      refine ⟨_, _, rfl, .inr ⟨alike_tup1 hp (s3 _ _ hq) pl psc, fun H4 s4 => ?_⟩⟩
      have s24 := (s2.trans s3).trans s4
      walk_at "rdE"
      refine ⟨z, rfl, hz, ?_⟩
      cases er : rdL (TL.tl z) with
      | none =>
        dsimp only [optV]
        walk_at "rdE"
        refine ⟨z, rfl, hz, fun n H5 e => (by rw [er] at e; cases e), fun _ p2 H5 s5 _ hp2 => ?_⟩
        walk_at "rdE"
        refine ⟨sz (by simp), fun tp ntp => ?_⟩
        have s6 := same_new (o := .tup badT) ntp
        refine ⟨_, _, rfl, .inr ⟨alike_tup1 (s6 _ _ hp2) upd_same (by simp [badT]) (fun x hx => ?_), fun H6 s7 => h _ (((s24.trans s5).trans s6).trans s7)⟩⟩
        simp only [badT, List.mem_cons, List.not_mem_nil, or_false] at hx
        rcases hx with rfl | rfl | rfl | rfl <;> trivial
      | some n =>
        dsimp only [optV]
        walk_at "rdE"
        refine ⟨z, rfl, hz, fun m H5 e s5 => ?_, fun e => by rw [er] at e; cases e⟩
        obtain rfl : n = m := by rw [er] at e; exact Option.some.inj e
        walk_at "rdE"
        exact ⟨_, _, rfl, .inl ⟨trivial, trivial, fun H6 s6 => by rw [decide_eq_true rfl]; exact h _ ((s24.trans s5).trans s6)⟩⟩
end

abbrev s_law_any_ends : Stmt := topS 44
theorem sc_law_any_ends : FnScope ["store", "kind", "one", "other", "ends"] ["store"] (defScope s_law_any_ends) := ⟨rfl, rfl, rfl, by decide +kernel, rfl, by decide +kernel, by decide +kernel⟩
abbrev s_law_spoilt_at : Stmt := topS 50
theorem sc_law_spoilt_at : FnScope ["word", "at", "sign"] ["word", "at", "sign"] (defScope s_law_spoilt_at) := ⟨rfl, rfl, rfl, by decide +kernel, rfl, by decide +kernel, by decide +kernel⟩

section
variable {P : Program} {w : World} {K : PySem.W.Frag} {mg : Str → Option Value} {base : Heap} {C CT CE CB cM cO : Addr}
/-! ### _law_any_ends -/
def spAnyEnds : Sp := fun vs H Q _ => ∃ S : Sto, vs = [.ref S.1] ∧ StoreOk S H ∧ ∀ q l h H', Bar l → Bar h → crossed l h = false → H q = none → At S H' q (.tup [l, h]) → StoreOk S H' → ExS S H H' → Q (.ref q) H'
theorem ok_any_ends {k : Nat} {f : Addr} {fd : FuncData} (F : Fun K "_law_any_ends" "_law_any_ends" s_law_any_ends f fd) (T : Blt mg) (H_law_take : Has P w K mg base "_law_take" k ["store", "many"] spTake) (H_law_pool : Has P w K mg base "_law_pool" k ["store"] spPool)
    (H_law_ends : Has P w K mg base "_law_ends" k ["store", "pool"] spEnds) (H_law_number : Has P w K mg base "_law_number" k ["store"] spNumber) : FnOk P w K mg base CX0 (k + 1) f fd ["store"] spAnyEnds := by
  refine F.ok sc_law_any_ends (fun vs H Q E h => ?_) (fun cdv A outer s H vs Q E hr h => ?_)
  · obtain ⟨S, rfl, _⟩ := h; rfl
  · obtain ⟨S, rfl, hS, h⟩ := h
    refine ⟨_, (pss_cons (ps_set (i := 1) sc_law_any_ends.nd rfl (.inl rfl) (pe_callH H_law_take hr (by rfl) (pa_cons (pv 0) (pa_cons pe_int pa_nil))))
 (pss_cons (ps_if (pt_cmpR op_gt (pv 1) pe_int (nomark _)) (pss_one (ps_ret (pe_callH H_law_ends hr (by rfl) (pa_cons (pv 0) (pa_cons (pe_callH H_law_pool hr (by rfl) (pa_cons (pv 0) pa_nil)) pa_nil))))) pss_nil)
 (pss_cons (ps_set (i := 2) sc_law_any_ends.nd rfl (.inl rfl) (pe_callH H_law_number hr (by rfl) (pa_cons (pv 0) pa_nil)))
 (pss_cons (ps_set (i := 3) sc_law_any_ends.nd rfl (.inl rfl) (pe_callH H_law_number hr (by rfl) (pa_cons (pv 0) pa_nil)))
 (pss_cons (ps_set (i := 4) sc_law_any_ends.nd rfl (.inl rfl) (pe_lst (pa_cons (pe_callB (call_min2 rfl) (by rfl) T.min (by decide +kernel) (pa_cons (pv 2) (pa_cons (pv 3) pa_nil))) (pa_cons (pe_callB (call_max2 rfl) (by rfl) T.max (by decide +kernel) (pa_cons (pv 2) (pa_cons (pv 3) pa_nil))) pa_nil))))
 (pss_cons (ps_if (pt_cmpR op_lt (pv 1) pe_int (nomark _)) (pss_one (ps_asg pe_non (pg_sub (pv 4) (pv 1) set_list))) pss_nil)
 (pss_one (ps_ret (pe_tup (pa_cons (pe_ix ix_list (pv 4) pe_int (fun _ _ => rfl)) (pa_cons (pe_ix ix_list (pv 4) pe_int (fun _ _ => rfl)) pa_nil))))))))))), ?_⟩
    walk_at "rdE"
    refine ⟨S, 6, rfl, by omega, hS, fun r H1 r0 r1 hS1 e1 => ?_⟩
    walk_at "rdE"
    refine if_dec (fun hk => ?_) (fun hk => ?_)
    · walk_at "rdE"
      refine ⟨S, rfl, hS1, fun p ns H2 hns l2 l6 hA hS2 e2 => ?_⟩
      walk_at "rdE"
      exact ⟨S, p, ns, rfl, hS2, hA, by omega, by omega, fun q l hh H3 bl bh c nq hq hS3 e3 => h q l hh H3 bl bh c (exs_free (e1.trans e2) hS2 nq) hq hS3 ((e1.trans e2).trans e3)⟩
    · walk_at "rdE"
      refine ⟨S, rfl, hS1, fun a H2 ha hS2 e2 => ?_⟩
      walk_at "rdE"
      refine ⟨S, rfl, hS2, fun b H3 hb hS3 e3 => ?_⟩
      have e13 := (e1.trans e2).trans e3
      walk_at "rdE"
      refine ⟨sz (by simp), fun lp nlp => ?_⟩
      have hlp := exs_free e13 hS3 nlp
      have fin : ∀ {H4 : Hp} {l hh : V}, Bar l → Bar hh → crossed l hh = false → StoreOk S H4 → ExS S H H4 → [l, hh].length ≤ sizeLine ∧ ∀ q, H4 q = none → Q (.ref q) (upd H4 q (.tup [l, hh])) := fun {H4 l hh} b1 b2 c hS4 e4 =>
        ⟨sz (by simp), fun q nq => h q l hh _ b1 b2 c (exs_free e4 hS4 nq) (.new hS4 nq) (hS4.new nq) (e4.trans (ExS.new nq))⟩
      have hS4 := hS3.new (o := .lst [.int (if b < a then b else a), .int (if a < b then b else a)]) nlp
      have e4 := e13.trans (ExS.new (S := S) (o := .lst [.int (if b < a then b else a), .int (if a < b then b else a)]) nlp)
      have bmin : Bar (.int (if b < a then b else a)) := .inr ⟨_, rfl, by split <;> assumption⟩
      have bmax : Bar (.int (if b > a then b else a)) := .inr ⟨_, rfl, by split <;> assumption⟩
      walk_at "rdE"
      refine if_dec (fun hk2 => ?_) (fun hk2 => ?_)
      · obtain rfl | rfl : r = 0 ∨ r = 1 := by omega
        · walk_at "rdE"
          exact fin (.inl rfl) bmax rfl (store_upd hS3 (hS3.ne1 nlp) (hS3.ne2 nlp)) (e13.mut hlp)
        · walk_at "rdE"
          exact fin bmin (.inl rfl) rfl (store_upd hS3 (hS3.ne1 nlp) (hS3.ne2 nlp)) (e13.mut hlp)
      · walk_at "rdE"
        exact fin bmin bmax (decide_eq_false (by split <;> split <;> omega)) hS4 e4
/-! ### _law_spoilt_at -/
def spSpoilt : Sp := fun vs H Q _ => ∃ (z : Str) (i : Int) (c : Nat), vs = [.str z, .int i, .str ⟨#[c]⟩] ∧ z.length ≤ 400 ∧ ∀ p H' (ys : List Str), ys.length = 3 → (∀ y ∈ ys, y.length ≤ 1000) → Same H H' → H p = none → H' p = some (.lst (ys.map V.str)) → Q (.ref p) H'
theorem ok_spoilt_at {k : Nat} {f : Addr} {fd : FuncData} (F : Fun K "_law_spoilt_at" "_law_spoilt_at" s_law_spoilt_at f fd) (T : Blt mg) : FnOk P w K mg base CX0 (k + 1) f fd ["word", "at", "sign"] spSpoilt := by
  refine F.ok sc_law_spoilt_at (fun vs H Q E h => ?_) (fun cdv A outer s H vs Q E hr h => ?_)
  · obtain ⟨z, i, c, rfl, _⟩ := h; rfl
  · obtain ⟨z, i, c, rfl, hz, h⟩ := h
    refine ⟨_, (pss_one (ps_ret (pe_lst (pa_cons (pe_op op_add_str (pe_op op_add_str (pe_slice sl_str (pv 0) po_none (po_some (pv 1))) (pv 2)) (pe_slice sl_str (pv 0) (po_some (pv 1)) po_none)) (pa_cons (pe_op op_add_str (pe_op op_add_str (pe_slice sl_str (pv 0) po_none (po_some (pv 1))) (pv 2)) (pe_slice sl_str (pv 0) (po_some (pe_op op_add (pv 1) pe_int)) po_none)) (pa_cons (pe_op op_add_str (pe_slice sl_str (pv 0) po_none (po_some (pv 1))) (pe_slice sl_str (pv 0) (po_some (pe_op op_add (pv 1) pe_int)) po_none)) pa_nil)))))), ?_⟩
    have hA := cutS_len z none (some i)
    have hB := cutS_len z (some i) none
    have hD := cutS_len z (some (i + 1)) none
    have h1 : (⟨#[c]⟩ : Str).length = 1 := rfl
    walk_at "rdE"
    refine ⟨z, rfl, sz (by omega), ?_⟩
    walk_at "rdE"
    refine ⟨sz (by omega), ?_⟩
    walk_at "rdE"
    refine ⟨z, rfl, sz (by omega), ?_⟩
    walk_at "rdE"
    refine ⟨sz (by rw [app_len]; omega), ?_⟩
    walk_at "rdE"
    refine ⟨z, rfl, sz (by omega), ?_⟩
    walk_at "rdE"
    refine ⟨sz (by omega), ?_⟩
    walk_at "rdE"
    refine ⟨z, rfl, sz (by omega), ?_⟩
    walk_at "rdE"
    refine ⟨sz (by rw [app_len]; omega), ?_⟩
    walk_at "rdE"
    refine ⟨z, rfl, sz (by omega), ?_⟩
    walk_at "rdE"
    refine ⟨z, rfl, sz (by omega), ?_⟩
    walk_at "rdE"
    refine ⟨sz (by omega), ?_⟩
    walk_at "rdE"
    refine ⟨sz (by simp), fun p np => h p _ [_, _, _] rfl ?_ (same_new np) np upd_same⟩
    intro y hy
    simp only [List.mem_cons, List.not_mem_nil, or_false] at hy
    rcases hy with rfl | rfl | rfl
    · rw [app_len, app_len]; omega
    · rw [app_len, app_len]; omega
    · rw [app_len]; omega
/-! ### what split and join keep -/
theorem spl_bound (S : List Nat) : ∀ (l : List Nat) (k : Nat) (acc : List Nat), (TL.spl S k acc l).length ≤ l.length + 1 ∧ TL.spl S k acc l ≠ [] ∧ ∀ p ∈ TL.spl S k acc l, p.length ≤ acc.length + l.length
  | [], k, acc => by
    rw [TL.spl_nil]
    refine ⟨by simp, by simp, fun p hp => ?_⟩
    rw [List.mem_singleton.mp hp]; simp
  | c :: r, k + 1, acc => by
    show (TL.spl S k acc r).length ≤ _ ∧ TL.spl S k acc r ≠ [] ∧ _
    obtain ⟨a, b, d⟩ := spl_bound S r k acc
    refine ⟨by simp; omega, b, fun p hp => ?_⟩
    have := d p hp
    simp; omega
  | c :: r, 0, acc => by
    by_cases hp : TL.pre S (c :: r) = true
    · rw [TL.spl_hit hp]
      obtain ⟨a, b, d⟩ := spl_bound S r (S.length - 1) []
      refine ⟨by simp; omega, by simp, fun p hp => ?_⟩
      rcases List.mem_cons.mp hp with rfl | hp
      · simp
      · have := d p hp
        simp at this ⊢; omega
    · rw [TL.spl_miss (by simpa using hp)]
      obtain ⟨a, b, d⟩ := spl_bound S r 0 (acc ++ [c])
      refine ⟨by simp; omega, b, fun p hp => ?_⟩
      have := d p hp
      simp at this ⊢; omega
theorem split_bound {z y : Str} (hy : TL.tl y ≠ []) (hk : y.cps.all (· < 256) = true) : (Txt.split z y).length ≤ z.length + 1 ∧ Txt.split z y ≠ [] ∧ ∀ p ∈ Txt.split z y, p.length ≤ z.length := by
  have e := TL.split_spl z y hy (TL.kind_ok hk)
  obtain ⟨a, b, d⟩ := spl_bound (TL.tl y) (TL.tl z) 0 []
  rw [← e] at a b d
  rw [List.length_map] at a
  rw [TL.len_tl]
  refine ⟨a, fun q => b (by rw [q]; rfl), fun p hp => ?_⟩
  have := d (TL.tl p) (List.mem_map.mpr ⟨p, hp, rfl⟩)
  rw [TL.len_tl p]; simpa using this
theorem join_bound (S : List Nat) (b : Nat) : ∀ ps : List (List Nat), (∀ p ∈ ps, p.length ≤ b) → (TL.joinL S ps).length ≤ ps.length * (b + S.length)
  | [], _ => by simp [TL.joinL]
  | [p], h => by
    have := h p (by simp)
    show p.length ≤ 1 * (b + S.length)
    omega
  | p :: q :: r, h => by
    have h1 := h p (by simp)
    have h2 := join_bound S b (q :: r) fun x hx => h x (by simp only [List.mem_cons] at hx ⊢; exact .inr hx)
    show (p ++ (S ++ TL.joinL S (q :: r))).length ≤ ((q :: r).length + 1) * (b + S.length)
    rw [List.length_append, List.length_append, Nat.add_mul, Nat.one_mul]
    omega
theorem joined_le {y : Str} {ps : List Str} {b : Nat} (h : ∀ p ∈ ps, p.length ≤ b) : (Txt.join y ps).length ≤ ps.length * (b + y.length) := by
  rw [TL.join_eq, TL.len_tl, TL.tl_join, TL.len_tl y]
  have := join_bound (TL.tl y) b (ps.map TL.tl) fun p hp => by
    obtain ⟨q, hq, rfl⟩ := List.mem_map.mp hp
    rw [← TL.len_tl]; exact h q hq
  rw [List.length_map] at this
  exact this
theorem sum_le {b : Nat} : ∀ {ps : List Str}, (∀ p ∈ ps, p.length ≤ b) → (ps.map (·.length)).sum ≤ ps.length * b
  | [], _ => by simp
  | p :: r, h => by
    have h1 := h p (by simp)
    have h2 := sum_le (ps := r) fun x hx => h x (by simp [hx])
    simp only [List.map_cons, List.sum_cons, List.length_cons, Nat.add_mul, Nat.one_mul]
    omega
end

abbrev s_law_bent_text : Stmt := topS 40
theorem sc_law_bent_text : FnScope ["store", "text", "kind", "lines", "at", "odd", "words", "told", "spot"] ["store", "text"] (defScope s_law_bent_text) := ⟨rfl, rfl, rfl, by decide +kernel, rfl, by decide +kernel, by decide +kernel⟩

section
variable {P : Program} {w : World} {K : PySem.W.Frag} {mg : Str → Option Value} {base : Heap} {C CT CE CB cM cO : Addr}
/-! ### _law_bent_text -/
def BentM (S : Sto) (H : Hp) (z : Str) (r a : Int) (b n : Nat) (σ' : L2.St) (H' : Hp) : Prop := ∃ p, ∃ U : List Str, σ' = [some (.ref S.1), some (.str z), some (.int r), some (.ref p), some (.int a), none, none, none, none] ∧ (∀ u ∈ U, u.length ≤ b) ∧ U.length ≤ n ∧ (4 ≤ r → U.length ≤ 101 ∧ a < U.length) ∧ H p = none ∧ At S H' p (.lst (U.map V.str)) ∧ StoreOk S H' ∧ ExS S H H'
def BentF (S : Sto) (H : Hp) (z : Str) (r a : Int) (σ' : L2.St) (H' : Hp) : Prop := ∃ p o1 o2, ∃ U : List Str, ∃ b : Nat, σ' = [some (.ref S.1), some (.str z), some (.int r), some (.ref p), some (.int a), o1, o2, none, none] ∧ (∀ u ∈ U, u.length ≤ b) ∧ U.length * (b + 1) ≤ 1100000 ∧ At S H' p (.lst (U.map V.str)) ∧ StoreOk S H' ∧ ExS S H H'
theorem str_at {U : List Str} {i : Int} (h0 : 0 ≤ i) (h1 : i < U.length) : ∃ u, u ∈ U ∧ atI (U.map V.str) i = some (.str u) := by
  obtain ⟨hb, e⟩ := atI_get (xs := U.map V.str) (i := i) h0 (by rw [List.length_map]; exact h1)
  have hb' : i.toNat < U.length := by rw [List.length_map] at hb; exact hb
  exact ⟨U[i.toNat], List.getElem_mem hb', by rw [e]; simp⟩
theorem ixN_at {U : List Str} {i : Int} (h0 : 0 ≤ i) (h1 : i < U.length) : ixN (U.map V.str).length i = some i.toNat := by
  unfold ixN
  rw [if_pos h0, if_pos (by rw [List.length_map]; exact h1)]
theorem szB {n : Nat} (h : n ≤ 16777216) : n ≤ sizeLine := h
def spBent : Sp := fun vs H Q _ => ∃ (S : Sto) (z : Str), vs = [.ref S.1, .str z] ∧ z.length ≤ 100 ∧ StoreOk S H ∧ ∀ y H', y.length ≤ 4000000 → StoreOk S H' → ExS S H H' → Q (.str y) H'
theorem ok_bent_text {k : Nat} {f : Addr} {fd : FuncData} (F : Fun K "_law_bent_text" "_law_bent_text" s_law_bent_text f fd) (T : Blt mg) (H_law_take : Has P w K mg base "_law_take" k ["store", "many"] spTake) (H_law_pick : Has P w K mg base "_law_pick" k ["store", "items"] spPick)
    (H_law_sign : Has P w K mg base "_law_sign" k ["store"] spSign) : FnOk P w K mg base CX0 (k + 1) f fd ["store", "text"] spBent := by
  refine F.ok sc_law_bent_text (fun vs H Q E h => ?_) (fun cdv A outer s H vs Q E hr h => ?_)
  · obtain ⟨S, z, rfl, _⟩ := h; rfl
  · obtain ⟨S, z, rfl, hz, hS, h⟩ := h
    refine ⟨_, (pss_cons (ps_set (i := 2) sc_law_bent_text.nd rfl (.inl rfl) (pe_callH H_law_take hr (by rfl) (pa_cons (pv 0) (pa_cons pe_int pa_nil))))
 (pss_cons (ps_set (i := 3) sc_law_bent_text.nd rfl (.inl rfl) (pe_split (pv 1) pe_str))
 (pss_cons (ps_set (i := 4) sc_law_bent_text.nd rfl (.inl rfl) (pe_callH H_law_take hr (by rfl) (pa_cons (pv 0) (pa_cons (pe_callB call_len_seq (by rfl) T.len (by decide +kernel) (pa_cons (pv 3) pa_nil)) pa_nil))))
 (C8.pss_cut (ps_if (PW.pt (pw_and (pt_cmpR op_eq (pv 2) pe_int (nomark _)) (pw_and1 (pt_cmpR op_lt (pe_op op_add (pv 4) pe_int) (pe_callB call_len_seq (by rfl) T.len (by decide +kernel) (pa_cons (pv 3) pa_nil)) (nomark _))))) (pss_one (ps_set (i := 3) sc_law_bent_text.nd rfl (.inl rfl) (pe_op op_cat (pe_op op_cat (pe_slice sl_list (pv 3) po_none (po_some (pv 4))) (pe_lst (pa_cons (pe_ix ix_list (pv 3) (pe_op op_add (pv 4) pe_int) (fun _ _ => rfl)) (pa_cons (pe_ix ix_list (pv 3) (pv 4) (fun _ _ => rfl)) pa_nil)))) (pe_slice sl_list (pv 3) (po_some (pe_op op_add (pv 4) pe_int)) po_none)))) pss_nil)
 (C8.pss_cut (ps_if (pt_cmpR op_eq (pv 2) pe_int (nomark _)) (pss_one (ps_set (i := 3) sc_law_bent_text.nd rfl (.inl rfl) (pe_op op_cat (pe_slice sl_list (pv 3) po_none (po_some (pv 4))) (pe_slice sl_list (pv 3) (po_some (pe_op op_add (pv 4) pe_int)) po_none)))) pss_nil)
 (C8.pss_cut (ps_if (pt_cmpR op_eq (pv 2) pe_int (nomark _)) (pss_one (ps_set (i := 3) sc_law_bent_text.nd rfl (.inl rfl) (pe_op op_cat (pe_slice sl_list (pv 3) po_none (po_some (pe_op op_add (pv 4) pe_int))) (pe_slice sl_list (pv 3) (po_some (pv 4)) po_none)))) pss_nil)
 (C8.pss_cut (ps_if (pt_cmpR op_eq (pv 2) pe_int (nomark _)) (pss_one (ps_set (i := 3) sc_law_bent_text.nd rfl (.inl rfl) (pe_slice sl_list (pv 3) po_none (po_some (pv 4))))) pss_nil)
 (C8.pss_cut (ps_if (pt_cmpR op_eq (pv 2) pe_int (nomark _)) (pss_one (ps_asg (pe_op op_add_str (pe_ix ix_list (pv 3) (pv 4) (fun _ _ => rfl)) (pe_callH H_law_pick hr (by rfl) (pa_cons (pv 0) (pa_cons (pe_lst (pa_cons pe_str (pa_cons pe_str (pa_cons pe_str (pa_cons pe_str pa_nil))))) pa_nil)))) (pg_sub (pv 3) (pv 4) set_list))) pss_nil)
 (C8.pss_cut (ps_if (PW.pt (pw_or (pt_cmpR op_eq (pv 2) pe_int (nomark _)) (pw_or1 (pt_cmpR op_eq (pv 2) pe_int (nomark _))))) (pss_cons (ps_set (i := 5) sc_law_bent_text.nd rfl (.inl rfl) (pe_lst (pa_cons pe_str (pa_cons pe_str (pa_cons pe_str (pa_cons pe_str (pa_cons pe_str (pa_cons pe_str (pa_cons pe_str (pa_cons pe_str (pa_cons pe_str (pa_cons pe_str (pa_cons pe_str (pa_cons pe_str (pa_cons pe_str pa_nil)))))))))))))))
 (pss_cons (ps_set (i := 6) sc_law_bent_text.nd rfl (.inl rfl) (pe_split (pe_ix ix_list (pv 3) (pv 4) (fun _ _ => rfl)) pe_str))
 (pss_cons (ps_asg (pe_callH H_law_pick hr (by rfl) (pa_cons (pv 0) (pa_cons (pv 5) pa_nil))) (pg_sub (pv 6) (pe_callH H_law_take hr (by rfl) (pa_cons (pv 0) (pa_cons (pe_callB call_len_seq (by rfl) T.len (by decide +kernel) (pa_cons (pv 6) pa_nil)) pa_nil))) set_list))
 (pss_one (ps_asg (pe_join pe_str (pv 6)) (pg_sub (pv 3) (pv 4) set_list)))))) pss_nil)
 (pss_cons (ps_set (i := 7) sc_law_bent_text.nd rfl (.inl rfl) (pe_join pe_str (pv 3)))
 (pss_cons (ps_set (i := 8) sc_law_bent_text.nd rfl (.inl rfl) (pe_callH H_law_take hr (by rfl) (pa_cons (pv 0) (pa_cons (pe_op op_add (pe_callB call_len_str (by rfl) T.len (by decide +kernel) (pa_cons (pv 7) pa_nil)) pe_int) pa_nil))))
 (pss_cons (ps_if (pt_cmpR op_eq (pv 2) pe_int (nomark _)) (pss_one (ps_ret (pe_op op_add_str (pv 7) pe_str))) pss_nil)
 (pss_cons (ps_if (pt_cmpR op_eq (pv 2) pe_int (nomark _)) (pss_one (ps_ret (pe_op op_add_str (pe_op op_add_str (pe_slice sl_str (pv 7) po_none (po_some (pv 8))) (pe_callH H_law_sign hr (by rfl) (pa_cons (pv 0) pa_nil))) (pe_slice sl_str (pv 7) (po_some (pe_op op_add (pv 8) pe_int)) po_none)))) pss_nil)
 (pss_cons (ps_if (pt_cmpR op_eq (pv 2) pe_int (nomark _)) (pss_one (ps_ret (pe_op op_add_str (pe_op op_add_str (pe_slice sl_str (pv 7) po_none (po_some (pv 8))) (pe_callH H_law_pick hr (by rfl) (pa_cons (pv 0) (pa_cons (pe_lst (pa_cons pe_str (pa_cons pe_str (pa_cons pe_str (pa_cons pe_str (pa_cons pe_str pa_nil)))))) pa_nil)))) (pe_slice sl_str (pv 7) (po_some (pv 8)) po_none)))) pss_nil)
 (pss_cons (ps_if (pt_cmpR op_eq (pv 2) pe_int (nomark _)) (pss_one (ps_ret (pe_op op_add_str (pe_slice sl_str (pv 7) po_none (po_some (pv 8))) (pe_slice sl_str (pv 7) (po_some (pe_op op_add (pv 8) pe_int)) po_none)))) pss_nil)
 (pss_one (ps_ret (pv 7)))))))))))))))))), ?_⟩
    walk_at "rdE"
    refine ⟨S, 12, rfl, by omega, hS, fun r H1 r0 r1 hS1 e1 => ?_⟩
    walk_at "rdE"
    refine ⟨rfl, by rw [show sizeLine = 2 ^ 24 from rfl]; omega, fun p np => ?_⟩
    obtain ⟨b1, b2, b3⟩ := split_bound (z := z) (y := "\n") (by decide) (by decide +kernel)
    generalize Txt.split z "\n" = U at *
    have lU : 1 ≤ U.length := List.length_pos_iff.mpr b2
    have hA : At S (upd H1 p (.lst (U.map V.str))) p (.lst (U.map V.str)) := .new hS1 np
    have hp := exs_free e1 hS1 np
    walk_at "rdE"
    refine ⟨p, _, rfl, .inl (sl_of hA.2), ?_⟩
    walk_at "rdE"
    rw [List.length_map]
    refine ⟨S, _, rfl, by omega, hS1.new np, fun a H2 a0 a1 hS2 e2 => ?_⟩
    have hA2 := hA.back e2
    have e2' := (e1.trans (ExS.new (S := S) (o := .lst (U.map V.str)) np)).trans e2
    refine rd_cut (BentM S H z r a 100 204) ?_ ?_
    · walk_at "rdE"
      refine if_dec (fun hk => ?_) (fun hk => ?_)
      · walk_at "rdE"
        refine ⟨p, _, rfl, .inl (sl_of hA2.2), ?_⟩
        walk_at "rdE"
        rw [List.length_map]
        refine if_dec (fun hl => ?_) (fun hl => ?_)
        · walk_at "rdE"
          refine ⟨p, _, rfl, sl_of hA2.2, fun q1 n1 => ?_⟩
          walk_at "rdE"
          obtain ⟨u1, hu1, en1⟩ := str_at (U := U) (i := a + 1) (by omega) (by omega)
          obtain ⟨u2, hu2, en2⟩ := str_at (U := U) (i := a) (by omega) (by omega)
          have s1 := same_new (o := .lst (cutV (U.map V.str) none (some a))) n1
          refine rd_ixL (s1 _ _ hA2.2) en1 ?_
          walk_at "rdE"
          refine rd_ixL (s1 _ _ hA2.2) en2 ?_
          walk_at "rdE"
          refine ⟨sz (by simp), fun q2 n2 => ?_⟩
          have s2 := same_new (o := .lst [V.str u1, V.str u2]) n2
          have l1 := cutV_length (U.map V.str) none (some a)
          have l2 := cutV_length (U.map V.str) (some (a + 2)) none
          rw [List.length_map] at l1 l2
          walk_at "rdE"
          refine ⟨q1, q2, _, _, rfl, rfl, s2 _ _ upd_same, upd_same, sz (by simp; omega), fun q3 n3 => ?_⟩
          have s3 := same_new (o := .lst (cutV (U.map V.str) none (some a) ++ [V.str u1, V.str u2])) n3
          walk_at "rdE"
          refine ⟨p, _, rfl, sl_of ((s1.trans (s2.trans s3)) _ _ hA2.2), fun q4 n4 => ?_⟩
          have s4 := same_new (o := .lst (cutV (U.map V.str) (some (a + 2)) none)) n4
          walk_at "rdE"
          refine ⟨q3, q4, _, _, rfl, rfl, s4 _ _ upd_same, upd_same, sz (by simp; omega), fun q5 n5 => ?_⟩
          have sA := (s1.trans (s2.trans s3)).trans s4
          have hSA := hS2.same sA
          obtain ⟨W1, w1, m1⟩ := cut_strs U none (some a)
          obtain ⟨W2, w2, m2⟩ := cut_strs U (some (a + 2)) none
          have ew : cutV (U.map V.str) none (some a) ++ [V.str u1, V.str u2] ++ cutV (U.map V.str) (some (a + 2)) none = (W1 ++ [u1, u2] ++ W2).map V.str := by rw [w1, w2]; simp
          have lw := congrArg List.length ew
          rw [List.length_map, List.length_append, List.length_append] at lw
          have l3 : [V.str u1, V.str u2].length = 2 := rfl
          rw [ew]
          refine ⟨q5, _, rfl, fun u hu => ?_, by omega, fun h4 => by omega, exs_free (e2'.trans (same_ex sA)) hSA n5, .new hSA n5, hSA.new n5, (e2'.trans (same_ex sA)).trans (ExS.new n5)⟩
          simp only [List.mem_append, List.mem_cons, List.not_mem_nil, or_false] at hu
          rcases hu with (hu | rfl | rfl) | hu
          · have := b3 u (m1 u hu); omega
          · have := b3 _ hu1; omega
          · have := b3 _ hu2; omega
          · have := b3 u (m2 u hu); omega
        · walk_at "rdE"
          exact ⟨p, U, rfl, fun u hu => by have := b3 u hu; omega, by omega, fun _ => ⟨by omega, by omega⟩, hp, hA2, hS2, e2'⟩
      · walk_at "rdE"
        exact ⟨p, U, rfl, fun u hu => by have := b3 u hu; omega, by omega, fun _ => ⟨by omega, by omega⟩, hp, hA2, hS2, e2'⟩
    · rintro σ' H2 ⟨p, U, rfl, b3, bn, hc, hp, hA2, hS2, e2'⟩
      refine rd_cut (BentM S H z r a 100 408) ?_ ?_
      · walk_at "rdE"
        refine if_dec (fun hk => ?_) (fun hk => ?_)
        · walk_at "rdE"
          refine ⟨p, _, rfl, sl_of hA2.2, fun q1 n1 => ?_⟩
          have s1 := same_new (o := .lst (cutV (U.map V.str) none (some a))) n1
          walk_at "rdE"
          refine ⟨p, _, rfl, sl_of (s1 _ _ hA2.2), fun q2 n2 => ?_⟩
          have s2 := same_new (o := .lst (cutV (U.map V.str) (some (a + 1)) none)) n2
          have l1 := cutV_length (U.map V.str) none (some a)
          have l2 := cutV_length (U.map V.str) (some (a + 1)) none
          rw [List.length_map] at l1 l2
          walk_at "rdE"
          refine ⟨q1, q2, _, _, rfl, rfl, s2 _ _ upd_same, upd_same, sz (by omega), fun q5 n5 => ?_⟩
          have sA := s1.trans s2
          have hSA := hS2.same sA
          obtain ⟨W1, w1, m1⟩ := cut_strs U none (some a)
          obtain ⟨W2, w2, m2⟩ := cut_strs U (some (a + 1)) none
          have ew : cutV (U.map V.str) none (some a) ++ cutV (U.map V.str) (some (a + 1)) none = (W1 ++ W2).map V.str := by rw [w1, w2]; simp
          have lw := congrArg List.length ew
          rw [List.length_map, List.length_append] at lw
          rw [ew]
          refine ⟨q5, _, rfl, fun u hu => ?_, by omega, fun h4 => by omega, exs_free (e2'.trans (same_ex sA)) hSA n5, .new hSA n5, hSA.new n5, (e2'.trans (same_ex sA)).trans (ExS.new n5)⟩
          rcases List.mem_append.mp hu with hu | hu
          · exact b3 u (m1 u hu)
          · exact b3 u (m2 u hu)
        · walk_at "rdE"
          exact ⟨p, U, rfl, b3, by omega, hc, hp, hA2, hS2, e2'⟩
      · rintro σ' H2 ⟨p, U, rfl, b3, bn, hc, hp, hA2, hS2, e2'⟩
        refine rd_cut (BentM S H z r a 100 816) ?_ ?_
        · walk_at "rdE"
          refine if_dec (fun hk => ?_) (fun hk => ?_)
          · walk_at "rdE"
            refine ⟨p, _, rfl, sl_of hA2.2, fun q1 n1 => ?_⟩
            have s1 := same_new (o := .lst (cutV (U.map V.str) none (some (a + 1)))) n1
            walk_at "rdE"
            refine ⟨p, _, rfl, sl_of (s1 _ _ hA2.2), fun q2 n2 => ?_⟩
            have s2 := same_new (o := .lst (cutV (U.map V.str) (some a) none)) n2
            have l1 := cutV_length (U.map V.str) none (some (a + 1))
            have l2 := cutV_length (U.map V.str) (some a) none
            rw [List.length_map] at l1 l2
            walk_at "rdE"
            refine ⟨q1, q2, _, _, rfl, rfl, s2 _ _ upd_same, upd_same, sz (by omega), fun q5 n5 => ?_⟩
            have sA := s1.trans s2
            have hSA := hS2.same sA
            obtain ⟨W1, w1, m1⟩ := cut_strs U none (some (a + 1))
            obtain ⟨W2, w2, m2⟩ := cut_strs U (some a) none
            have ew : cutV (U.map V.str) none (some (a + 1)) ++ cutV (U.map V.str) (some a) none = (W1 ++ W2).map V.str := by rw [w1, w2]; simp
            have lw := congrArg List.length ew
            rw [List.length_map, List.length_append] at lw
            rw [ew]
            refine ⟨q5, _, rfl, fun u hu => ?_, by omega, fun h4 => by omega, exs_free (e2'.trans (same_ex sA)) hSA n5, .new hSA n5, hSA.new n5, (e2'.trans (same_ex sA)).trans (ExS.new n5)⟩
            rcases List.mem_append.mp hu with hu | hu
            · exact b3 u (m1 u hu)
            · exact b3 u (m2 u hu)
          · walk_at "rdE"
            exact ⟨p, U, rfl, b3, by omega, hc, hp, hA2, hS2, e2'⟩
        · rintro σ' H2 ⟨p, U, rfl, b3, bn, hc, hp, hA2, hS2, e2'⟩
          refine rd_cut (BentM S H z r a 100 816) ?_ ?_
          · walk_at "rdE"
            refine if_dec (fun hk => ?_) (fun hk => ?_)
            · walk_at "rdE"
              refine ⟨p, _, rfl, sl_of hA2.2, fun q1 n1 => ?_⟩
              have l1 := cutV_length (U.map V.str) none (some a)
              rw [List.length_map] at l1
              obtain ⟨W1, w1, m1⟩ := cut_strs U none (some a)
              have lw := congrArg List.length w1
              rw [List.length_map] at lw
              rw [w1]
              exact ⟨q1, _, rfl, fun u hu => b3 u (m1 u hu), by omega, fun h4 => by omega, exs_free e2' hS2 n1, .new hS2 n1, hS2.new n1, e2'.trans (ExS.new n1)⟩
            · walk_at "rdE"
              exact ⟨p, U, rfl, b3, by omega, hc, hp, hA2, hS2, e2'⟩
          · rintro σ' H2 ⟨p, U, rfl, b3, bn, hc, hp, hA2, hS2, e2'⟩
            refine rd_cut (BentM S H z r a 102 816) ?_ ?_
            · walk_at "rdE"
              refine if_dec (fun hk => ?_) (fun hk => ?_)
              · obtain ⟨c1, c2⟩ := hc (by omega)
                obtain ⟨u, hu, en⟩ := str_at (U := U) (i := a) a0 c2
                walk_at "rdE"
                refine rd_ixL hA2.2 en ?_
                walk_at "rdE"
                refine ⟨sz (by simp), fun q nq => ?_⟩
                walk_at "rdE"
                refine ⟨S, _, rfl, hS2.new nq, .inl ⟨q, _, rfl, .new hS2 nq, by simp, by simp, fun v H3 hv hS3 e3 => ?_⟩⟩
                obtain ⟨x, rfl, hx⟩ : ∃ x : Str, v = .str x ∧ x.length ≤ 2 := by
                  simp only [List.mem_cons, List.not_mem_nil, or_false] at hv
                  rcases hv with rfl | rfl | rfl | rfl <;> exact ⟨_, rfl, by decide⟩
                have e3' := e2'.trans ((ExS.new nq).trans e3)
                have hA3 := (hA2.back (ExS.new nq)).back e3
                have hul := b3 u hu
                walk_at "rdE"
                refine ⟨sz (by omega), ?_⟩
                walk_at "rdE"
                refine ⟨p, _, _, a.toNat, rfl, rfl, hA3.2, ixN_at a0 c2, ?_⟩
                rw [← List.map_set]
                refine ⟨p, _, rfl, fun y hy => ?_, by rw [List.length_set]; omega, fun _ => by rw [List.length_set]; exact ⟨c1, c2⟩, hp, ⟨hA3.1, upd_same⟩, store_upd hS3 hA3.1 (hS.ne2 hp), e3'.mut hp⟩
                rcases List.mem_or_eq_of_mem_set hy with hy | rfl
                · have := b3 y hy; omega
                · rw [app_len]; omega
              · walk_at "rdE"
                exact ⟨p, U, rfl, fun u hu => by have := b3 u hu; omega, by omega, hc, hp, hA2, hS2, e2'⟩
            · rintro σ' H2 ⟨p, U, rfl, b3, bn, hc, hp, hA2, hS2, e2'⟩
              refine rd_cut (BentF S H z r a) ?_ ?_
              · walk_at "rdE"
                refine if_dec (fun hk => ?_) (fun hk => ?_)
                · obtain ⟨c1, c2⟩ := hc (by omega)
                  obtain ⟨u, hu, en⟩ := str_at (U := U) (i := a) a0 c2
                  have hul := b3 u hu
                  walk_at "rdE"
                  refine ⟨sz (by simp), fun oq noq => ?_⟩
                  walk_at "rdE"
                  refine rd_ixL (same_new noq _ _ hA2.2) en ?_
                  walk_at "rdE"
                  refine ⟨rfl, by rw [show sizeLine = 2 ^ 24 from rfl]; omega, fun wp nwp => ?_⟩
                  obtain ⟨w1, w2, w3⟩ := split_bound (z := u) (y := " ") (by decide) (by decide +kernel)
                  generalize Txt.split u " " = Ws at *
                  have lW : 1 ≤ Ws.length := List.length_pos_iff.mpr w2
                  have hpw : p ≠ wp := ne_of_none (same_new noq _ _ hA2.2) nwp
                  have hSo := (hS2.new noq).new (o := .lst (Ws.map V.str)) nwp
                  have hw0 : H wp = none := exs_free (e2'.trans (ExS.new noq)) (hS2.new noq) nwp
                  have eo := (e2'.trans (ExS.new noq)).trans (ExS.new (S := S) (o := .lst (Ws.map V.str)) nwp)
                  have hAo := (hA2.back (ExS.new noq)).back (ExS.new (S := S) (o := .lst (Ws.map V.str)) nwp)
                  walk_at "rdE"
                  refine ⟨S, _, rfl, hSo, .inl ⟨oq, _, rfl, ⟨hS2.ne1 noq, (same_new nwp) _ _ upd_same⟩, by simp, by simp, fun v H3 hv hS3 e3 => ?_⟩⟩
                  obtain ⟨x, rfl, hx⟩ : ∃ x : Str, v = .str x ∧ x.length ≤ 14 := by
                    simp only [List.mem_cons, List.not_mem_nil, or_false] at hv
                    rcases hv with rfl | rfl | rfl | rfl | rfl | rfl | rfl | rfl | rfl | rfl | rfl | rfl | rfl <;> exact ⟨_, rfl, by decide⟩
                  have hw3 : H3 wp = some (.lst (Ws.map V.str)) := e3 _ _ ((hS2.new noq).ne1 nwp) upd_same
                  walk_at "rdE"
                  refine ⟨wp, _, rfl, .inl (sl_of hw3), ?_⟩
                  walk_at "rdE"
                  rw [List.length_map]
                  refine ⟨S, _, rfl, by omega, hS3, fun t H4 t0 t1 hS4 e4 => ?_⟩
                  have hw4 := e4 _ _ ((hS2.new noq).ne1 nwp) hw3
                  have e4' := (eo.trans e3).trans e4
                  have hA4 := (hAo.back e3).back e4
                  refine ⟨wp, _, _, t.toNat, rfl, rfl, hw4, ixN_at t0 (by omega), ?_⟩
                  rw [← List.map_set]
                  have hws : ∀ y ∈ Ws.set t.toNat x, y.length ≤ 102 := fun y hy => by
                    rcases List.mem_or_eq_of_mem_set hy with hy | rfl
                    · have := w3 y hy; omega
                    · omega
                  have lws : (Ws.set t.toNat x).length ≤ 103 := by rw [List.length_set]; omega
                  have sws := sum_le hws
                  have jws := joined_le (y := " ") hws
                  have l1 : (" " : Str).length = 1 := rfl
                  generalize Ws.set t.toNat x = W' at *
                  have m1 : W'.length * 102 ≤ 103 * 102 := Nat.mul_le_mul_right _ lws
                  have m2 : W'.length * (102 + (" " : Str).length) ≤ 103 * (102 + (" " : Str).length) := Nat.mul_le_mul_right _ lws
                  walk_at "rdE"
                  refine ⟨_, wp, W', rfl, rfl, .inl (sl_of upd_same), by rw [l1]; omega, ?_⟩
                  walk_at "rdE"
                  refine ⟨p, _, _, a.toNat, rfl, rfl, by rw [upd_ne hpw]; exact hA4.2, ixN_at a0 c2, ?_⟩
                  rw [← List.map_set]
                  refine ⟨p, _, _, _, 10609, rfl, fun y hy => ?_, ?_, ⟨hA4.1, upd_same⟩, store_upd (store_upd hS4 ((hS2.new noq).ne1 nwp) (hS.ne2 hw0)) hA4.1 (hS.ne2 hp), (e4'.mut hw0).mut hp⟩
                  · rcases List.mem_or_eq_of_mem_set hy with hy | rfl
                    · have := b3 y hy; omega
                    · omega
                  · rw [List.length_set]
                    have := Nat.mul_le_mul_right (10609 + 1) c1
                    omega
                · walk_at "rdE"
                  refine if_dec (fun hk6 => ?_) (fun hk6 => ?_)
                  · obtain ⟨c1, c2⟩ := hc (by omega)
                    obtain ⟨u, hu, en⟩ := str_at (U := U) (i := a) a0 c2
                    have hul := b3 u hu
                    walk_at "rdE"
                    refine ⟨sz (by simp), fun oq noq => ?_⟩
                    walk_at "rdE"
                    refine rd_ixL (same_new noq _ _ hA2.2) en ?_
                    walk_at "rdE"
                    refine ⟨rfl, by rw [show sizeLine = 2 ^ 24 from rfl]; omega, fun wp nwp => ?_⟩
                    obtain ⟨w1, w2, w3⟩ := split_bound (z := u) (y := " ") (by decide) (by decide +kernel)
                    generalize Txt.split u " " = Ws at *
                    have lW : 1 ≤ Ws.length := List.length_pos_iff.mpr w2
                    have hpw : p ≠ wp := ne_of_none (same_new noq _ _ hA2.2) nwp
                    have hSo := (hS2.new noq).new (o := .lst (Ws.map V.str)) nwp
                    have hw0 : H wp = none := exs_free (e2'.trans (ExS.new noq)) (hS2.new noq) nwp
                    have eo := (e2'.trans (ExS.new noq)).trans (ExS.new (S := S) (o := .lst (Ws.map V.str)) nwp)
                    have hAo := (hA2.back (ExS.new noq)).back (ExS.new (S := S) (o := .lst (Ws.map V.str)) nwp)
                    walk_at "rdE"
                    refine ⟨S, _, rfl, hSo, .inl ⟨oq, _, rfl, ⟨hS2.ne1 noq, (same_new nwp) _ _ upd_same⟩, by simp, by simp, fun v H3 hv hS3 e3 => ?_⟩⟩
                    obtain ⟨x, rfl, hx⟩ : ∃ x : Str, v = .str x ∧ x.length ≤ 14 := by
                      simp only [List.mem_cons, List.not_mem_nil, or_false] at hv
                      rcases hv with rfl | rfl | rfl | rfl | rfl | rfl | rfl | rfl | rfl | rfl | rfl | rfl | rfl <;> exact ⟨_, rfl, by decide⟩
                    have hw3 : H3 wp = some (.lst (Ws.map V.str)) := e3 _ _ ((hS2.new noq).ne1 nwp) upd_same
                    walk_at "rdE"
                    refine ⟨wp, _, rfl, .inl (sl_of hw3), ?_⟩
                    walk_at "rdE"
                    rw [List.length_map]
                    refine ⟨S, _, rfl, by omega, hS3, fun t H4 t0 t1 hS4 e4 => ?_⟩
                    have hw4 := e4 _ _ ((hS2.new noq).ne1 nwp) hw3
                    have e4' := (eo.trans e3).trans e4
                    have hA4 := (hAo.back e3).back e4
                    refine ⟨wp, _, _, t.toNat, rfl, rfl, hw4, ixN_at t0 (by omega), ?_⟩
                    rw [← List.map_set]
                    have hws : ∀ y ∈ Ws.set t.toNat x, y.length ≤ 102 := fun y hy => by
                      rcases List.mem_or_eq_of_mem_set hy with hy | rfl
                      · have := w3 y hy; omega
                      · omega
                    have lws : (Ws.set t.toNat x).length ≤ 103 := by rw [List.length_set]; omega
                    have sws := sum_le hws
                    have jws := joined_le (y := " ") hws
                    have l1 : (" " : Str).length = 1 := rfl
                    generalize Ws.set t.toNat x = W' at *
                    have m1 : W'.length * 102 ≤ 103 * 102 := Nat.mul_le_mul_right _ lws
                    have m2 : W'.length * (102 + (" " : Str).length) ≤ 103 * (102 + (" " : Str).length) := Nat.mul_le_mul_right _ lws
                    walk_at "rdE"
                    refine ⟨_, wp, W', rfl, rfl, .inl (sl_of upd_same), by rw [l1]; omega, ?_⟩
                    walk_at "rdE"
                    refine ⟨p, _, _, a.toNat, rfl, rfl, by rw [upd_ne hpw]; exact hA4.2, ixN_at a0 c2, ?_⟩
                    rw [← List.map_set]
                    refine ⟨p, _, _, _, 10609, rfl, fun y hy => ?_, ?_, ⟨hA4.1, upd_same⟩, store_upd (store_upd hS4 ((hS2.new noq).ne1 nwp) (hS.ne2 hw0)) hA4.1 (hS.ne2 hp), (e4'.mut hw0).mut hp⟩
                    · rcases List.mem_or_eq_of_mem_set hy with hy | rfl
                      · have := b3 y hy; omega
                      · omega
                    · rw [List.length_set]
                      have := Nat.mul_le_mul_right (10609 + 1) c1
                      omega
                  · walk_at "rdE"
                    refine ⟨p, _, _, U, 102, rfl, b3, ?_, hA2, hS2, e2'⟩
                    have := Nat.mul_le_mul_right (102 + 1) bn
                    omega
              · rintro σ' H2 ⟨p, o1, o2, U, b, rfl, b3, bn, hA2, hS2, e2'⟩
                walk_at "rdE"
                have sU := sum_le b3
                have jU := joined_le (y := "\n") b3
                have l1 : ("\n" : Str).length = 1 := rfl
                rw [l1] at jU
                rw [Nat.mul_add, Nat.mul_one] at bn jU
                refine ⟨_, p, U, rfl, rfl, .inl (sl_of hA2.2), by rw [l1]; omega, ?_⟩
                generalize Txt.join "\n" U = t at *
                have ht : t.length ≤ 1100000 := by omega
                walk_at "rdE"
                refine ⟨szB (by omega), ?_⟩
                walk_at "rdE"
                refine ⟨S, _, rfl, by omega, hS2, fun sp H3 s0 s1 hS3 e3 => ?_⟩
                have e3' := e2'.trans e3
                have hL1 := cutS_len t none (some sp)
                have hL2 := cutS_len t (some (sp + 1)) none
                have hL3 := cutS_len t (some sp) none
                walk_at "rdE"
                refine if_dec (fun hk => ?_) (fun hk => ?_)
                · walk_at "rdE"
                  refine ⟨szB (by omega), ?_⟩
                  exact h _ _ (by rw [app_len]; omega) hS3 e3'
                · walk_at "rdE"
                  refine if_dec (fun hk => ?_) (fun hk => ?_)
                  · walk_at "rdE"
                    refine ⟨t, rfl, szB (by omega), ?_⟩
                    walk_at "rdE"
                    refine ⟨S, rfl, hS3, fun c H4 hc hS4 e4 => ?_⟩
                    have l2 : (⟨#[c]⟩ : Str).length = 1 := rfl
                    walk_at "rdE"
                    refine ⟨szB (by omega), ?_⟩
                    walk_at "rdE"
                    refine ⟨t, rfl, szB (by omega), ?_⟩
                    walk_at "rdE"
                    refine ⟨szB (by rw [app_len]; omega), ?_⟩
                    exact h _ _ (by rw [app_len, app_len]; omega) hS4 (e3'.trans e4)
                  · walk_at "rdE"
                    refine if_dec (fun hk => ?_) (fun hk => ?_)
                    · walk_at "rdE"
                      refine ⟨t, rfl, szB (by omega), ?_⟩
                      walk_at "rdE"
                      refine ⟨sz (by simp), fun q nq => ?_⟩
                      walk_at "rdE"
                      refine ⟨S, _, rfl, hS3.new nq, .inl ⟨q, _, rfl, .new hS3 nq, by simp, by simp, fun v H4 hv hS4 e4 => ?_⟩⟩
                      obtain ⟨x, rfl, hx⟩ : ∃ x : Str, v = .str x ∧ x.length ≤ 2 := by
                        simp only [List.mem_cons, List.not_mem_nil, or_false] at hv
                        rcases hv with rfl | rfl | rfl | rfl | rfl <;> exact ⟨_, rfl, by decide⟩
                      walk_at "rdE"
                      refine ⟨szB (by omega), ?_⟩
                      walk_at "rdE"
                      refine ⟨t, rfl, szB (by omega), ?_⟩
                      walk_at "rdE"
                      refine ⟨szB (by rw [app_len]; omega), ?_⟩
                      exact h _ _ (by rw [app_len, app_len]; omega) hS4 (e3'.trans ((ExS.new nq).trans e4))
                    · walk_at "rdE"
                      refine if_dec (fun hk => ?_) (fun hk => ?_)
                      · walk_at "rdE"
                        refine ⟨t, rfl, szB (by omega), ?_⟩
                        walk_at "rdE"
                        refine ⟨t, rfl, szB (by omega), ?_⟩
                        walk_at "rdE"
                        refine ⟨szB (by omega), ?_⟩
                        exact h _ _ (by rw [app_len]; omega) hS3 e3'
                      · walk_at "rdE"
                        exact h _ _ (by omega) hS3 e3'
end

abbrev s_law_reads_near : Stmt := topS 51
theorem sc_law_reads_near : FnScope ["store", "word", "sign", "at", "near", "k"] ["store", "word"] (defScope s_law_reads_near) := ⟨rfl, rfl, rfl, by decide +kernel, rfl, by decide +kernel, by decide +kernel⟩

section
variable {P : Program} {w : World} {K : PySem.W.Frag} {mg : Str → Option Value} {base : Heap} {C CT CE CB cM cO : Addr}
/-! ### _law_reads_near -/
def spReadsNear : Sp := fun vs H Q _ => ∃ (S : Sto) (z : Str), vs = [.ref S.1, .str z] ∧ z.length ≤ 100 ∧ StoreOk S H ∧ ∀ H', StoreOk S H' → ExS S H H' → Q (.bl true) H'
theorem ok_reads_near {k : Nat} {f : Addr} {fd : FuncData} (F : Fun K "_law_reads_near" "_law_reads_near" s_law_reads_near f fd) (T : Blt mg) (H_law_pick : Has P w K mg base "_law_pick" k ["store", "items"] spPick) (H_law_sign : Has P w K mg base "_law_sign" k ["store"] spSign)
    (H_law_spoilt_at : Has P w K mg base "_law_spoilt_at" k ["word", "at", "sign"] spSpoilt) (H_law_reads : Has P w K mg base "_law_reads" k ["word"] spReads) (H_law_bent_text : Has P w K mg base "_law_bent_text" k ["store", "text"] spBent) : FnOk P w K mg base CX0 (k + 1) f fd ["store", "word"] spReadsNear := by
  refine F.ok sc_law_reads_near (fun vs H Q E h => ?_) (fun cdv A outer s H vs Q E hr h => ?_)
  · obtain ⟨S, z, rfl, _⟩ := h; rfl
  · obtain ⟨S, z, rfl, hz, hS, h⟩ := h
    refine ⟨_, (pss_cons (ps_set (i := 2) sc_law_reads_near.nd rfl (.inl rfl) (pe_callH H_law_pick hr (by rfl) (pa_cons (pv 0) (pa_cons (pe_lst (pa_cons pe_str (pa_cons pe_str (pa_cons pe_str (pa_cons pe_str (pa_cons pe_str (pa_cons pe_str (pa_cons pe_str (pa_cons pe_str (pa_cons (pe_callH H_law_sign hr (by rfl) (pa_cons (pv 0) pa_nil)) pa_nil)))))))))) pa_nil))))
 (pss_cons (ps_for PassesOwn.never rfl (pi_range1 rfl T.range (pa_cons (pe_op op_add (pe_callB call_len_str (by rfl) T.len (by decide +kernel) (pa_cons (pv 1) pa_nil)) pe_int) pa_nil)) (pg_name (i := 3) sc_law_reads_near.nd rfl (.inl rfl)) (pss_one (ps_for PassesOwn.never rfl (pi_list (pe_callH H_law_spoilt_at hr (by rfl) (pa_cons (pv 1) (pa_cons (pv 3) (pa_cons (pv 2) pa_nil))))) (pg_name (i := 4) sc_law_reads_near.nd rfl (.inl rfl)) (pss_one (ps_if (pt_not (pt_val (pe_callH H_law_reads hr (by rfl) (pa_cons (pv 4) pa_nil)))) (pss_one (ps_ret pe_bl)) pss_nil)))))
 (pss_cons (ps_for PassesOwn.never rfl (pi_range1 rfl T.range (pa_cons pe_int pa_nil)) (pg_name (i := 5) sc_law_reads_near.nd rfl (.inl rfl)) (pss_one (ps_if (pt_not (pt_val (pe_callH H_law_reads hr (by rfl) (pa_cons (pe_slice sl_str (pe_callH H_law_bent_text hr (by rfl) (pa_cons (pv 0) (pa_cons (pv 1) pa_nil))) po_none (po_some pe_int)) pa_nil)))) (pss_one (ps_ret pe_bl)) pss_nil)))
 (pss_one (ps_ret pe_bl))))), ?_⟩
    walk_at "rdE"
    refine ⟨S, rfl, hS, fun c H1 hc hS1 e1 => ?_⟩
    walk_at "rdE"
    refine ⟨sz (by simp), fun q nq => ?_⟩
    walk_at "rdE"
    refine ⟨S, _, rfl, hS1.new nq, .inl ⟨q, _, rfl, .new hS1 nq, by simp, by simp, fun v H2 hv hS2 e2 => ?_⟩⟩
    obtain ⟨d, rfl⟩ : ∃ d : Nat, v = .str ⟨#[d]⟩ := by
      simp only [List.mem_cons, List.not_mem_nil, or_false] at hv
      rcases hv with rfl | rfl | rfl | rfl | rfl | rfl | rfl | rfl | rfl
      · exact ⟨48, rfl⟩
      · exact ⟨45, rfl⟩
      · exact ⟨46, rfl⟩
      · exact ⟨32, rfl⟩
      · exact ⟨95, rfl⟩
      · exact ⟨43, rfl⟩
      · exact ⟨10, rfl⟩
      · exact ⟨55, rfl⟩
      · exact ⟨c, rfl⟩
    have e2' := e1.trans ((ExS.new nq).trans e2)
    walk_at "rdE"
    refine ⟨sz (by omega), ?_⟩
    walk_at "rdE"
    refine ⟨by omega, by omega, for_rng (fun i σ H' => ∃ y4 y5, σ = [some (.ref S.1), some (.str z), some (.str ⟨#[d]⟩), y4, y5, none] ∧ StoreOk S H' ∧ ExS S H H') ⟨_, _, rfl, hS2, e2'⟩ ?_ ?_⟩
    · rintro i σ H3 hi ⟨y4, y5, rfl, hS3, e3⟩
      walk_at "rdE"
      refine ⟨z, i, d, rfl, by omega, fun p H4 ys l3 hy s4 _ hp => ?_⟩
      refine ⟨p, rfl, ⟨_, sl_of hp⟩, for_lst (xs := ys.map V.str) (fun j σ H' => ∃ y5, σ = [some (.ref S.1), some (.str z), some (.str ⟨#[d]⟩), some (.int i), y5, none] ∧ Same H4 H') ⟨_, rfl, Same.refl _⟩ ?_ ?_ ?_⟩
      · rintro j σ H5 ⟨y5, rfl, s5⟩
        exact s5 _ _ hp
      · rintro j x σ H5 hx ⟨y5, rfl, s5⟩
        obtain ⟨y, hyj, rfl⟩ := get_strs hx
        walk_at "rdE"
        refine ⟨y, rfl, hy y (List.mem_of_getElem? hyj), fun H6 s6 => ?_⟩
        walk_at "rdE"
        exact ⟨_, rfl, s5.trans s6⟩
      · rintro σ H5 ⟨y5, rfl, s5⟩
        exact ⟨_, _, rfl, hS3.same (s4.trans s5), e3.trans (same_ex (s4.trans s5))⟩
    · rintro σ H3 ⟨y4, y5, rfl, hS3, e3⟩
      walk_at "rdE"
      refine ⟨by omega, by omega, for_rng (fun i σ H' => ∃ y6, σ = [some (.ref S.1), some (.str z), some (.str ⟨#[d]⟩), y4, y5, y6] ∧ StoreOk S H' ∧ ExS S H H') ⟨_, rfl, hS3, e3⟩ ?_ ?_⟩
      · rintro i σ H4 hi ⟨y6, rfl, hS4, e4⟩
        walk_at "rdE"
        refine ⟨S, z, rfl, hz, hS4, fun y H5 hy hS5 e5 => ?_⟩
        walk_at "rdE"
        refine ⟨y, rfl, szB (by omega), ?_⟩
        walk_at "rdE"
        have hc : (cutS y none (some 100)).length ≤ 100 := by
          rw [TL.len_tl]
          have := cutS_to y 100
          rw [show (some ((100 : Nat) : Int)) = some (100 : Int) from rfl] at this
          rw [show TL.tl (cutS y none (some 100)) = _ from this, List.length_take]
          omega
        refine ⟨_, rfl, by omega, fun H6 s6 => ?_⟩
        walk_at "rdE"
        exact ⟨_, rfl, hS5.same s6, (e4.trans e5).trans (same_ex s6)⟩
      · rintro σ H4 ⟨y6, rfl, hS4, e4⟩
        walk_at "rdE"
        exact h _ hS4 e4
end

abbrev slaw : Stmt := topS 52
theorem sclaw : FnScope ["script", "store", "pairs", "spans", "turn", "k", "due", "number", "digits", "many", "word", "odd", "ends"] ["script"] (defScope slaw) := ⟨rfl, rfl, rfl, by decide +kernel, rfl, by decide +kernel, by decide +kernel⟩

theorem ix_seqK {X : Cx} {K : PySem.W.Frag} (e : X.K = K) : IxR X (rIx K) := e ▸ ix_seq
structure Z5 where
  (q s d : Addr)
  (l h : V)
def Z5.pr (z : Z5) : Addr × V × V := (z.q, z.l, z.h)
structure ZA (S : Sto) (C : Addr) (H : Hp) (z : Z5) : Prop where
  hq : At S H z.q (.tup [z.l, z.h])
  hs : At S H z.s (.ins C z.d (spn z.l z.h))
  bl : Bar z.l
  bh : Bar z.h
  nc : crossed z.l z.h = false
theorem ZA.ex {S : Sto} {C : Addr} {H H' : Hp} {z : Z5} (h : ZA S C H z) (s : ExS S H H') : ZA S C H' z := ⟨h.hq.back s, h.hs.back s, h.bl, h.bh, h.nc⟩
theorem mul_ok {n : Nat} {z : Str} {k : Int} (h : OkS n z) (k0 : 0 ≤ k) {j m : Nat} (hk : k ≤ j) (hm : n * j ≤ m) : OkS m (Txt.mul z k) := by
  unfold Txt.mul
  split
  · exact (show OkS 0 Str.empty from by decide +kernel).mono (Nat.zero_le _)
  · rename_i h1
    have hj : 1 ≤ j := by omega
    split
    · exact h.mono (Nat.le_trans (by simpa using Nat.mul_le_mul (Nat.le_refl n) hj) hm)
    · refine okS_iff.mpr ⟨?_, fun c hc => ?_⟩
      · show ((List.replicate k.toNat z.cps).foldl (· ++ ·) #[]).size ≤ m
        rw [size_reps]
        have h2 : k.toNat ≤ j := by omega
        have h3 := h.len
        have h4 : z.cps.size ≤ n := h3
        have := Nat.mul_le_mul h2 h4
        rw [Nat.mul_comm n j] at hm
        simp only [Array.size_empty]
        omega
      · have key : ∀ (q : Nat) (acc : Array Nat), (∀ c ∈ acc.toList, c < 128) → ∀ c ∈ ((List.replicate q z.cps).foldl (· ++ ·) acc).toList, c < 128 := by
          intro q
          induction q with
          | zero => intro acc ha c hc; exact ha c hc
          | succ q ih =>
            intro acc ha
            rw [List.replicate_succ, List.foldl_cons]
            refine ih _ fun c hc => ?_
            rw [Array.toList_append] at hc
            rcases List.mem_append.mp hc with a | a
            · exact ha c a
            · exact (okS_iff.mp h).2 c a
        exact key k.toNat #[] (by simp) c hc
theorem alike_lst1 {H : Hp} {p q : Addr} {xs : List V} {n : Nat} (hp : H p = some (.lst xs)) (hq : H q = some (.lst xs)) (hl : xs.length ≤ 100000) (sc : ∀ x ∈ xs, Sc x) : Alike H (n + 1) (.ref p) (.ref q) :=
  .inr ⟨p, q, xs, xs, rfl, rfl, .inl ⟨hp, hq⟩, rfl, hl, fun i u v h1 h2 => by
    have e : u = v := Option.some.inj (h1.symm.trans h2)
    subst e
    cases n with
    | zero => exact ⟨sc u (List.mem_of_getElem? h1), rfl⟩
    | succ n => exact .inl ⟨sc u (List.mem_of_getElem? h1), rfl⟩⟩
theorem z_at {T : List Z5} {i : Int} (h0 : 0 ≤ i) (h1 : i < T.length) : ∃ z, z ∈ T ∧ atI (T.map fun z => V.ref z.q) i = some (.ref z.q) ∧ atI (T.map fun z => V.ref z.s) i = some (.ref z.s) := by
  obtain ⟨hb, e⟩ := atI_get (xs := T.map fun z => V.ref z.q) (i := i) h0 (by rw [List.length_map]; exact h1)
  obtain ⟨hb2, e2⟩ := atI_get (xs := T.map fun z => V.ref z.s) (i := i) h0 (by rw [List.length_map]; exact h1)
  have hb' : i.toNat < T.length := by rw [List.length_map] at hb; exact hb
  exact ⟨T[i.toNat], List.getElem_mem hb', by rw [e]; simp, by rw [e2]; simp⟩
def dOf : V → PyData
  | .int i => .int i
  | _ => .none
theorem dp_end {K : PySem.W.Frag} {H : Hp} {v : V} (n : NI v) : Dp K H v (dOf v) := by
  rcases n with rfl | ⟨i, rfl⟩
  · exact .non
  · exact .int i
theorem eqv_end {x y : V} (hx : NI x) (hy : NI y) : PyData.eqv (dOf x) (dOf y) = decide (x = y) := by
  rcases hx with rfl | ⟨i, rfl⟩ <;> rcases hy with rfl | ⟨j, rfl⟩
  · rfl
  · rfl
  · rfl
  · show (i == j) = decide (V.int i = V.int j)
    rw [Bool.eq_iff_iff]; simp
theorem eqv_ends {l h l2 h2 : V} (a : NI l) (b : NI h) (c : NI l2) (d : NI h2) : PyData.eqv (.tuple [dOf l, dOf h]) (.tuple [dOf l2, dOf h2]) = (decide (l = l2) && decide (h = h2)) := by
  show PyData.eqvAll _ _ = _
  simp only [PyData.eqvAll, eqv_end a c, eqv_end b d, Bool.and_true]
theorem shaped_ends {l h : V} (a : NI l) (b : NI h) : SeqAt.shaped (.tuple [dOf l, dOf h]) = true := by
  rcases a with rfl | ⟨i, rfl⟩ <;> rcases b with rfl | ⟨j, rfl⟩ <;> rfl

section
variable {P : Program} {w : World} {K : PySem.W.Frag} {mg : Str → Option Value} {base : Heap} {C CT CE CB cM cO : Addr}
/-! ### law -/
def spLaw (K : PySem.W.Frag) : Sp := fun vs H Q _ => ∃ (a : Addr) (ns : List Int), vs = [.ref a] ∧ SqL K H a (ns.map V.int) ∧ ns.length ≤ 63 ∧ ∀ H', Q (.bl true) H'
theorem ok_law {k j : Nat} {f : Addr} {fd : FuncData} (F : Fun K "law" "law" slaw f fd) (T : Blt mg) (S5 : SpC K C) (H_law_store : Has P w K mg base "_law_store" k ["script"] (spStore K)) (H_law_any_ends : Has P w K mg base "_law_any_ends" k ["store"] spAnyEnds)
    (HM_Span : HasMk P w K mg base (L2.CX P w) C "Span" j ["self", "low", "high"] [] (spSpanI C CE CB)) (hk : j + 1 ≤ k) (HP_text : HasPr P w K mg base (L2.CX P w) C "text" j ["self"] (spText C)) (H_law_ends_text : Has P w K mg base "_law_ends_text" k ["ends"] spEndsText)
    (H_law_same : Has P w K mg base "_law_same" k ["actual", "expected"] (spSame 2)) (H_law_read_ends : Has P w K mg base "_law_read_ends" k ["text"] spReadEnds) (H_law_reads : Has P w K mg base "_law_reads" k ["word"] spReads) (H_law_reads_near : Has P w K mg base "_law_reads_near" k ["store", "word"] spReadsNear)
    (H_law_read_otherwise : Has P w K mg base "_law_read_otherwise" k ["span", "text", "ends"] (spOther C)) (H_law_number : Has P w K mg base "_law_number" k ["store"] spNumber) (H_law_told_number : Has P w K mg base "_law_told_number" k ["value"] spToldNum)
    (HKnumber_text_number : HasK P w K mg base (L2.CX P w) "number_text" k ["number"] ["number"] id (spNumText CE)) (HKparse_number_text : HasK P w K mg base (L2.CX P w) "parse_number" k ["text"] ["text"] id (spParseNum CT))
    (H_law_pick : Has P w K mg base "_law_pick" k ["store", "items"] spPick) (H_law_take : Has P w K mg base "_law_take" k ["store", "many"] spTake) (H_law_bad_number : Has P w K mg base "_law_bad_number" k ["store", "keyed"] spBadNum) : FnOk P w K mg base CX0 (k + 1) f fd ["script"] (spLaw K) := by
  refine F.ok sclaw (fun vs H Q E h => ?_) (fun cdv A outer s H vs Q E hr h => ?_)
  · obtain ⟨a, ns, rfl, _⟩ := h; rfl
  · obtain ⟨a, ns, rfl, hL, _, h⟩ := h
    refine ⟨_, (pss_cons (ps_set (i := 1) sclaw.nd rfl (.inl rfl) (pe_callH H_law_store hr (by rfl) (pa_cons (pv 0) pa_nil)))
 (pss_cons (ps_set (i := 2) sclaw.nd rfl (.inl rfl) (pe_lst (pa_cons (pe_callH H_law_any_ends hr (by rfl) (pa_cons (pv 1) pa_nil)) (pa_cons (pe_callH H_law_any_ends hr (by rfl) (pa_cons (pv 1) pa_nil)) pa_nil))))
 (pss_cons (ps_setLc (i := 3) (own := [("ends", 12)]) (g := gName 12) (by rfl) sclaw.nd rfl rfl (sw_true rfl rfl rfl (by decide +kernel)) (pi_list (pv 2)) (blkOk_by (own := [("ends", 12)]) (N := ["script", "store", "pairs", "spans", "turn", "k", "due", "number", "digits", "many", "word", "odd", "ends"]) (sc := defScope slaw) (by decide +kernel)) (fun _ _ _ _ _ => pg_name (i := 12) sclaw.nd rfl (Or.inl rfl)) (fun _ _ _ _ _ => pts_nil) (fun _ _ _ _ _ => (pe_makeH HM_Span (hr.mono hk) (by rfl) (passF takes0) (pa_cons (pe_ix (ix_seqK (K := K) rfl) (pv 12) pe_int (fun _ _ => rfl)) (pa_cons (pe_ix (ix_seqK (K := K) rfl) (pv 12) pe_int (fun _ _ => rfl)) pa_nil)))))
 (pss_cons (ps_for PassesOwn.never rfl (pi_range1 rfl T.range (pa_cons pe_int pa_nil)) (pg_name (i := 4) sclaw.nd rfl (.inl rfl)) (pss_one (ps_for PassesOwn.never rfl (pi_range1 rfl T.range (pa_cons pe_int pa_nil)) (pg_name (i := 5) sclaw.nd rfl (.inl rfl)) (pss_cons (ps_set (i := 6) sclaw.nd rfl (.inl rfl) (pe_callH H_law_ends_text hr (by rfl) (pa_cons (pe_ix ix_list (pv 2) (pv 5) (fun _ _ => rfl)) pa_nil)))
 (pss_cons (ps_if (PW.pt (pw_or (pt_not (pt_val (pe_callH H_law_same hr (by rfl) (pa_cons (pe_propH HP_text S5.cl (pe_ix ix_list (pv 3) (pv 5) (fun _ _ => rfl)) (hr.mono hk) (passF takes0)) (pa_cons (pv 6) pa_nil))))) (pw_or (pt_cmpR (op_neD hr.units) (pe_callH H_law_read_ends hr (by rfl) (pa_cons (pv 6) pa_nil)) (pe_ix ix_list (pv 2) (pv 5) (fun _ _ => rfl)) (nomark _)) (pw_or1 (pt_not (pt_val (pe_callH H_law_reads hr (by rfl) (pa_cons (pv 6) pa_nil)))))))) (pss_one (ps_ret pe_bl)) pss_nil)
 (C8.pss_cut (ps_if (PW.pt (pw_and (pt_cmpR op_eq (pv 4) pe_int (nomark _)) (pw_and1 (pt_not (pt_val (pe_callH H_law_reads_near hr (by rfl) (pa_cons (pv 1) (pa_cons (pv 6) pa_nil)))))))) (pss_one (ps_ret pe_bl)) pss_nil)
 (pss_one (ps_if (pt_not (pt_val (pe_callH H_law_read_otherwise hr (by rfl) (pa_cons (pe_ix ix_list (pv 3) (pe_op op_sub pe_int (pv 5)) (fun _ _ => rfl)) (pa_cons (pv 6) (pa_cons (pe_ix ix_list (pv 2) (pv 5) (fun _ _ => rfl)) pa_nil)))))) (pss_one (ps_ret pe_bl)) pss_nil))))))))
 (pss_cons (ps_set (i := 7) sclaw.nd rfl (.inl rfl) (pe_callH H_law_number hr (by rfl) (pa_cons (pv 1) pa_nil)))
 (pss_cons (ps_if (PW.pt (pw_or (pt_not (pt_val (pe_callH H_law_same hr (by rfl) (pa_cons (pe_callH H_law_told_number hr (by rfl) (pa_cons (pv 7) pa_nil)) (pa_cons (pe_callTy call_str_int (by rfl) T.str (by decide +kernel) (pa_cons (pv 7) pa_nil)) pa_nil))))) (pw_or1 (pt_not (pt_val (pe_callH H_law_reads hr (by rfl) (pa_cons (pe_callTy call_str_int (by rfl) T.str (by decide +kernel) (pa_cons (pv 7) pa_nil)) pa_nil))))))) (pss_one (ps_ret pe_bl)) pss_nil)
 (pss_cons (ps_if (pt_not (pt_val (pe_callH H_law_same hr (by rfl) (pa_cons (pe_lst (pa_cons (pe_callKS (ks := ["number"]) HKnumber_text_number hr (by rfl) (fun σ => passAt takes0 σ) (pk_cons (pv 7) pk_nil)) (pa_cons (pe_callKS (ks := ["text"]) HKparse_number_text hr (by rfl) (fun σ => passAt takes0 σ) (pk_cons (pe_callTy call_str_int (by rfl) T.str (by decide +kernel) (pa_cons (pv 7) pa_nil)) pk_nil)) pa_nil))) (pa_cons (pe_lst (pa_cons (pe_callTy call_str_int (by rfl) T.str (by decide +kernel) (pa_cons (pv 7) pa_nil)) (pa_cons (pv 7) pa_nil))) pa_nil))))) (pss_one (ps_ret pe_bl)) pss_nil)
 (pss_cons (ps_if (pt_not (pt_val (pe_callH H_law_reads_near hr (by rfl) (pa_cons (pv 1) (pa_cons (pe_callTy call_str_int (by rfl) T.str (by decide +kernel) (pa_cons (pv 7) pa_nil)) pa_nil))))) (pss_one (ps_ret pe_bl)) pss_nil)
 (pss_cons (ps_set (i := 8) sclaw.nd rfl (.inl rfl) (pe_op op_mul_str (pe_callH H_law_pick hr (by rfl) (pa_cons (pv 1) (pa_cons pe_str pa_nil))) (pe_op op_add pe_int (pe_callH H_law_take hr (by rfl) (pa_cons (pv 1) (pa_cons pe_int pa_nil))))))
 (pss_cons (ps_set (i := 9) sclaw.nd rfl (.inl rfl) (pe_lst (pa_cons (pv 8) (pa_cons (pe_op op_add_str pe_str (pe_slice sl_str (pv 8) (po_some pe_int) po_none)) (pa_cons (pe_op op_add_str pe_str (pe_slice sl_str (pv 8) (po_some pe_int) po_none)) (pa_cons (pe_op op_add_str (pe_op op_add_str (pe_slice sl_str (pv 8) po_none (po_some pe_int)) pe_str) (pe_slice sl_str (pv 8) po_none (po_some pe_int))) pa_nil))))))
 (pss_cons (ps_for PassesOwn.never rfl (pi_list (pe_op op_cat (pv 9) (pe_lst (pa_cons pe_str (pa_cons pe_str (pa_cons pe_str (pa_cons pe_str (pa_cons pe_str (pa_cons pe_str pa_nil))))))))) (pg_name (i := 10) sclaw.nd rfl (.inl rfl)) (pss_one (ps_if (pt_not (pt_val (pe_callH H_law_reads hr (by rfl) (pa_cons (pv 10) pa_nil)))) (pss_one (ps_ret pe_bl)) pss_nil)))
 (pss_cons (ps_set (i := 11) sclaw.nd rfl (.inl rfl) (pe_callH H_law_bad_number hr (by rfl) (pa_cons (pv 1) (pa_cons pe_bl pa_nil))))
 (pss_one (ps_ret (pe_callH H_law_same hr (by rfl) (pa_cons (pe_callH H_law_told_number hr (by rfl) (pa_cons (pv 11) pa_nil)) (pa_cons (pe_tup (pa_cons pe_str (pa_cons (pv 11) (pa_cons pe_bl (pa_cons pe_bl pa_nil))))) pa_nil))))))))))))))))), ?_⟩
    walk_at "rdE"
    refine ⟨a, ns, rfl, hL, fun S H1 hS1 s1 => ?_⟩
    walk_at "rdE"
    refine ⟨S, rfl, hS1, fun q0 l0 h0 H2 bl0 bh0 c0 _ hq0 hS2 e2 => ?_⟩
    walk_at "rdE"
    refine ⟨S, rfl, hS2, fun q1 l1 h1 H3 bl1 bh1 c1 _ hq1 hS3 e3 => ?_⟩
    walk_at "rdE"
    refine ⟨sz (by simp), fun D nD => ?_⟩
    have hD : At S (upd H3 D (.lst [V.ref q0, V.ref q1])) D (.lst [V.ref q0, V.ref q1]) := .new hS3 nD
    have hS4 := hS3.new (o := .lst [V.ref q0, V.ref q1]) nD
    have e4 := ExS.new (S := S) (o := .lst [V.ref q0, V.ref q1]) nD
    have hz : ∀ z ∈ [(q0, l0, h0), (q1, l1, h1)], At S (upd H3 D (.lst [V.ref q0, V.ref q1])) z.1 (.tup [z.2.1, z.2.2]) ∧ Bar z.2.1 ∧ Bar z.2.2 ∧ crossed z.2.1 z.2.2 = false := by
      intro z hz
      simp only [List.mem_cons, List.not_mem_nil, or_false] at hz
      rcases hz with rfl | rfl
      · exact ⟨(hq0.back e3).back e4, bl0, bh0, c0⟩
      · exact ⟨hq1.back e4, bl1, bh1, c1⟩
    obtain ⟨zs, ezs, lzs, hzz⟩ : ∃ zs : List (Addr × V × V), [V.ref q0, V.ref q1] = zs.map (fun z => V.ref z.1) ∧ zs.length = 2 ∧ ∀ z ∈ zs, At S (upd H3 D (.lst [V.ref q0, V.ref q1])) z.1 (.tup [z.2.1, z.2.2]) ∧ Bar z.2.1 ∧ Bar z.2.2 ∧ crossed z.2.1 z.2.2 = false := ⟨_, rfl, rfl, hz⟩
    clear e4 hz
    rw [ezs] at hD hS4 hzz ⊢
    generalize upd H3 D (HO.lst (List.map (fun z => V.ref z.fst) zs)) = H4 at hS4 hD hzz ⊢
    walk_at "rdE"
    refine ⟨D, rfl, ⟨_, sl_of hD.2⟩, ?_⟩
    refine fun G nG => lc_list (xs := zs.map fun z => V.ref z.1) (fun i H' => ∃ T : List Z5, T.map Z5.pr = zs.take i ∧ H' G = some (.lst (T.map fun z => V.ref z.s)) ∧ (∀ z ∈ T, At S H' z.s (.ins C z.d (spn z.l z.h))) ∧ StoreOk S H' ∧ ExS S H4 H' ∧ G ≠ S.1 ∧ G ≠ S.2) ⟨[], rfl, upd_same, by simp, hS4.new nG, ExS.new nG, hS4.ne1 nG, hS4.ne2 nG⟩ (fun i H' _ hp => ?_) ?_ ?_
    · obtain ⟨T, _, _, _, _, e6, _⟩ := hp
      exact sl_of (hD.back e6).2
    · rintro i x H6 hx ⟨T, hT, hG, hTT, hS6, e6, m1, m2⟩
      obtain ⟨z, hzi, rfl⟩ := get_map hx
      refine ⟨rfl, ?_⟩
      obtain ⟨o1, o2, o3, o4⟩ := hzz z (List.mem_of_getElem? hzi)
      have o1 := (o1.back e6).2
      walk_at "rdE"
      refine rd_ixQT o1 rfl ?_
      walk_at "rdE"
      refine rd_ixQT o1 rfl ?_
      walk_at "rdE"
      intro p dp np ndp ne
      have np2 : upd H6 dp (.own p) p = none := by rw [upd_ne ne.symm]; exact np
      have hS7 := (hS6.new (o := .own p) ndp).new (o := .ins C dp (spn z.2.1 z.2.2)) np2
      have e7 := (ExS.new (S := S) (o := .own p) ndp).trans (ExS.new (o := .ins C dp (spn z.2.1 z.2.2)) np2)
      refine ⟨p, dp, _, _, rfl, upd_same, o2.op.sc, o3.op.sc, fun _ _ _ => ⟨rfl, ?_⟩, fun o => ?_, fun _ o => ?_, fun _ _ c => ?_⟩
      · rw [upd_upd]
        have hp : At S (upd (upd H6 dp (.own p)) p (.ins C dp (spn z.2.1 z.2.2))) p (.ins C dp (spn z.2.1 z.2.2)) := .new (hS6.new ndp) np2
        generalize upd (upd H6 dp (.own p)) p (.ins C dp (spn z.2.1 z.2.2)) = H7 at hS7 e7 hp ⊢
        have hG7 := e7 _ _ m1 hG
        have lT : T.length ≤ 2 := by
          have := congrArg List.length hT
          rw [List.length_map, List.length_take] at this
          omega
        refine ⟨_, hG7, ?_, T ++ [⟨z.1, p, dp, z.2.1, z.2.2⟩], ?_, ?_, ?_, store_upd hS7 m1 m2, ExS.mut (e6.trans e7) nG, m1, m2⟩
        · rw [List.length_map]; exact Nat.lt_of_le_of_lt (by omega : _ ≤ 2) (by decide)
        · rw [List.map_append, hT, List.take_add_one, hzi]; rfl
        · rw [upd_same, List.map_append]; rfl
        · have far : ∀ {x d : Addr} {u v : V}, At S H7 x (.ins C d (spn u v)) → At S (upd H7 G (.lst (List.map (fun z => V.ref z.s) T ++ [V.ref p]))) x (.ins C d (spn u v)) := fun {x d u v} hx => by
            have ne : x ≠ G := fun e => (by have := hx.2; rw [e, hG7] at this; cases this)
            exact ⟨hx.1, by rw [upd_ne ne]; exact hx.2⟩
          intro y hm
          rcases List.mem_append.mp hm with h1 | h1
          · exact far ((hTT y h1).back e7)
          · rw [List.mem_singleton.mp h1]
            exact far hp
      · rw [o2.op.2] at o; cases o
      · rw [o3.op.2] at o; cases o
      · rw [o4] at c; cases c
    · rintro H6 ⟨T, hT, hG, hTT, hS6, e6, m1, m2⟩
      have hT : T.map Z5.pr = zs := by rw [hT, List.length_map, List.take_length]
      have lT : T.length = 2 := by rw [← lzs, ← hT, List.length_map]
      have hD6 : At S H6 D (.lst (T.map fun z => V.ref z.q)) := by
        have := hD.back e6
        rw [← hT, List.map_map] at this; exact this
      have hG6 : At S H6 G (.lst (T.map fun z => V.ref z.s)) := ⟨m1, hG⟩
      have hZ6 : ∀ z ∈ T, ZA S C H6 z := fun z hm => by
        obtain ⟨o1, o2, o3, o4⟩ := hzz z.pr (by rw [← hT]; exact List.mem_map_of_mem hm)
        exact ⟨o1.back e6, hTT z hm, o2, o3, o4⟩
      clear hD hzz hS4 hTT e6 hT nD nG ezs hq0 hq1
      walk_at "rdE"
      refine ⟨by omega, by omega, for_rng (fun i σ H' => ∃ y4 y5 y6, σ = [some (.ref a), some (.ref S.1), some (.ref D), some (.ref G), y4, y5, y6, none, none, none, none, none, none] ∧ StoreOk S H' ∧ ExS S H6 H') ⟨_, _, _, rfl, hS6, ExS.refl _ _⟩ ?_ ?_⟩
      · rintro tn σ H7 htn ⟨y4, y5, y6, rfl, hS7, e7⟩
        walk_at "rdE"
        refine ⟨by omega, by omega, for_rng (fun i σ H' => ∃ y5 y6, σ = [some (.ref a), some (.ref S.1), some (.ref D), some (.ref G), some (.int tn), y5, y6, none, none, none, none, none, none] ∧ StoreOk S H' ∧ ExS S H6 H') ⟨_, _, rfl, hS7, e7⟩ ?_ ?_⟩
        · rintro i σ H8 hi ⟨y5, y6, rfl, hS8, e8⟩
          have hi : i < 2 := by simpa using hi
          obtain ⟨z, hz, en1, en2⟩ := z_at (T := T) (i := (i : Int)) (by omega) (by omega)
          obtain ⟨y, hy, _, em⟩ := z_at (T := T) (i := 1 - (i : Int)) (by omega) (by omega)
          have z8 := (hZ6 z hz).ex e8
          have ol := z8.bl.op
          have oh := z8.bh.op
          have len := ends_len ol oh
          have er := rdP_ends ol oh z8.nc
          walk_at "rdE"
          refine rd_ixL (hD6.back e8).2 en1 ?_
          walk_at "rdE"
          refine ⟨z.q, z.l, z.h, rfl, z8.hq.2, ol, oh, ?_⟩
          walk_at "rdE"
          refine rd_ixL (hG6.back e8).2 en2 ?_
          walk_at "rdE"
          refine ⟨z.s, z.d, _, rfl, z8.hs.2, z.s, z.d, z.l, z.h, rfl, z8.hs.2, ol, oh, ?_⟩
          walk_at "rdE"
          refine ⟨_, _, rfl, .inl ⟨trivial, trivial, fun H9 s9 => ?_⟩⟩
          rw [decide_eq_true rfl]
          have e9 := e8.trans (same_ex s9)
          have hS9 := hS8.same s9
          walk_at "rdE"
          refine ⟨_, rfl, by omega, fun l hh p H10 e s10 _ hp => ?_, fun e => by rw [er] at e; cases e⟩
          obtain ⟨rfl, rfl⟩ : z.l = l ∧ z.h = hh := by rw [er] at e; cases e; exact ⟨rfl, rfl⟩
          have e10 := e9.trans (same_ex s10)
          have hS10 := hS9.same s10
          have z10 := (hZ6 z hz).ex e10
          walk_at "rdE"
          refine rd_ixL (hD6.back e10).2 en1 ?_
          refine ⟨_, _, .tup (st_of hp) (.cons (dp_end ol.1) (.cons (dp_end oh.1) .nil)), .tup (st_of z10.hq.2) (.cons (dp_end ol.1) (.cons (dp_end oh.1) .nil)), shaped_ends ol.1 oh.1, shaped_ends ol.1 oh.1, ?_⟩
          rw [eqv_ends ol.1 oh.1 ol.1 oh.1, decide_eq_true rfl, decide_eq_true rfl, show (!(true && true)) = false from rfl]
          walk_at "rdE"
          refine ⟨_, rfl, by omega, fun H11 s11 => ?_⟩
          have e11 := e10.trans (same_ex s11)
          have hS11 := hS10.same s11
          walk_at "rdE"
          refine rd_cut (fun σ' H' => σ' = [some (.ref a), some (.ref S.1), some (.ref D), some (.ref G), some (.int tn), some (.int i), some (.str (endsS z.l z.h)), none, none, none, none, none, none] ∧ StoreOk S H' ∧ ExS S H6 H') ?_ ?_
          · walk_at "rdE"
            refine if_dec (fun ht => ?_) (fun ht => ?_)
            · walk_at "rdE"
              refine ⟨S, _, rfl, by omega, hS11, fun H12 hS12 e12 => ?_⟩
              walk_at "rdE"
              exact ⟨rfl, hS12, e11.trans e12⟩
            · walk_at "rdE"
              exact ⟨rfl, hS11, e11⟩
          · rintro σ' H12 ⟨rfl, hS12, e12⟩
            have z12 := (hZ6 z hz).ex e12
            have y12 := (hZ6 y hy).ex e12
            walk_at "rdE"
            refine rd_ixL (hG6.back e12).2 em ?_
            walk_at "rdE"
            refine rd_ixL (hD6.back e12).2 en1 ?_
            walk_at "rdE"
            refine ⟨y.s, y.d, z.q, y.l, y.h, z.l, z.h, rfl, y12.hs.2, z12.hq.2, ol, oh, z12.nc, fun H13 s13 => ?_⟩
            walk_at "rdE"
            exact ⟨_, _, rfl, hS12.same s13, e12.trans (same_ex s13)⟩
        · rintro σ H8 ⟨y5, y6, rfl, hS8, e8⟩
          exact ⟨_, _, _, rfl, hS8, e8⟩
      · rintro σ H7 ⟨y4, y5, y6, rfl, hS7, e7⟩
        walk_at "rdE"
        refine ⟨S, rfl, hS7, fun n H8 hn hS8 e8 => ?_⟩
        have lg := log_InR hn
        have ns14 : (Str.ofString (toString n)).length ≤ 14 := endS_len (v := .int n) ⟨.inr ⟨n, rfl⟩, decide_eq_true hn⟩
        have ern : rdL (TL.tl (Str.ofString (toString n))) = some n := by rw [tl_numI]; exact rd_numI hn
        have nn : isNum (.int n) = true := decide_eq_true hn
        walk_at "rdE"
        refine ⟨.int n, rfl, trivial, fun m H9 e _ s9 => ?_, fun q => by rw [nn] at q; cases q⟩
        cases e
        walk_at "rdE"
        refine ⟨lg, ?_⟩
        refine ⟨_, _, rfl, .inl ⟨trivial, trivial, fun H10 s10 => ?_⟩⟩
        rw [decide_eq_true rfl]
        have hS10 := hS8.same (s9.trans s10)
        walk_at "rdE"
        refine ⟨lg, ?_⟩
        refine ⟨_, rfl, by omega, fun H11 s11 => ?_⟩
        have hS11 := hS10.same s11
        walk_at "rdE"
        refine ⟨rfl, .int n, rfl, trivial, fun m e _ => ?_, fun q => (by rw [nn] at q; cases q)⟩
        cases e
        walk_at "rdE"
        refine ⟨lg, ?_⟩
        refine ⟨rfl, _, rfl, by omega, fun m hm => ?_, fun q => (by rw [ern] at q; cases q)⟩
        obtain rfl : n = m := by rw [ern] at hm; exact Option.some.inj hm
        walk_at "rdE"
        refine ⟨sz (by simp), fun p1 np1 => ?_⟩
        walk_at "rdE"
        refine ⟨lg, ?_⟩
        walk_at "rdE"
        refine ⟨sz (by simp), fun p2 np2 => ?_⟩
        have sc2 : ∀ x ∈ [V.str (Str.ofString (toString n)), .int n], Sc x := by
          intro x hx
          simp only [List.mem_cons, List.not_mem_nil, or_false] at hx
          rcases hx with rfl | rfl <;> trivial
        refine ⟨_, _, rfl, .inr ⟨alike_lst1 (same_new np2 _ _ upd_same) upd_same (by simp) sc2, fun H12 s12 => ?_⟩⟩
        have hS12 := hS11.same ((same_new np1).trans ((same_new np2).trans s12))
        walk_at "rdE"
        refine ⟨lg, ?_⟩
        refine ⟨S, _, rfl, by omega, hS12, fun H13 hS13 _ => ?_⟩
        walk_at "rdE"
        refine ⟨S, _, rfl, hS13, .inr ⟨_, rfl, by decide +kernel, by decide +kernel, fun c H14 hc hS14 e14 => ?_⟩⟩
        walk_at "rdE"
        refine ⟨S, 100, rfl, by omega, hS14, fun r H15 r0 r1 hS15 e15 => ?_⟩
        walk_at "rdE"
        refine ⟨_, _, rfl, rfl, by omega, by omega, (by show 1 ≤ 1000; omega), ?_⟩
        have hc1 : OkS 1 ⟨#[c]⟩ := okS_iff.mpr ⟨Nat.le_refl _, fun d hd => by
          have e : d = c := by simpa using hd
          rw [e]; exact (okS_iff.mp (show OkS 100 "0123456789" from by decide +kernel)).2 c hc⟩
        have hd : (Txt.mul ⟨#[c]⟩ (1 + r)).length ≤ 100 := (okS_iff.mp (mul_ok hc1 (by omega) (j := 100) (m := 100) (by omega) (by omega))).1
        generalize Txt.mul ⟨#[c]⟩ (1 + r) = dg at hd ⊢
        have g1 := cutS_len dg (some 1) none
        have g2 := cutS_len dg (some 2) none
        have g3 := cutS_len dg none (some 49)
        have k1 : ("-" : Str).length = 1 := rfl
        have k2 : (".." : Str).length = 2 := rfl
        walk_at "rdE"
        refine ⟨dg, rfl, sz (by omega), ?_⟩
        walk_at "rdE"
        refine ⟨sz (by omega), ?_⟩
        walk_at "rdE"
        refine ⟨dg, rfl, sz (by omega), ?_⟩
        walk_at "rdE"
        refine ⟨sz (by omega), ?_⟩
        walk_at "rdE"
        refine ⟨dg, rfl, sz (by omega), ?_⟩
        walk_at "rdE"
        refine ⟨sz (by omega), ?_⟩
        walk_at "rdE"
        refine ⟨dg, rfl, sz (by omega), ?_⟩
        walk_at "rdE"
        refine ⟨sz (by rw [app_len]; omega), ?_⟩
        walk_at "rdE"
        refine ⟨sz (by simp), fun m1 nm1 => ?_⟩
        walk_at "rdE"
        refine ⟨sz (by simp), fun m2 nm2 => ?_⟩
        refine ⟨m1, m2, _, _, rfl, rfl, same_new nm2 _ _ upd_same, upd_same, sz (by simp), fun m3 nm3 => ?_⟩
        obtain ⟨W, eW, hW⟩ : ∃ W : List Str, [V.str dg, V.str ("-" ++ cutS dg (some 1) none), V.str (".." ++ cutS dg (some 2) none), V.str (cutS dg none (some 49) ++ ".." ++ cutS dg none (some 49))] ++ [V.str "", V.str "-", V.str ".", V.str "..", V.str "...", V.str "-0"] = W.map V.str ∧ ∀ y ∈ W, y.length ≤ 1000 :=
          ⟨[dg, "-" ++ cutS dg (some 1) none, ".." ++ cutS dg (some 2) none, cutS dg none (some 49) ++ ".." ++ cutS dg none (some 49)] ++ (["", "-", ".", "..", "...", "-0"] : List Str), rfl, fun y hy => by
            rcases List.mem_append.mp hy with hy | hy
            · simp only [List.mem_cons, List.not_mem_nil, or_false] at hy
              rcases hy with rfl | rfl | rfl | rfl
              · omega
              · rw [app_len]; omega
              · rw [app_len]; omega
              · rw [app_len, app_len]; omega
            · have h6 : ∀ y ∈ (["", "-", ".", "..", "...", "-0"] : List Str), y.length ≤ 1000 := by decide +kernel
              exact h6 y hy⟩
        have hS16 := ((hS15.new (o := .lst [V.str dg, V.str ("-" ++ cutS dg (some 1) none), V.str (".." ++ cutS dg (some 2) none), V.str (cutS dg none (some 49) ++ ".." ++ cutS dg none (some 49))]) nm1).new (o := .lst [V.str "", V.str "-", V.str ".", V.str "..", V.str "...", V.str "-0"]) nm2).new (o := .lst (W.map V.str)) nm3
        rw [eW]
        generalize upd (upd H15 m1 _) m2 _ = H16 at hS16 ⊢
        have hm3 : upd H16 m3 (.lst (W.map V.str)) m3 = some (.lst (W.map V.str)) := upd_same
        generalize upd H16 m3 (.lst (W.map V.str)) = H17 at hS16 hm3 ⊢
        refine ⟨m3, rfl, ⟨_, sl_of hm3⟩, for_lst (xs := W.map V.str) (fun i σ H' => ∃ y10, σ = [some (.ref a), some (.ref S.1), some (.ref D), some (.ref G), y4, y5, y6, some (.int n), some (.str dg), some (.ref m1), y10, none, none] ∧ Same H17 H') ⟨_, rfl, Same.refl _⟩ ?_ ?_ ?_⟩
        · rintro i σ H18 ⟨y10, rfl, s18⟩
          exact s18 _ _ hm3
        · rintro i x σ H18 hx ⟨y10, rfl, s18⟩
          obtain ⟨y, hyi, rfl⟩ := get_strs hx
          walk_at "rdE"
          refine ⟨y, rfl, hW y (List.mem_of_getElem? hyi), fun H19 s19 => ?_⟩
          walk_at "rdE"
          exact ⟨_, rfl, s18.trans s19⟩
        · rintro σ H18 ⟨y10, rfl, s18⟩
          have hS18 := hS16.same s18
          walk_at "rdE"
          refine ⟨S, false, rfl, hS18, fun v H19 hv _ hS19 e19 => ?_⟩
          have nv : isNum v = false := by
            rcases hv with ⟨b, rfl⟩ | ⟨m, rfl, hm⟩
            · rfl
            · exact decide_eq_false hm
          have sv : Sc v := by
            rcases hv with ⟨b, rfl⟩ | ⟨m, rfl, hm⟩ <;> trivial
          walk_at "rdE"
          refine ⟨v, rfl, sv, fun m H20 e hm => ?_, fun _ p H20 s20 _ hp => ?_⟩
          · subst e
            rw [show isNum (.int m) = decide (InR m) from rfl, decide_eq_true hm] at nv
            cases nv
          · walk_at "rdE"
            refine ⟨sz (by simp), fun t nt => ?_⟩
            refine ⟨_, _, rfl, .inr ⟨alike_tup1 (same_new nt _ _ hp) upd_same (by simp) (fun x hx => ?_), fun H21 _ => h _⟩⟩
            simp only [List.mem_cons, List.not_mem_nil, or_false] at hx
            rcases hx with rfl | rfl | rfl | rfl <;> first | exact sv | trivial
end

theorem kb_of {K : PySem.W.Frag} {x qual : Str} {st : Stmt} {f : Addr} {fd : FuncData} {ps ks : List Str} {g : List Value → List Value} (F : Fun K x qual st f fd)
    (h : ∀ (kV doc pm : Value) (an : Option Addr) (cdv ct : Value) (ws : List Value), ws.length = ks.length → bindArgs (PySem.W.fnOf x qual (defArgs st) (defBody st) (defScope st) .none kV doc pm an cdv ct) ⟨[], ks.zip ws⟩ = pure (ps.zip (g ws))) : ∀ (s : Shared) (ws : List Value), ws.length = ks.length → BindsTo s fd ⟨[], ks.zip ws⟩ (ps.zip (g ws)) := by
  obtain ⟨oc, od, kV, doc, pm, an, cdv, ct, osl, rfl, lk, hcd⟩ := F.ex
  exact fun s ws hl => .of_eq (h kV doc pm an cdv ct ws hl)
theorem vals_id {vs : List V} {ws : List Value} (r : Vals vs ws) : Vals (id vs) (id ws) := r
theorem vals_rev2 : ∀ (vs : List V) (ws : List Value), vs.length = 2 → Vals vs ws → Vals vs.reverse ws.reverse
  | [_, _], _, _, .cons a (.cons b .nil) => .cons b (.cons a .nil)
theorem vals_rev : ∀ {vs : List V} {ws : List Value}, Vals vs ws → Vals vs.reverse ws.reverse
  | _, _, .nil => .nil
  | _, _, .cons a r => by
    rw [List.reverse_cons, List.reverse_cons]
    exact (vals_rev r).append (.cons a .nil)
theorem kb_cm {K : PySem.W.Frag} {x qual : Str} {st : Stmt} {f : Addr} {fd : FuncData} {ps ks : List Str} (F : Fun K x qual st f fd)
    (h : ∀ (kV doc pm : Value) (an : Option Addr) (cdv ct : Value) (u : Value) (ws : List Value), ws.length = ks.length → bindArgs (PySem.W.fnOf x qual (defArgs st) (defBody st) (defScope st) .none kV doc pm an cdv ct) ⟨[u], ks.zip ws⟩ = pure (ps.zip (u :: ws))) : ∀ (s : Shared) (u : Value) (ws : List Value), ws.length = ks.length → BindsTo s fd ⟨[u], ks.zip ws⟩ (ps.zip (u :: ws)) := by
  obtain ⟨oc, od, kV, doc, pm, an, cdv, ct, osl, rfl, lk, hcd⟩ := F.ex
  exact fun s u ws hl => .of_eq (h kV doc pm an cdv ct u ws hl)
theorem fund_mk {K : PySem.W.Frag} {x qual : Str} {st : Stmt} {f T : Addr} {dvs : List V} {its : List Value} {oc oT kV doc pm cdv ct : Value} {od an oD : Option Addr} {osl tsl : Array (Option Value)} {n : Nat} (hne : dvs ≠ []) (l : K.lookup f = some ⟨oc, od, .func (PySem.W.fnOf x qual (defArgs st) (defBody st) (defScope st) (.ref T) kV doc pm an cdv ct), osl⟩)
    (c : PySem.W.codeIn K cdv qual = true) (kp : PySem.W.keepIn K (.ref f) = true) (t : K.lookup T = some ⟨oT, oD, .seq its.toArray n, tsl⟩) (r : Vals dvs its) : FunD K x qual (defArgs st) (defBody st) (defScope st) dvs [] f (PySem.W.fnOf x qual (defArgs st) (defBody st) (defScope st) (.ref T) kV doc pm an cdv ct) :=
  ⟨⟨oc, od, .ref T, kV, doc, pm, an, cdv, ct, osl, rfl, l, c, .inr ⟨hne, T, _, its, n, rfl, t, rfl, r⟩, .inl rfl⟩, kp⟩

set_option maxHeartbeats 0 in
theorem all_mk {l : PySem.W.OpenLaw} {w : World} {K : PySem.W.Frag} {h : Heap} {mg : Str → Option Value} {fa : Addr} {CE fCE : Addr} {nmCE qCE : Str} {NCE : Addr} {bsCE bmCE : List Value} {snCE : List Str} {subCE : List Value} {abCE : Bool} {colCE : Option Bool} {ddCE : Option Addr} {m0CE m1CE m2CE m3CE m5CE : Option Value} {odCE anCE : Option Addr} {slCE : Array (Option Value)} {ocCE kVCE dcCE pmCE cdCE ctCE : Value} {CB fCB : Addr} {nmCB qCB : Str} {NCB : Addr} {bsCB bmCB : List Value} {snCB : List Str} {subCB : List Value} {abCB : Bool} {colCB : Option Bool} {ddCB : Option Addr} {m0CB m1CB m2CB m3CB m5CB : Option Value} {odCB anCB : Option Addr} {slCB : Array (Option Value)} {ocCB kVCB dcCB pmCB cdCB ctCB : Value} {CT fCT : Addr} {nmCT qCT : Str} {NCT : Addr} {bsCT bmCT : List Value} {snCT : List Str} {subCT : List Value} {abCT : Bool} {colCT : Option Bool} {ddCT : Option Addr} {m0CT m1CT m2CT m3CT m5CT : Option Value} {odCT anCT : Option Addr} {slCT : Array (Option Value)} {ocCT kVCT dcCT pmCT cdCT ctCT : Value} {cO : Addr} {cM : Addr} {C : Addr} {f0 : Addr} {od0 an0 : Option Addr} {sl0 : Array (Option Value)} {oc0 kV0 dc0 pm0 cd0 ct0 : Value} {T0 : Addr} {oT0 : Value} {oD0 : Option Addr} {nT0 : Nat} {tS0 : Array (Option Value)} {f1 : Addr} {od1 an1 : Option Addr} {sl1 : Array (Option Value)} {oc1 kV1 dc1 pm1 cd1 ct1 : Value} {qt : Addr} {rtt : List Value} {f2 : Addr} {od2 an2 : Option Addr} {sl2 : Array (Option Value)} {oc2 kV2 dc2 pm2 cd2 ct2 : Value} {qp : Addr} {rst : List Value} {f3 : Addr} {od3 an3 : Option Addr} {sl3 : Array (Option Value)} {oc3 kV3 dc3 pm3 cd3 ct3 : Value} {f4 : Addr} {od4 an4 : Option Addr} {sl4 : Array (Option Value)} {oc4 kV4 dc4 pm4 cd4 ct4 : Value} {f5 : Addr} {od5 an5 : Option Addr} {sl5 : Array (Option Value)} {oc5 kV5 dc5 pm5 cd5 ct5 : Value} {f6 : Addr} {od6 an6 : Option Addr} {sl6 : Array (Option Value)} {oc6 kV6 dc6 pm6 cd6 ct6 : Value} {f7 : Addr} {od7 an7 : Option Addr} {sl7 : Array (Option Value)} {oc7 kV7 dc7 pm7 cd7 ct7 : Value} {f8 : Addr} {od8 an8 : Option Addr} {sl8 : Array (Option Value)} {oc8 kV8 dc8 pm8 cd8 ct8 : Value} {f9 : Addr} {od9 an9 : Option Addr} {sl9 : Array (Option Value)} {oc9 kV9 dc9 pm9 cd9 ct9 : Value} {f10 : Addr} {od10 an10 : Option Addr} {sl10 : Array (Option Value)} {oc10 kV10 dc10 pm10 cd10 ct10 : Value} {f11 : Addr} {od11 an11 : Option Addr} {sl11 : Array (Option Value)} {oc11 kV11 dc11 pm11 cd11 ct11 : Value} {f12 : Addr} {od12 an12 : Option Addr} {sl12 : Array (Option Value)} {oc12 kV12 dc12 pm12 cd12 ct12 : Value} {f13 : Addr} {od13 an13 : Option Addr} {sl13 : Array (Option Value)} {oc13 kV13 dc13 pm13 cd13 ct13 : Value} {f14 : Addr} {od14 an14 : Option Addr} {sl14 : Array (Option Value)} {oc14 kV14 dc14 pm14 cd14 ct14 : Value} {f15 : Addr} {od15 an15 : Option Addr} {sl15 : Array (Option Value)} {oc15 kV15 dc15 pm15 cd15 ct15 : Value} {f16 : Addr} {od16 an16 : Option Addr} {sl16 : Array (Option Value)} {oc16 kV16 dc16 pm16 cd16 ct16 : Value} {f17 : Addr} {od17 an17 : Option Addr} {sl17 : Array (Option Value)} {oc17 kV17 dc17 pm17 cd17 ct17 : Value} {f18 : Addr} {od18 an18 : Option Addr} {sl18 : Array (Option Value)} {oc18 kV18 dc18 pm18 cd18 ct18 : Value} {f19 : Addr} {od19 an19 : Option Addr} {sl19 : Array (Option Value)} {oc19 kV19 dc19 pm19 cd19 ct19 : Value} {f20 : Addr} {od20 an20 : Option Addr} {sl20 : Array (Option Value)} {oc20 kV20 dc20 pm20 cd20 ct20 : Value} {f21 : Addr} {od21 an21 : Option Addr} {sl21 : Array (Option Value)} {oc21 kV21 dc21 pm21 cd21 ct21 : Value} {f22 : Addr} {od22 an22 : Option Addr} {sl22 : Array (Option Value)} {oc22 kV22 dc22 pm22 cd22 ct22 : Value} {f23 : Addr} {od23 an23 : Option Addr} {sl23 : Array (Option Value)} {oc23 kV23 dc23 pm23 cd23 ct23 : Value} {f24 : Addr} {od24 an24 : Option Addr} {sl24 : Array (Option Value)} {oc24 kV24 dc24 pm24 cd24 ct24 : Value} {f25 : Addr} {od25 an25 : Option Addr} {sl25 : Array (Option Value)} {oc25 kV25 dc25 pm25 cd25 ct25 : Value} {f26 : Addr} {od26 an26 : Option Addr} {sl26 : Array (Option Value)} {oc26 kV26 dc26 pm26 cd26 ct26 : Value} {f27 : Addr} {od27 an27 : Option Addr} {sl27 : Array (Option Value)} {oc27 kV27 dc27 pm27 cd27 ct27 : Value} {f28 : Addr} {od28 an28 : Option Addr} {sl28 : Array (Option Value)} {oc28 kV28 dc28 pm28 cd28 ct28 : Value} {f29 : Addr} {od29 an29 : Option Addr} {sl29 : Array (Option Value)} {oc29 kV29 dc29 pm29 cd29 ct29 : Value} {f30 : Addr} {od30 an30 : Option Addr} {sl30 : Array (Option Value)} {oc30 kV30 dc30 pm30 cd30 ct30 : Value} {f31 : Addr} {od31 an31 : Option Addr} {sl31 : Array (Option Value)} {oc31 kV31 dc31 pm31 cd31 ct31 : Value} {f32 : Addr} {od32 an32 : Option Addr} {sl32 : Array (Option Value)} {oc32 kV32 dc32 pm32 cd32 ct32 : Value} {f33 : Addr} {od33 an33 : Option Addr} {sl33 : Array (Option Value)} {oc33 kV33 dc33 pm33 cd33 ct33 : Value} {f34 : Addr} {od34 an34 : Option Addr} {sl34 : Array (Option Value)} {oc34 kV34 dc34 pm34 cd34 ct34 : Value} {f35 : Addr} {od35 an35 : Option Addr} {sl35 : Array (Option Value)} {oc35 kV35 dc35 pm35 cd35 ct35 : Value} {f36 : Addr} {od36 an36 : Option Addr} {sl36 : Array (Option Value)} {oc36 kV36 dc36 pm36 cd36 ct36 : Value} {f37 : Addr} {od37 an37 : Option Addr} {sl37 : Array (Option Value)} {oc37 kV37 dc37 pm37 cd37 ct37 : Value} {f38 : Addr} {od38 an38 : Option Addr} {sl38 : Array (Option Value)} {oc38 kV38 dc38 pm38 cd38 ct38 : Value} {f39 : Addr} {od39 an39 : Option Addr} {sl39 : Array (Option Value)} {oc39 kV39 dc39 pm39 cd39 ct39 : Value}
    (X : K.In h) (G : h.Ns mainGlobals mg) (hfa : mg "law" = some (.ref fa))
    (gCE : PySem.W.nsIn K mainGlobals "BadNumber" = some (some (.ref CE)))
    (xCE : K.lookup CE = some (excClassObj nmCE qCE CE NCE bsCE bmCE true snCE subCE abCE colCE ddCE m0CE m1CE m2CE m3CE m5CE "ValueError.__new__"))
    (rCE : PySem.HandSPX.refsVE bmCE = true)
    (saCE : PySem.W.findIn K (.ref CE) "__setattr__" = some (some (.builtin "object.__setattr__")))
    (gaCE : PySem.W.findIn K (.ref CE) "__getattribute__" = some (some (.builtin "BaseException.__getattribute__")))
    (ggCE : PySem.W.findIn K (.ref CE) "__getattr__" = some none)
    (nfCEnumber : PySem.W.findIn K (.ref CE) "number" = some none)
    (kpCE : PySem.W.keepIn K (.ref CE) = true)
    (exCE : PySem.W.subIn K (.ref CE) (.type "BaseException") = some true)
    (tyCE : PySem.W.typeIn K (.ref CE) = some (.type "type"))
    (hdCE : PySem.W.hasDictIn K CE = true)
    (haCE : PySem.W.findIn K (.ref CE) "__class__" = some (some (.builtin "object.__class__")))
    (hnCE : PySem.W.specialIn K (.builtin "object.__class__") "__get__" = some (some (.builtin "getset_descriptor.__get__")))
    (htCE : PySem.W.takesIn K (.builtin "object.__class__") = some true)
    (hmCE : PySem.W.mroIn K CE (.type "object") = some true)
    (suCE : PySem.W.subIn K (.ref CE) (.ref CE) = some true)
    (iCE : PySem.W.findIn K (.ref CE) "__init__" = some (some (.ref fCE)))
    (tiCE : PySem.W.typeIn K (.ref fCE) = some (.type "function"))
    (lCE : K.lookup fCE = some ⟨ocCE, odCE, .func (PySem.W.fnOf "__init__" "BadNumber.__init__" (defArgs sBadNumber___init__) (defBody sBadNumber___init__) (defScope sBadNumber___init__) .none kVCE dcCE pmCE anCE cdCE ctCE), slCE⟩)
    (cCE : PySem.W.codeIn K cdCE "BadNumber.__init__" = true)
    (kCE : PySem.W.keepIn K (.ref fCE) = true)
    (gCB : PySem.W.nsIn K mainGlobals "BadSpan" = some (some (.ref CB)))
    (xCB : K.lookup CB = some (excClassObj nmCB qCB CB NCB bsCB bmCB true snCB subCB abCB colCB ddCB m0CB m1CB m2CB m3CB m5CB "ValueError.__new__"))
    (rCB : PySem.HandSPX.refsVE bmCB = true)
    (saCB : PySem.W.findIn K (.ref CB) "__setattr__" = some (some (.builtin "object.__setattr__")))
    (gaCB : PySem.W.findIn K (.ref CB) "__getattribute__" = some (some (.builtin "BaseException.__getattribute__")))
    (ggCB : PySem.W.findIn K (.ref CB) "__getattr__" = some none)
    (nfCBlow : PySem.W.findIn K (.ref CB) "low" = some none)
    (nfCBhigh : PySem.W.findIn K (.ref CB) "high" = some none)
    (kpCB : PySem.W.keepIn K (.ref CB) = true)
    (exCB : PySem.W.subIn K (.ref CB) (.type "BaseException") = some true)
    (tyCB : PySem.W.typeIn K (.ref CB) = some (.type "type"))
    (hdCB : PySem.W.hasDictIn K CB = true)
    (haCB : PySem.W.findIn K (.ref CB) "__class__" = some (some (.builtin "object.__class__")))
    (hnCB : PySem.W.specialIn K (.builtin "object.__class__") "__get__" = some (some (.builtin "getset_descriptor.__get__")))
    (htCB : PySem.W.takesIn K (.builtin "object.__class__") = some true)
    (hmCB : PySem.W.mroIn K CB (.type "object") = some true)
    (suCB : PySem.W.subIn K (.ref CB) (.ref CB) = some true)
    (iCB : PySem.W.findIn K (.ref CB) "__init__" = some (some (.ref fCB)))
    (tiCB : PySem.W.typeIn K (.ref fCB) = some (.type "function"))
    (lCB : K.lookup fCB = some ⟨ocCB, odCB, .func (PySem.W.fnOf "__init__" "BadSpan.__init__" (defArgs sBadSpan___init__) (defBody sBadSpan___init__) (defScope sBadSpan___init__) .none kVCB dcCB pmCB anCB cdCB ctCB), slCB⟩)
    (cCB : PySem.W.codeIn K cdCB "BadSpan.__init__" = true)
    (kCB : PySem.W.keepIn K (.ref fCB) = true)
    (gCT : PySem.W.nsIn K mainGlobals "BadText" = some (some (.ref CT)))
    (xCT : K.lookup CT = some (excClassObj nmCT qCT CT NCT bsCT bmCT true snCT subCT abCT colCT ddCT m0CT m1CT m2CT m3CT m5CT "ValueError.__new__"))
    (rCT : PySem.HandSPX.refsVE bmCT = true)
    (saCT : PySem.W.findIn K (.ref CT) "__setattr__" = some (some (.builtin "object.__setattr__")))
    (gaCT : PySem.W.findIn K (.ref CT) "__getattribute__" = some (some (.builtin "BaseException.__getattribute__")))
    (ggCT : PySem.W.findIn K (.ref CT) "__getattr__" = some none)
    (nfCTline : PySem.W.findIn K (.ref CT) "line" = some none)
    (kpCT : PySem.W.keepIn K (.ref CT) = true)
    (exCT : PySem.W.subIn K (.ref CT) (.type "BaseException") = some true)
    (tyCT : PySem.W.typeIn K (.ref CT) = some (.type "type"))
    (hdCT : PySem.W.hasDictIn K CT = true)
    (haCT : PySem.W.findIn K (.ref CT) "__class__" = some (some (.builtin "object.__class__")))
    (hnCT : PySem.W.specialIn K (.builtin "object.__class__") "__get__" = some (some (.builtin "getset_descriptor.__get__")))
    (htCT : PySem.W.takesIn K (.builtin "object.__class__") = some true)
    (hmCT : PySem.W.mroIn K CT (.type "object") = some true)
    (suCT : PySem.W.subIn K (.ref CT) (.ref CT) = some true)
    (iCT : PySem.W.findIn K (.ref CT) "__init__" = some (some (.ref fCT)))
    (tiCT : PySem.W.typeIn K (.ref fCT) = some (.type "function"))
    (lCT : K.lookup fCT = some ⟨ocCT, odCT, .func (PySem.W.fnOf "__init__" "BadText.__init__" (defArgs sBadText___init__) (defBody sBadText___init__) (defScope sBadText___init__) .none kVCT dcCT pmCT anCT cdCT ctCT), slCT⟩)
    (cCT : PySem.W.codeIn K cdCT "BadText.__init__" = true)
    (kCT : PySem.W.keepIn K (.ref fCT) = true)
    (gcO : PySem.W.nsIn K mainGlobals "OutshinerError" = some (some (.ref cO)))
    (gcM : PySem.W.nsIn K mainGlobals "BadName" = some (some (.ref cM)))
    (gC : PySem.W.nsIn K mainGlobals "Span" = some (some (.ref C)))
    (tO : PySem.W.kitOne K (.ref CT) (.ref cO) = some true)
    (tN : PySem.W.kitOne K (.ref CT) (.ref CE) = some false)
    (tS : PySem.W.kitOne K (.ref CT) (.ref CB) = some false)
    (tM : PySem.W.kitOne K (.ref CT) (.ref cM) = some false)
    (nO : PySem.W.kitOne K (.ref CE) (.ref cO) = some true)
    (nT : PySem.W.kitOne K (.ref CE) (.ref CT) = some false)
    (nS : PySem.W.kitOne K (.ref CE) (.ref CB) = some false)
    (nM : PySem.W.kitOne K (.ref CE) (.ref cM) = some false)
    (pgC : PySem.W.plainGet K C Str.empty = true)
    (hdC : PySem.W.hasDictIn K C = true)
    (poC : PySem.W.plainOver K C = true)
    (saC : PySem.W.findIn K (.ref C) "__setattr__" = some (some (.builtin "object.__setattr__")))
    (nlC : PySem.W.findIn K (.ref C) "low" = some none)
    (nhC : PySem.W.findIn K (.ref C) "high" = some none)
    (haC : PySem.W.findIn K (.ref C) "__class__" = some (some (.builtin "object.__class__")))
    (hmC : PySem.W.mroIn K C (.type "object") = some true)
    (kC : PySem.W.kitOne K (.ref C) (.ref C) = some true)
    (mkC : PySem.W.makesIn K C = true)
    (kpC : PySem.W.keepIn K (.ref C) = true)
    (icC : PySem.W.isClsIn K C = true)
    (iC : PySem.W.findIn K (.ref C) "__init__" = some (some (.ref f0)))
    (l0 : K.lookup f0 = some ⟨oc0, od0, .func (PySem.W.fnOf "__init__" "Span.__init__" (defArgs sSpan___init__) (defBody sSpan___init__) (defScope sSpan___init__) (.ref T0) kV0 dc0 pm0 an0 cd0 ct0), sl0⟩)
    (c0 : PySem.W.codeIn K cd0 "Span.__init__" = true)
    (k0 : PySem.W.keepIn K (.ref f0) = true)
    (t0 : K.lookup T0 = some ⟨oT0, oD0, .seq ([.none, .none] : List Value).toArray nT0, tS0⟩)
    (fnI : PySem.W.isFn K (.ref f0) = true)
    (t_at : PySem.W.findIn K (.ref C) "text" = some (some (.ref qt)))
    (t_rec : PySem.W.recIn K qt "property" = some (.ref f1 :: rtt))
    (l1 : K.lookup f1 = some ⟨oc1, od1, .func (PySem.W.fnOf "text" "Span.text" (defArgs sSpan_text) (defBody sSpan_text) (defScope sSpan_text) .none kV1 dc1 pm1 an1 cd1 ct1), sl1⟩)
    (c1 : PySem.W.codeIn K cd1 "Span.text" = true)
    (k1 : PySem.W.keepIn K (.ref f1) = true)
    (t_get : PySem.W.specialIn K (.ref qt) "__get__" = some (some (.builtin "property.__get__")))
    (t_tak : PySem.W.takesIn K (.ref qt) = some true)
    (p_find : PySem.W.findCls K (.ref C) (.type "type") "parse" = some (.get (.builtin "staticmethod.__get__") (.ref qp) .none (.ref C)))
    (p_rec : PySem.W.recIn K qp "staticmethod" = some (.ref f2 :: rst))
    (l2 : K.lookup f2 = some ⟨oc2, od2, .func (PySem.W.fnOf "parse" "Span.parse" (defArgs sSpan_parse) (defBody sSpan_parse) (defScope sSpan_parse) .none kV2 dc2 pm2 an2 cd2 ct2), sl2⟩)
    (c2 : PySem.W.codeIn K cd2 "Span.parse" = true)
    (k2 : PySem.W.keepIn K (.ref f2) = true)
    (p_rd : PySem.W.readsIn K C (.type "type") = true)
    (p_ga : PySem.W.specialIn K (.ref C) "__getattribute__" = some (some (.builtin "type.__getattribute__")))
    (p_at : PySem.W.findIn K (.ref C) "parse" = some (some (.ref qp)))
    (p_ty : PySem.W.typeIn K (.ref qp) = some (.type "staticmethod"))
    (p_get : PySem.W.specialIn K (.ref qp) "__get__" = some (some (.builtin "staticmethod.__get__")))
    (p_tk : PySem.W.takesIn K (.ref qp) = some false)
    (a3 : PySem.W.nsIn K mainGlobals "is_number" = some (some (.ref f3)))
    (l3 : K.lookup f3 = some ⟨oc3, od3, .func (PySem.W.fnOf "is_number" "is_number" (defArgs sis_number) (defBody sis_number) (defScope sis_number) .none kV3 dc3 pm3 an3 cd3 ct3), sl3⟩)
    (c3 : PySem.W.codeIn K cd3 "is_number" = true)
    (k3 : PySem.W.keepIn K (.ref f3) = true)
    (a4 : PySem.W.nsIn K mainGlobals "check_number" = some (some (.ref f4)))
    (l4 : K.lookup f4 = some ⟨oc4, od4, .func (PySem.W.fnOf "check_number" "check_number" (defArgs scheck_number) (defBody scheck_number) (defScope scheck_number) .none kV4 dc4 pm4 an4 cd4 ct4), sl4⟩)
    (c4 : PySem.W.codeIn K cd4 "check_number" = true)
    (k4 : PySem.W.keepIn K (.ref f4) = true)
    (a5 : PySem.W.nsIn K mainGlobals "check_open_number" = some (some (.ref f5)))
    (l5 : K.lookup f5 = some ⟨oc5, od5, .func (PySem.W.fnOf "check_open_number" "check_open_number" (defArgs scheck_open_number) (defBody scheck_open_number) (defScope scheck_open_number) .none kV5 dc5 pm5 an5 cd5 ct5), sl5⟩)
    (c5 : PySem.W.codeIn K cd5 "check_open_number" = true)
    (k5 : PySem.W.keepIn K (.ref f5) = true)
    (a6 : PySem.W.nsIn K mainGlobals "are_crossed" = some (some (.ref f6)))
    (l6 : K.lookup f6 = some ⟨oc6, od6, .func (PySem.W.fnOf "are_crossed" "are_crossed" (defArgs sare_crossed) (defBody sare_crossed) (defScope sare_crossed) .none kV6 dc6 pm6 an6 cd6 ct6), sl6⟩)
    (c6 : PySem.W.codeIn K cd6 "are_crossed" = true)
    (k6 : PySem.W.keepIn K (.ref f6) = true)
    (a7 : PySem.W.nsIn K mainGlobals "check_low_high" = some (some (.ref f7)))
    (l7 : K.lookup f7 = some ⟨oc7, od7, .func (PySem.W.fnOf "check_low_high" "check_low_high" (defArgs scheck_low_high) (defBody scheck_low_high) (defScope scheck_low_high) .none kV7 dc7 pm7 an7 cd7 ct7), sl7⟩)
    (c7 : PySem.W.codeIn K cd7 "check_low_high" = true)
    (k7 : PySem.W.keepIn K (.ref f7) = true)
    (a8 : PySem.W.nsIn K mainGlobals "number_text" = some (some (.ref f8)))
    (l8 : K.lookup f8 = some ⟨oc8, od8, .func (PySem.W.fnOf "number_text" "number_text" (defArgs snumber_text) (defBody snumber_text) (defScope snumber_text) .none kV8 dc8 pm8 an8 cd8 ct8), sl8⟩)
    (c8 : PySem.W.codeIn K cd8 "number_text" = true)
    (k8 : PySem.W.keepIn K (.ref f8) = true)
    (a9 : PySem.W.nsIn K mainGlobals "parse_number" = some (some (.ref f9)))
    (l9 : K.lookup f9 = some ⟨oc9, od9, .func (PySem.W.fnOf "parse_number" "parse_number" (defArgs sparse_number) (defBody sparse_number) (defScope sparse_number) .none kV9 dc9 pm9 an9 cd9 ct9), sl9⟩)
    (c9 : PySem.W.codeIn K cd9 "parse_number" = true)
    (k9 : PySem.W.keepIn K (.ref f9) = true)
    (a10 : PySem.W.nsIn K mainGlobals "end_text" = some (some (.ref f10)))
    (l10 : K.lookup f10 = some ⟨oc10, od10, .func (PySem.W.fnOf "end_text" "end_text" (defArgs send_text) (defBody send_text) (defScope send_text) .none kV10 dc10 pm10 an10 cd10 ct10), sl10⟩)
    (c10 : PySem.W.codeIn K cd10 "end_text" = true)
    (k10 : PySem.W.keepIn K (.ref f10) = true)
    (a11 : PySem.W.nsIn K mainGlobals "parse_end" = some (some (.ref f11)))
    (l11 : K.lookup f11 = some ⟨oc11, od11, .func (PySem.W.fnOf "parse_end" "parse_end" (defArgs sparse_end) (defBody sparse_end) (defScope sparse_end) .none kV11 dc11 pm11 an11 cd11 ct11), sl11⟩)
    (c11 : PySem.W.codeIn K cd11 "parse_end" = true)
    (k11 : PySem.W.keepIn K (.ref f11) = true)
    (a12 : PySem.W.nsIn K mainGlobals "_law_store" = some (some (.ref f12)))
    (l12 : K.lookup f12 = some ⟨oc12, od12, .func (PySem.W.fnOf "_law_store" "_law_store" (defArgs s_law_store) (defBody s_law_store) (defScope s_law_store) .none kV12 dc12 pm12 an12 cd12 ct12), sl12⟩)
    (c12 : PySem.W.codeIn K cd12 "_law_store" = true)
    (k12 : PySem.W.keepIn K (.ref f12) = true)
    (a13 : PySem.W.nsIn K mainGlobals "_law_stir" = some (some (.ref f13)))
    (l13 : K.lookup f13 = some ⟨oc13, od13, .func (PySem.W.fnOf "_law_stir" "_law_stir" (defArgs s_law_stir) (defBody s_law_stir) (defScope s_law_stir) .none kV13 dc13 pm13 an13 cd13 ct13), sl13⟩)
    (c13 : PySem.W.codeIn K cd13 "_law_stir" = true)
    (k13 : PySem.W.keepIn K (.ref f13) = true)
    (a14 : PySem.W.nsIn K mainGlobals "_law_take" = some (some (.ref f14)))
    (l14 : K.lookup f14 = some ⟨oc14, od14, .func (PySem.W.fnOf "_law_take" "_law_take" (defArgs s_law_take) (defBody s_law_take) (defScope s_law_take) .none kV14 dc14 pm14 an14 cd14 ct14), sl14⟩)
    (c14 : PySem.W.codeIn K cd14 "_law_take" = true)
    (k14 : PySem.W.keepIn K (.ref f14) = true)
    (a15 : PySem.W.nsIn K mainGlobals "_law_pick" = some (some (.ref f15)))
    (l15 : K.lookup f15 = some ⟨oc15, od15, .func (PySem.W.fnOf "_law_pick" "_law_pick" (defArgs s_law_pick) (defBody s_law_pick) (defScope s_law_pick) .none kV15 dc15 pm15 an15 cd15 ct15), sl15⟩)
    (c15 : PySem.W.codeIn K cd15 "_law_pick" = true)
    (k15 : PySem.W.keepIn K (.ref f15) = true)
    (a16 : PySem.W.nsIn K mainGlobals "_law_shuffled" = some (some (.ref f16)))
    (l16 : K.lookup f16 = some ⟨oc16, od16, .func (PySem.W.fnOf "_law_shuffled" "_law_shuffled" (defArgs s_law_shuffled) (defBody s_law_shuffled) (defScope s_law_shuffled) .none kV16 dc16 pm16 an16 cd16 ct16), sl16⟩)
    (c16 : PySem.W.codeIn K cd16 "_law_shuffled" = true)
    (k16 : PySem.W.keepIn K (.ref f16) = true)
    (a17 : PySem.W.nsIn K mainGlobals "_law_number" = some (some (.ref f17)))
    (l17 : K.lookup f17 = some ⟨oc17, od17, .func (PySem.W.fnOf "_law_number" "_law_number" (defArgs s_law_number) (defBody s_law_number) (defScope s_law_number) .none kV17 dc17 pm17 an17 cd17 ct17), sl17⟩)
    (c17 : PySem.W.codeIn K cd17 "_law_number" = true)
    (k17 : PySem.W.keepIn K (.ref f17) = true)
    (a18 : PySem.W.nsIn K mainGlobals "_law_clamped" = some (some (.ref f18)))
    (l18 : K.lookup f18 = some ⟨oc18, od18, .func (PySem.W.fnOf "_law_clamped" "_law_clamped" (defArgs s_law_clamped) (defBody s_law_clamped) (defScope s_law_clamped) .none kV18 dc18 pm18 an18 cd18 ct18), sl18⟩)
    (c18 : PySem.W.codeIn K cd18 "_law_clamped" = true)
    (k18 : PySem.W.keepIn K (.ref f18) = true)
    (a19 : PySem.W.nsIn K mainGlobals "_law_pool" = some (some (.ref f19)))
    (l19 : K.lookup f19 = some ⟨oc19, od19, .func (PySem.W.fnOf "_law_pool" "_law_pool" (defArgs s_law_pool) (defBody s_law_pool) (defScope s_law_pool) .none kV19 dc19 pm19 an19 cd19 ct19), sl19⟩)
    (c19 : PySem.W.codeIn K cd19 "_law_pool" = true)
    (k19 : PySem.W.keepIn K (.ref f19) = true)
    (a20 : PySem.W.nsIn K mainGlobals "_law_near" = some (some (.ref f20)))
    (l20 : K.lookup f20 = some ⟨oc20, od20, .func (PySem.W.fnOf "_law_near" "_law_near" (defArgs s_law_near) (defBody s_law_near) (defScope s_law_near) .none kV20 dc20 pm20 an20 cd20 ct20), sl20⟩)
    (c20 : PySem.W.codeIn K cd20 "_law_near" = true)
    (k20 : PySem.W.keepIn K (.ref f20) = true)
    (a21 : PySem.W.nsIn K mainGlobals "_law_bad_number" = some (some (.ref f21)))
    (l21 : K.lookup f21 = some ⟨oc21, od21, .func (PySem.W.fnOf "_law_bad_number" "_law_bad_number" (defArgs s_law_bad_number) (defBody s_law_bad_number) (defScope s_law_bad_number) .none kV21 dc21 pm21 an21 cd21 ct21), sl21⟩)
    (c21 : PySem.W.codeIn K cd21 "_law_bad_number" = true)
    (k21 : PySem.W.keepIn K (.ref f21) = true)
    (a22 : PySem.W.nsIn K mainGlobals "_law_ends" = some (some (.ref f22)))
    (l22 : K.lookup f22 = some ⟨oc22, od22, .func (PySem.W.fnOf "_law_ends" "_law_ends" (defArgs s_law_ends) (defBody s_law_ends) (defScope s_law_ends) .none kV22 dc22 pm22 an22 cd22 ct22), sl22⟩)
    (c22 : PySem.W.codeIn K cd22 "_law_ends" = true)
    (k22 : PySem.W.keepIn K (.ref f22) = true)
    (a23 : PySem.W.nsIn K mainGlobals "_law_sign" = some (some (.ref f23)))
    (l23 : K.lookup f23 = some ⟨oc23, od23, .func (PySem.W.fnOf "_law_sign" "_law_sign" (defArgs s_law_sign) (defBody s_law_sign) (defScope s_law_sign) .none kV23 dc23 pm23 an23 cd23 ct23), sl23⟩)
    (c23 : PySem.W.codeIn K cd23 "_law_sign" = true)
    (k23 : PySem.W.keepIn K (.ref f23) = true)
    (a24 : PySem.W.nsIn K mainGlobals "_law_is_number" = some (some (.ref f24)))
    (l24 : K.lookup f24 = some ⟨oc24, od24, .func (PySem.W.fnOf "_law_is_number" "_law_is_number" (defArgs s_law_is_number) (defBody s_law_is_number) (defScope s_law_is_number) .none kV24 dc24 pm24 an24 cd24 ct24), sl24⟩)
    (c24 : PySem.W.codeIn K cd24 "_law_is_number" = true)
    (k24 : PySem.W.keepIn K (.ref f24) = true)
    (a25 : PySem.W.nsIn K mainGlobals "_law_read" = some (some (.ref f25)))
    (l25 : K.lookup f25 = some ⟨oc25, od25, .func (PySem.W.fnOf "_law_read" "_law_read" (defArgs s_law_read) (defBody s_law_read) (defScope s_law_read) .none kV25 dc25 pm25 an25 cd25 ct25), sl25⟩)
    (c25 : PySem.W.codeIn K cd25 "_law_read" = true)
    (k25 : PySem.W.keepIn K (.ref f25) = true)
    (a26 : PySem.W.nsIn K mainGlobals "_law_ends_text" = some (some (.ref f26)))
    (l26 : K.lookup f26 = some ⟨oc26, od26, .func (PySem.W.fnOf "_law_ends_text" "_law_ends_text" (defArgs s_law_ends_text) (defBody s_law_ends_text) (defScope s_law_ends_text) .none kV26 dc26 pm26 an26 cd26 ct26), sl26⟩)
    (c26 : PySem.W.codeIn K cd26 "_law_ends_text" = true)
    (k26 : PySem.W.keepIn K (.ref f26) = true)
    (a27 : PySem.W.nsIn K mainGlobals "_law_read_ends" = some (some (.ref f27)))
    (l27 : K.lookup f27 = some ⟨oc27, od27, .func (PySem.W.fnOf "_law_read_ends" "_law_read_ends" (defArgs s_law_read_ends) (defBody s_law_read_ends) (defScope s_law_read_ends) .none kV27 dc27 pm27 an27 cd27 ct27), sl27⟩)
    (c27 : PySem.W.codeIn K cd27 "_law_read_ends" = true)
    (k27 : PySem.W.keepIn K (.ref f27) = true)
    (a28 : PySem.W.nsIn K mainGlobals "_law_bent_text" = some (some (.ref f28)))
    (l28 : K.lookup f28 = some ⟨oc28, od28, .func (PySem.W.fnOf "_law_bent_text" "_law_bent_text" (defArgs s_law_bent_text) (defBody s_law_bent_text) (defScope s_law_bent_text) .none kV28 dc28 pm28 an28 cd28 ct28), sl28⟩)
    (c28 : PySem.W.codeIn K cd28 "_law_bent_text" = true)
    (k28 : PySem.W.keepIn K (.ref f28) = true)
    (a29 : PySem.W.nsIn K mainGlobals "_law_match" = some (some (.ref f29)))
    (l29 : K.lookup f29 = some ⟨oc29, od29, .func (PySem.W.fnOf "_law_match" "_law_match" (defArgs s_law_match) (defBody s_law_match) (defScope s_law_match) .none kV29 dc29 pm29 an29 cd29 ct29), sl29⟩)
    (c29 : PySem.W.codeIn K cd29 "_law_match" = true)
    (k29 : PySem.W.keepIn K (.ref f29) = true)
    (a30 : PySem.W.nsIn K mainGlobals "_law_same" = some (some (.ref f30)))
    (l30 : K.lookup f30 = some ⟨oc30, od30, .func (PySem.W.fnOf "_law_same" "_law_same" (defArgs s_law_same) (defBody s_law_same) (defScope s_law_same) .none kV30 dc30 pm30 an30 cd30 ct30), sl30⟩)
    (c30 : PySem.W.codeIn K cd30 "_law_same" = true)
    (k30 : PySem.W.keepIn K (.ref f30) = true)
    (a31 : PySem.W.nsIn K mainGlobals "_law_any_ends" = some (some (.ref f31)))
    (l31 : K.lookup f31 = some ⟨oc31, od31, .func (PySem.W.fnOf "_law_any_ends" "_law_any_ends" (defArgs s_law_any_ends) (defBody s_law_any_ends) (defScope s_law_any_ends) .none kV31 dc31 pm31 an31 cd31 ct31), sl31⟩)
    (c31 : PySem.W.codeIn K cd31 "_law_any_ends" = true)
    (k31 : PySem.W.keepIn K (.ref f31) = true)
    (a32 : PySem.W.nsIn K mainGlobals "_law_parsed" = some (some (.ref f32)))
    (l32 : K.lookup f32 = some ⟨oc32, od32, .func (PySem.W.fnOf "_law_parsed" "_law_parsed" (defArgs s_law_parsed) (defBody s_law_parsed) (defScope s_law_parsed) .none kV32 dc32 pm32 an32 cd32 ct32), sl32⟩)
    (c32 : PySem.W.codeIn K cd32 "_law_parsed" = true)
    (k32 : PySem.W.keepIn K (.ref f32) = true)
    (a33 : PySem.W.nsIn K mainGlobals "_law_parsed_number" = some (some (.ref f33)))
    (l33 : K.lookup f33 = some ⟨oc33, od33, .func (PySem.W.fnOf "_law_parsed_number" "_law_parsed_number" (defArgs s_law_parsed_number) (defBody s_law_parsed_number) (defScope s_law_parsed_number) .none kV33 dc33 pm33 an33 cd33 ct33), sl33⟩)
    (c33 : PySem.W.codeIn K cd33 "_law_parsed_number" = true)
    (k33 : PySem.W.keepIn K (.ref f33) = true)
    (a34 : PySem.W.nsIn K mainGlobals "_law_told_number" = some (some (.ref f34)))
    (l34 : K.lookup f34 = some ⟨oc34, od34, .func (PySem.W.fnOf "_law_told_number" "_law_told_number" (defArgs s_law_told_number) (defBody s_law_told_number) (defScope s_law_told_number) .none kV34 dc34 pm34 an34 cd34 ct34), sl34⟩)
    (c34 : PySem.W.codeIn K cd34 "_law_told_number" = true)
    (k34 : PySem.W.keepIn K (.ref f34) = true)
    (a35 : PySem.W.nsIn K mainGlobals "_law_read_otherwise" = some (some (.ref f35)))
    (l35 : K.lookup f35 = some ⟨oc35, od35, .func (PySem.W.fnOf "_law_read_otherwise" "_law_read_otherwise" (defArgs s_law_read_otherwise) (defBody s_law_read_otherwise) (defScope s_law_read_otherwise) .none kV35 dc35 pm35 an35 cd35 ct35), sl35⟩)
    (c35 : PySem.W.codeIn K cd35 "_law_read_otherwise" = true)
    (k35 : PySem.W.keepIn K (.ref f35) = true)
    (a36 : PySem.W.nsIn K mainGlobals "_law_reads" = some (some (.ref f36)))
    (l36 : K.lookup f36 = some ⟨oc36, od36, .func (PySem.W.fnOf "_law_reads" "_law_reads" (defArgs s_law_reads) (defBody s_law_reads) (defScope s_law_reads) .none kV36 dc36 pm36 an36 cd36 ct36), sl36⟩)
    (c36 : PySem.W.codeIn K cd36 "_law_reads" = true)
    (k36 : PySem.W.keepIn K (.ref f36) = true)
    (a37 : PySem.W.nsIn K mainGlobals "_law_spoilt_at" = some (some (.ref f37)))
    (l37 : K.lookup f37 = some ⟨oc37, od37, .func (PySem.W.fnOf "_law_spoilt_at" "_law_spoilt_at" (defArgs s_law_spoilt_at) (defBody s_law_spoilt_at) (defScope s_law_spoilt_at) .none kV37 dc37 pm37 an37 cd37 ct37), sl37⟩)
    (c37 : PySem.W.codeIn K cd37 "_law_spoilt_at" = true)
    (k37 : PySem.W.keepIn K (.ref f37) = true)
    (a38 : PySem.W.nsIn K mainGlobals "_law_reads_near" = some (some (.ref f38)))
    (l38 : K.lookup f38 = some ⟨oc38, od38, .func (PySem.W.fnOf "_law_reads_near" "_law_reads_near" (defArgs s_law_reads_near) (defBody s_law_reads_near) (defScope s_law_reads_near) .none kV38 dc38 pm38 an38 cd38 ct38), sl38⟩)
    (c38 : PySem.W.codeIn K cd38 "_law_reads_near" = true)
    (k38 : PySem.W.keepIn K (.ref f38) = true)
    (a39 : PySem.W.nsIn K mainGlobals "law" = some (some (.ref f39)))
    (l39 : K.lookup f39 = some ⟨oc39, od39, .func (PySem.W.fnOf "law" "law" (defArgs slaw) (defBody slaw) (defScope slaw) .none kV39 dc39 pm39 an39 cd39 ct39), sl39⟩)
    (c39 : PySem.W.codeIn K cd39 "law" = true)
    (k39 : PySem.W.keepIn K (.ref f39) = true)
    (z_ValueError : PySem.W.nsIn K mainGlobals "ValueError" = some none)
    (z_bool : PySem.W.nsIn K mainGlobals "bool" = some none)
    (z_dict : PySem.W.nsIn K mainGlobals "dict" = some none)
    (z_int : PySem.W.nsIn K mainGlobals "int" = some none)
    (z_isinstance : PySem.W.nsIn K mainGlobals "isinstance" = some none)
    (z_len : PySem.W.nsIn K mainGlobals "len" = some none)
    (z_list : PySem.W.nsIn K mainGlobals "list" = some none)
    (z_max : PySem.W.nsIn K mainGlobals "max" = some none)
    (z_min : PySem.W.nsIn K mainGlobals "min" = some none)
    (z_range : PySem.W.nsIn K mainGlobals "range" = some none)
    (z_sorted : PySem.W.nsIn K mainGlobals "sorted" = some none)
    (z_str : PySem.W.nsIn K mainGlobals "str" = some none)
    (z_tuple : PySem.W.nsIn K mainGlobals "tuple" = some none)
    (zc_LIMIT : ∃ t, PySem.W.nsIn K mainGlobals "LIMIT" = some (some (.int 1000000000000 t)))
    (zc_LONGEST_NUMBER : ∃ t, PySem.W.nsIn K mainGlobals "LONGEST_NUMBER" = some (some (.int 14 t)))
    : ∃ fd : FuncData, (∀ (s : Shared) (v : Value), BindsTo s fd ⟨[v], []⟩ [("script", v)]) ∧ ∀ base : Heap, K.In base → base.Ns mainGlobals mg → FnOk l.prog w K mg base CX0 11 fa fd ["script"] (spLaw K) := by
  have e := hfa.symm.trans (PySem.W.mg_of X G a39)
  cases e
  have T : Blt mg := { ValueError := PySem.W.mg_none_of X G z_ValueError, bool := PySem.W.mg_none_of X G z_bool, dict := PySem.W.mg_none_of X G z_dict, int := PySem.W.mg_none_of X G z_int, isinstance := PySem.W.mg_none_of X G z_isinstance, len := PySem.W.mg_none_of X G z_len, list' := PySem.W.mg_none_of X G z_list, max := PySem.W.mg_none_of X G z_max, min := PySem.W.mg_none_of X G z_min, range := PySem.W.mg_none_of X G z_range, sorted := PySem.W.mg_none_of X G z_sorted, str := PySem.W.mg_none_of X G z_str, tuple := PySem.W.mg_none_of X G z_tuple, g_LIMIT := by obtain ⟨t, e⟩ := zc_LIMIT; exact ⟨t, PySem.W.mg_of X G e⟩, g_LONGEST_NUMBER := by obtain ⟨t, e⟩ := zc_LONGEST_NUMBER; exact ⟨t, PySem.W.mg_of X G e⟩ }
  have oxCE : OexC K CE := ⟨⟨nmCE, qCE, NCE, bsCE, bmCE, snCE, subCE, abCE, colCE, ddCE, m0CE, m1CE, m2CE, m3CE, m5CE, xCE, rCE⟩, saCE, exCE, tyCE, kpCE⟩
  have E_BadNumber : ErrC K mg "BadNumber" CE := ⟨PySem.W.mg_of X G gCE, oxCE, ⟨gaCE, ggCE, exCE, hdCE⟩, ⟨gaCE, ggCE, exCE, hdCE, haCE, hnCE, htCE, hmCE⟩, PySem.W.exm_ref exCE hdCE tyCE suCE⟩
  have FICE := fun_mk (st := sBadNumber___init__) lCE cCE kCE
  have bICE := FICE.binds (ps := ["self", "number"]) fun _ _ _ _ _ _ us hl => match us, hl with | [_, _], _ => rfl
  have N_BadNumber_number := nfCEnumber
  have oxCB : OexC K CB := ⟨⟨nmCB, qCB, NCB, bsCB, bmCB, snCB, subCB, abCB, colCB, ddCB, m0CB, m1CB, m2CB, m3CB, m5CB, xCB, rCB⟩, saCB, exCB, tyCB, kpCB⟩
  have E_BadSpan : ErrC K mg "BadSpan" CB := ⟨PySem.W.mg_of X G gCB, oxCB, ⟨gaCB, ggCB, exCB, hdCB⟩, ⟨gaCB, ggCB, exCB, hdCB, haCB, hnCB, htCB, hmCB⟩, PySem.W.exm_ref exCB hdCB tyCB suCB⟩
  have FICB := fun_mk (st := sBadSpan___init__) lCB cCB kCB
  have bICB := FICB.binds (ps := ["self", "low", "high"]) fun _ _ _ _ _ _ us hl => match us, hl with | [_, _, _], _ => rfl
  have N_BadSpan_low := nfCBlow
  have N_BadSpan_high := nfCBhigh
  have oxCT : OexC K CT := ⟨⟨nmCT, qCT, NCT, bsCT, bmCT, snCT, subCT, abCT, colCT, ddCT, m0CT, m1CT, m2CT, m3CT, m5CT, xCT, rCT⟩, saCT, exCT, tyCT, kpCT⟩
  have E_BadText : ErrC K mg "BadText" CT := ⟨PySem.W.mg_of X G gCT, oxCT, ⟨gaCT, ggCT, exCT, hdCT⟩, ⟨gaCT, ggCT, exCT, hdCT, haCT, hnCT, htCT, hmCT⟩, PySem.W.exm_ref exCT hdCT tyCT suCT⟩
  have FICT := fun_mk (st := sBadText___init__) lCT cCT kCT
  have bICT := FICT.binds (ps := ["self", "line"]) fun _ _ _ _ _ _ us hl => match us, hl with | [_, _], _ => rfl
  have N_BadText_line := nfCTline
  have G_OutshinerError := PySem.W.mg_of X G gcO
  have G_BadName := PySem.W.mg_of X G gcM
  have G_Span := PySem.W.mg_of X G gC
  have TE : Errs K mg CT CE CB cM cO := ⟨G_OutshinerError, G_BadName, PySem.W.mg_of X G gCE, PySem.W.mg_of X G gCB, PySem.W.mg_of X G gCT, tO, tN, tS, tM, nO, nT, nS, nM⟩
  have cl : Cls K C := ⟨pgC, hdC, poC, saC⟩
  have S : SpC K C := ⟨cl, nlC, nhC⟩
  have SI : SpI K C := ⟨cl, haC, hnCE, htCE, hmC, kC⟩
  have FD := fund_mk (st := sSpan___init__) (dvs := [.non, .non]) (by simp) l0 c0 k0 t0 (.cons rfl (.cons rfl .nil))
  have MK : Mk K C f0 := ⟨mkC, iC, fnI, kpC⟩
  have F1 := fun_mk (st := sSpan_text) l1 c1 k1
  have b1 := F1.binds (ps := ["self"]) fun _ _ _ _ _ _ us hl => match us, hl with | [_], _ => rfl
  have F2 := fun_mk (st := sSpan_parse) l2 c2 k2
  have b2 := F2.binds (ps := ["text"]) fun _ _ _ _ _ _ us hl => match us, hl with | [_], _ => rfl
  have F3 := fun_mk (st := sis_number) l3 c3 k3
  have b3 := F3.binds (ps := ["value"]) fun _ _ _ _ _ _ us hl => match us, hl with | [_], _ => rfl
  have F4 := fun_mk (st := scheck_number) l4 c4 k4
  have b4 := F4.binds (ps := ["value"]) fun _ _ _ _ _ _ us hl => match us, hl with | [_], _ => rfl
  have F5 := fun_mk (st := scheck_open_number) l5 c5 k5
  have b5 := F5.binds (ps := ["value"]) fun _ _ _ _ _ _ us hl => match us, hl with | [_], _ => rfl
  have F6 := fun_mk (st := sare_crossed) l6 c6 k6
  have b6 := F6.binds (ps := ["low", "high"]) fun _ _ _ _ _ _ us hl => match us, hl with | [_, _], _ => rfl
  have F7 := fun_mk (st := scheck_low_high) l7 c7 k7
  have b7 := F7.binds (ps := ["low", "high"]) fun _ _ _ _ _ _ us hl => match us, hl with | [_, _], _ => rfl
  have F8 := fun_mk (st := snumber_text) l8 c8 k8
  have b8 := F8.binds (ps := ["number"]) fun _ _ _ _ _ _ us hl => match us, hl with | [_], _ => rfl
  have F9 := fun_mk (st := sparse_number) l9 c9 k9
  have b9 := F9.binds (ps := ["text"]) fun _ _ _ _ _ _ us hl => match us, hl with | [_], _ => rfl
  have F10 := fun_mk (st := send_text) l10 c10 k10
  have b10 := F10.binds (ps := ["end"]) fun _ _ _ _ _ _ us hl => match us, hl with | [_], _ => rfl
  have F11 := fun_mk (st := sparse_end) l11 c11 k11
  have b11 := F11.binds (ps := ["text"]) fun _ _ _ _ _ _ us hl => match us, hl with | [_], _ => rfl
  have F12 := fun_mk (st := s_law_store) l12 c12 k12
  have b12 := F12.binds (ps := ["script"]) fun _ _ _ _ _ _ us hl => match us, hl with | [_], _ => rfl
  have F13 := fun_mk (st := s_law_stir) l13 c13 k13
  have b13 := F13.binds (ps := ["store", "cell"]) fun _ _ _ _ _ _ us hl => match us, hl with | [_, _], _ => rfl
  have F14 := fun_mk (st := s_law_take) l14 c14 k14
  have b14 := F14.binds (ps := ["store", "many"]) fun _ _ _ _ _ _ us hl => match us, hl with | [_, _], _ => rfl
  have F15 := fun_mk (st := s_law_pick) l15 c15 k15
  have b15 := F15.binds (ps := ["store", "items"]) fun _ _ _ _ _ _ us hl => match us, hl with | [_, _], _ => rfl
  have F16 := fun_mk (st := s_law_shuffled) l16 c16 k16
  have b16 := F16.binds (ps := ["store", "items"]) fun _ _ _ _ _ _ us hl => match us, hl with | [_, _], _ => rfl
  have F17 := fun_mk (st := s_law_number) l17 c17 k17
  have b17 := F17.binds (ps := ["store"]) fun _ _ _ _ _ _ us hl => match us, hl with | [_], _ => rfl
  have F18 := fun_mk (st := s_law_clamped) l18 c18 k18
  have b18 := F18.binds (ps := ["number"]) fun _ _ _ _ _ _ us hl => match us, hl with | [_], _ => rfl
  have F19 := fun_mk (st := s_law_pool) l19 c19 k19
  have b19 := F19.binds (ps := ["store"]) fun _ _ _ _ _ _ us hl => match us, hl with | [_], _ => rfl
  have F20 := fun_mk (st := s_law_near) l20 c20 k20
  have b20 := F20.binds (ps := ["store", "pool"]) fun _ _ _ _ _ _ us hl => match us, hl with | [_, _], _ => rfl
  have F21 := fun_mk (st := s_law_bad_number) l21 c21 k21
  have b21 := F21.binds (ps := ["store", "keyed"]) fun _ _ _ _ _ _ us hl => match us, hl with | [_, _], _ => rfl
  have F22 := fun_mk (st := s_law_ends) l22 c22 k22
  have b22 := F22.binds (ps := ["store", "pool"]) fun _ _ _ _ _ _ us hl => match us, hl with | [_, _], _ => rfl
  have F23 := fun_mk (st := s_law_sign) l23 c23 k23
  have b23 := F23.binds (ps := ["store"]) fun _ _ _ _ _ _ us hl => match us, hl with | [_], _ => rfl
  have F24 := fun_mk (st := s_law_is_number) l24 c24 k24
  have b24 := F24.binds (ps := ["value"]) fun _ _ _ _ _ _ us hl => match us, hl with | [_], _ => rfl
  have F25 := fun_mk (st := s_law_read) l25 c25 k25
  have b25 := F25.binds (ps := ["word"]) fun _ _ _ _ _ _ us hl => match us, hl with | [_], _ => rfl
  have F26 := fun_mk (st := s_law_ends_text) l26 c26 k26
  have b26 := F26.binds (ps := ["ends"]) fun _ _ _ _ _ _ us hl => match us, hl with | [_], _ => rfl
  have F27 := fun_mk (st := s_law_read_ends) l27 c27 k27
  have b27 := F27.binds (ps := ["text"]) fun _ _ _ _ _ _ us hl => match us, hl with | [_], _ => rfl
  have F28 := fun_mk (st := s_law_bent_text) l28 c28 k28
  have b28 := F28.binds (ps := ["store", "text"]) fun _ _ _ _ _ _ us hl => match us, hl with | [_, _], _ => rfl
  have F29 := fun_mk (st := s_law_match) l29 c29 k29
  have b29 := F29.binds (ps := ["left", "right", "strict"]) fun _ _ _ _ _ _ us hl => match us, hl with | [_, _, _], _ => rfl
  have F30 := fun_mk (st := s_law_same) l30 c30 k30
  have b30 := F30.binds (ps := ["actual", "expected"]) fun _ _ _ _ _ _ us hl => match us, hl with | [_, _], _ => rfl
  have F31 := fun_mk (st := s_law_any_ends) l31 c31 k31
  have b31 := F31.binds (ps := ["store"]) fun _ _ _ _ _ _ us hl => match us, hl with | [_], _ => rfl
  have F32 := fun_mk (st := s_law_parsed) l32 c32 k32
  have b32 := F32.binds (ps := ["word"]) fun _ _ _ _ _ _ us hl => match us, hl with | [_], _ => rfl
  have F33 := fun_mk (st := s_law_parsed_number) l33 c33 k33
  have b33 := F33.binds (ps := ["word"]) fun _ _ _ _ _ _ us hl => match us, hl with | [_], _ => rfl
  have F34 := fun_mk (st := s_law_told_number) l34 c34 k34
  have b34 := F34.binds (ps := ["value"]) fun _ _ _ _ _ _ us hl => match us, hl with | [_], _ => rfl
  have F35 := fun_mk (st := s_law_read_otherwise) l35 c35 k35
  have b35 := F35.binds (ps := ["span", "text", "ends"]) fun _ _ _ _ _ _ us hl => match us, hl with | [_, _, _], _ => rfl
  have F36 := fun_mk (st := s_law_reads) l36 c36 k36
  have b36 := F36.binds (ps := ["word"]) fun _ _ _ _ _ _ us hl => match us, hl with | [_], _ => rfl
  have F37 := fun_mk (st := s_law_spoilt_at) l37 c37 k37
  have b37 := F37.binds (ps := ["word", "at", "sign"]) fun _ _ _ _ _ _ us hl => match us, hl with | [_, _, _], _ => rfl
  have F38 := fun_mk (st := s_law_reads_near) l38 c38 k38
  have b38 := F38.binds (ps := ["store", "word"]) fun _ _ _ _ _ _ us hl => match us, hl with | [_, _], _ => rfl
  have F39 := fun_mk (st := slaw) l39 c39 k39
  have b39 := F39.binds (ps := ["script"]) fun _ _ _ _ _ _ us hl => match us, hl with | [_], _ => rfl
  refine ⟨PySem.W.fnOf "law" "law" (defArgs slaw) (defBody slaw) (defScope slaw) .none kV39 dc39 pm39 an39 cd39 ct39, fun s v => .of_eq rfl, fun base _ _ => ?_⟩
  have I_BadNumber : HasI l.prog w K mg base CE 1 ["self", "number"] (spInit1 K "number") := ⟨fCE, _, ok_BadNumber_init FICE, iCE, tiCE, bICE⟩
  have I_BadSpan : HasI l.prog w K mg base CB 1 ["self", "low", "high"] (spInit2 K "low" "high") := ⟨fCB, _, ok_BadSpan_init FICB, iCB, tiCB, bICB⟩
  have I_BadText : HasI l.prog w K mg base CT 1 ["self", "line"] (spInit1 K "line") := ⟨fCT, _, ok_BadText_init FICT, iCT, tiCT, bICT⟩
  have H_p_is_number : Has l.prog w K mg base "is_number" 1 ["value"] (spIsNum) := ⟨f3, _, ok_p_is_number (k := 0) F3 T, PySem.W.mg_of X G a3, k3, b3⟩
  have H_check_number : HasX l.prog w K mg base "check_number" 3 ["value"] (spCheck CE) := ⟨f4, _, ok_check_number (k := 2) F4 T E_BadNumber I_BadNumber N_BadNumber_number (H_p_is_number.mono (by decide)) (by decide), PySem.W.mg_of X G a4, k4, b4⟩
  have H_check_open_number : HasX l.prog w K mg base "check_open_number" 4 ["value"] (spCheckO CE) := ⟨f5, _, ok_check_open_number (k := 3) F5 T (H_check_number.mono (by decide)), PySem.W.mg_of X G a5, k5, b5⟩
  have H_are_crossed : Has l.prog w K mg base "are_crossed" 1 ["low", "high"] (spCrossed) := ⟨f6, _, ok_are_crossed (k := 0) F6 T, PySem.W.mg_of X G a6, k6, b6⟩
  have H_check_low_high : HasX l.prog w K mg base "check_low_high" 3 ["low", "high"] (spLowHigh CB) := ⟨f7, _, ok_check_low_high (k := 2) F7 T E_BadSpan I_BadSpan N_BadSpan_low N_BadSpan_high (H_are_crossed.mono (by decide)) (by decide), PySem.W.mg_of X G a7, k7, b7⟩
  have OI := ok_span_init (P := l.prog) (w := w) (base := base) (k := 4) FD T S (H_check_open_number.mono (by decide)) (H_check_low_high.mono (by decide))
  have HM2 : HasMk l.prog w K mg base (L2.CX l.prog w) C "Span" 5 ["self", "low", "high"] [] (spSpanI C CE CB) := by
    obtain ⟨ds, hd, hb⟩ := FD.binds1 (ps := ["self", "low", "high"]) 3 2 (by simp) rfl (fun T kV doc pm an cdv ct us its l1 l2 => match us, l1, its, l2 with | [_, _, _], _, [_, _], _ => ⟨_, rfl, rfl⟩)
    exact ⟨f0, _, ds, OI, MK, G_Span, hd, hb⟩
  have H_number_text : HasX l.prog w K mg base "number_text" 4 ["number"] (spNumText CE) := ⟨f8, _, ok_number_text (k := 3) F8 T (H_check_number.mono (by decide)), PySem.W.mg_of X G a8, k8, b8⟩
  have HK_number_text_number : HasK l.prog w K mg base (L2.CX l.prog w) "number_text" 4 ["number"] ["number"] id (spNumText CE) := ⟨f8, _, ok_number_text (k := 3) F8 T (H_check_number.mono (by decide)), PySem.W.mg_of X G a8, k8, kb_of F8 fun _ _ _ _ _ _ ws hl => match ws, hl with | [_], _ => rfl, fun _ _ _ r => vals_id r⟩
  have H_parse_number : HasX l.prog w K mg base "parse_number" 3 ["text"] (spParseNum CT) := ⟨f9, _, ok_parse_number (k := 2) F9 T E_BadText I_BadText N_BadText_line (H_p_is_number.mono (by decide)) (by decide), PySem.W.mg_of X G a9, k9, b9⟩
  have HK_parse_number_text : HasK l.prog w K mg base (L2.CX l.prog w) "parse_number" 3 ["text"] ["text"] id (spParseNum CT) := ⟨f9, _, ok_parse_number (k := 2) F9 T E_BadText I_BadText N_BadText_line (H_p_is_number.mono (by decide)) (by decide), PySem.W.mg_of X G a9, k9, kb_of F9 fun _ _ _ _ _ _ ws hl => match ws, hl with | [_], _ => rfl, fun _ _ _ r => vals_id r⟩
  have H_end_text : HasX l.prog w K mg base "end_text" 5 ["end"] (spEndText) := ⟨f10, _, ok_end_text (k := 4) F10 T (H_number_text.mono (by decide)), PySem.W.mg_of X G a10, k10, b10⟩
  have H_parse_end : HasX l.prog w K mg base "parse_end" 4 ["text"] (spParseEnd CT) := ⟨f11, _, ok_parse_end (k := 3) F11 T (H_parse_number.mono (by decide)), PySem.W.mg_of X G a11, k11, b11⟩
  have HP : HasPr l.prog w K mg base (L2.CX l.prog w) C "text" 6 ["self"] (spText C) := ⟨qt, f1, _, ⟨t_at, t_get, t_tak, _, t_rec⟩, ok_text (k := 5) F1 T S (H_end_text.mono (by decide)), b1⟩
  have HS : HasSM l.prog w K mg base (L2.CX l.prog w) C "parse" 7 ["text"] ["text"] (spParse C CT) := ⟨f2, _, qp, _, ok_parse (k := 6) F2 T E_BadText I_BadText N_BadText_line (H_parse_end.mono (by decide)) (H_are_crossed.mono (by decide)) HM2 (by decide) (by decide), ⟨p_rd, p_ga⟩, ⟨p_find, _, p_rec⟩, ⟨pgC, icC, p_at, p_ty, p_get, p_tk, by decide +kernel, _, p_rec⟩, k2, b2, kb_of (g := id) F2 fun _ _ _ _ _ _ ws hl => match ws, hl with | [_], _ => rfl⟩
  have H_store : Has l.prog w K mg base "_law_store" 1 ["script"] (spStore K) := ⟨f12, _, ok_store (k := 0) F12 T, PySem.W.mg_of X G a12, k12, b12⟩
  have H_stir : Has l.prog w K mg base "_law_stir" 1 ["store", "cell"] (spStir) := ⟨f13, _, ok_stir (k := 0) F13 T, PySem.W.mg_of X G a13, k13, b13⟩
  have H_take : Has l.prog w K mg base "_law_take" 2 ["store", "many"] (spTake) := ⟨f14, _, ok_take (k := 1) F14 T (H_stir.mono (by decide)), PySem.W.mg_of X G a14, k14, b14⟩
  have H_pick : Has l.prog w K mg base "_law_pick" 3 ["store", "items"] (spPick) := ⟨f15, _, ok_pick (k := 2) F15 T (H_take.mono (by decide)), PySem.W.mg_of X G a15, k15, b15⟩
  have H_shuffled : Has l.prog w K mg base "_law_shuffled" 3 ["store", "items"] (spShuffled) := ⟨f16, _, ok_shuffled (k := 2) F16 T (H_take.mono (by decide)), PySem.W.mg_of X G a16, k16, b16⟩
  have H_number : Has l.prog w K mg base "_law_number" 4 ["store"] (spNumber) := ⟨f17, _, ok_number (k := 3) F17 T (H_take.mono (by decide)) (H_pick.mono (by decide)), PySem.W.mg_of X G a17, k17, b17⟩
  have H_clamped : Has l.prog w K mg base "_law_clamped" 1 ["number"] (spClamped) := ⟨f18, _, ok_clamped (k := 0) F18 T, PySem.W.mg_of X G a18, k18, b18⟩
  have H_pool : Has l.prog w K mg base "_law_pool" 4 ["store"] (spPool) := ⟨f19, _, ok_pool (k := 3) F19 T (H_take.mono (by decide)) (H_shuffled.mono (by decide)), PySem.W.mg_of X G a19, k19, b19⟩
  have H_near : Has l.prog w K mg base "_law_near" 4 ["store", "pool"] (spNear) := ⟨f20, _, ok_near (k := 3) F20 T (H_take.mono (by decide)) (H_pick.mono (by decide)) (H_clamped.mono (by decide)), PySem.W.mg_of X G a20, k20, b20⟩
  have H_bad_number : Has l.prog w K mg base "_law_bad_number" 4 ["store", "keyed"] (spBadNum) := ⟨f21, _, ok_bad_number (k := 3) F21 T (H_take.mono (by decide)) (H_pick.mono (by decide)), PySem.W.mg_of X G a21, k21, b21⟩
  have H_ends : Has l.prog w K mg base "_law_ends" 5 ["store", "pool"] (spEnds) := ⟨f22, _, ok_ends (k := 4) F22 T (H_take.mono (by decide)) (H_near.mono (by decide)), PySem.W.mg_of X G a22, k22, b22⟩
  have H_sign : Has l.prog w K mg base "_law_sign" 4 ["store"] (spSign) := ⟨f23, _, ok_sign (k := 3) F23 T (H_pick.mono (by decide)), PySem.W.mg_of X G a23, k23, b23⟩
  have H_is_number : Has l.prog w K mg base "_law_is_number" 1 ["value"] (spIsNum) := ⟨f24, _, ok_is_number (k := 0) F24 T, PySem.W.mg_of X G a24, k24, b24⟩
  have H_read : Has l.prog w K mg base "_law_read" 2 ["word"] (spRead) := ⟨f25, _, ok_read (k := 1) F25 T (H_is_number.mono (by decide)), PySem.W.mg_of X G a25, k25, b25⟩
  have H_ends_text : Has l.prog w K mg base "_law_ends_text" 1 ["ends"] (spEndsText) := ⟨f26, _, ok_ends_text (k := 0) F26 T, PySem.W.mg_of X G a26, k26, b26⟩
  have H_read_ends : Has l.prog w K mg base "_law_read_ends" 3 ["text"] (spReadEnds) := ⟨f27, _, ok_read_ends (k := 2) F27 T (H_read.mono (by decide)), PySem.W.mg_of X G a27, k27, b27⟩
  have H_bent_text : Has l.prog w K mg base "_law_bent_text" 5 ["store", "text"] (spBent) := ⟨f28, _, ok_bent_text (k := 4) F28 T (H_take.mono (by decide)) (H_pick.mono (by decide)) (H_sign.mono (by decide)), PySem.W.mg_of X G a28, k28, b28⟩
  have H_match0 : Has l.prog w K mg base "_law_match" 1 ["left", "right", "strict"] (spMatch 0) := ⟨f29, _, ok_match0 (k := 0) F29 T, PySem.W.mg_of X G a29, k29, b29⟩
  have H_match1 : Has l.prog w K mg base "_law_match" 2 ["left", "right", "strict"] (spMatch 1) := ⟨f29, _, ok_matchS (k := 1) F29 T H_match0, PySem.W.mg_of X G a29, k29, b29⟩
  have H_match2 : Has l.prog w K mg base "_law_match" 3 ["left", "right", "strict"] (spMatch 2) := ⟨f29, _, ok_matchS (k := 2) F29 T H_match1, PySem.W.mg_of X G a29, k29, b29⟩
  have H_same : Has l.prog w K mg base "_law_same" 4 ["actual", "expected"] (spSame 2) := ⟨f30, _, ok_same (k := 3) F30 T (H_match2.mono (by decide)), PySem.W.mg_of X G a30, k30, b30⟩
  have H_any_ends : Has l.prog w K mg base "_law_any_ends" 6 ["store"] (spAnyEnds) := ⟨f31, _, ok_any_ends (k := 5) F31 T (H_take.mono (by decide)) (H_pool.mono (by decide)) (H_ends.mono (by decide)) (H_number.mono (by decide)), PySem.W.mg_of X G a31, k31, b31⟩
  have H_parsed : Has l.prog w K mg base "_law_parsed" 8 ["word"] (spParsed) := ⟨f32, _, ok_parsed (k := 7) F32 T TE S SI G_Span E_BadText N_BadText_line HS, PySem.W.mg_of X G a32, k32, b32⟩
  have H_parsed_number : Has l.prog w K mg base "_law_parsed_number" 4 ["word"] (spParsedNum) := ⟨f33, _, ok_parsed_number (k := 3) F33 T TE E_BadText N_BadText_line (H_parse_number.mono (by decide)), PySem.W.mg_of X G a33, k33, b33⟩
  have H_told_number : Has l.prog w K mg base "_law_told_number" 5 ["value"] (spToldNum) := ⟨f34, _, ok_told_number (k := 4) F34 T TE E_BadNumber N_BadNumber_number (H_number_text.mono (by decide)), PySem.W.mg_of X G a34, k34, b34⟩
  have H_read_otherwise : Has l.prog w K mg base "_law_read_otherwise" 8 ["span", "text", "ends"] (spOther C) := ⟨f35, _, ok_read_otherwise (k := 7) F35 T S SI G_Span HS (H_same.mono (by decide)), PySem.W.mg_of X G a35, k35, b35⟩
  have H_reads : Has l.prog w K mg base "_law_reads" 9 ["word"] (spReads) := ⟨f36, _, ok_reads (k := 8) F36 T (H_read_ends.mono (by decide)) (H_read.mono (by decide)) (H_parsed.mono (by decide)) (H_parsed_number.mono (by decide)) (H_same.mono (by decide)), PySem.W.mg_of X G a36, k36, b36⟩
  have H_spoilt_at : Has l.prog w K mg base "_law_spoilt_at" 1 ["word", "at", "sign"] (spSpoilt) := ⟨f37, _, ok_spoilt_at (k := 0) F37 T, PySem.W.mg_of X G a37, k37, b37⟩
  have H_reads_near : Has l.prog w K mg base "_law_reads_near" 10 ["store", "word"] (spReadsNear) := ⟨f38, _, ok_reads_near (k := 9) F38 T (H_pick.mono (by decide)) (H_sign.mono (by decide)) (H_spoilt_at.mono (by decide)) (H_reads.mono (by decide)) (H_bent_text.mono (by decide)), PySem.W.mg_of X G a38, k38, b38⟩
  exact ok_law (k := 10) F39 T S (H_store.mono (by decide)) (H_any_ends.mono (by decide)) (HM2.mono (by decide)) (by decide : 6 + 1 ≤ 10) HP (H_ends_text.mono (by decide)) (H_same.mono (by decide)) (H_read_ends.mono (by decide)) (H_reads.mono (by decide)) (H_reads_near.mono (by decide)) (H_read_otherwise.mono (by decide)) (H_number.mono (by decide)) (H_told_number.mono (by decide)) (HK_number_text_number.mono (by decide)) (HK_parse_number_text.mono (by decide)) (H_pick.mono (by decide)) (H_take.mono (by decide)) (H_bad_number.mono (by decide))

end Z
open PySem PySem.W PyProof.Rows
set_option maxRecDepth 100000 in
set_option maxHeartbeats 0 in
theorem PySem.Challenge.cw_outshiners_k03_span_texts_read_back_holds : PySem.Challenge.rw_outshiners_k03_span_texts_read_back.Holds := by
  w_on; o_law; k_head; (case hw => w_witness2)
  k_fill
  refine L2.walk_of (l := PySem.Challenge.rw_outshiners_k03_span_texts_read_back) (n := 63) (k := 11) (x := "script") (CX := fun _ => L2.CX0) (sp := fun w => Z.spLaw _) rfl (by decide) rfl ⟨rfl, by decide, by decide⟩ (fun w h Y => PySem.W.kIn_of Y) ?F (fun _ _ a ns hl _ hS => ⟨a, ns, rfl, hS, hl, fun _ => rfl⟩) (fun _ _ _ _ _ h => h)
  case F =>
    intro w mg fa h KX G hmg
    refine' Z.all_mk KX G hmg ?gCE ?xCE ?rCE ?saCE ?gaCE ?ggCE ?nfCEnumber ?kpCE ?exCE ?tyCE ?hdCE ?haCE ?hnCE ?htCE ?hmCE ?suCE ?iCE ?tiCE ?lCE ?cCE ?kCE ?gCB ?xCB ?rCB ?saCB ?gaCB ?ggCB ?nfCBlow ?nfCBhigh ?kpCB ?exCB ?tyCB ?hdCB ?haCB ?hnCB ?htCB ?hmCB ?suCB ?iCB ?tiCB ?lCB ?cCB ?kCB ?gCT ?xCT ?rCT ?saCT ?gaCT ?ggCT ?nfCTline ?kpCT ?exCT ?tyCT ?hdCT ?haCT ?hnCT ?htCT ?hmCT ?suCT ?iCT ?tiCT ?lCT ?cCT ?kCT ?gcO ?gcM ?gC ?tO ?tN ?tS ?tM ?nO ?nT ?nS ?nM ?pgC ?hdC ?poC ?saC ?nlC ?nhC ?haC ?hmC ?kC ?mkC ?kpC ?icC ?iC ?l0 ?c0 ?k0 ?t0 ?fnI ?t_at ?t_rec ?l1 ?c1 ?k1 ?t_get ?t_tak ?p_find ?p_rec ?l2 ?c2 ?k2 ?p_rd ?p_ga ?p_at ?p_ty ?p_get ?p_tk ?a3 ?l3 ?c3 ?k3 ?a4 ?l4 ?c4 ?k4 ?a5 ?l5 ?c5 ?k5 ?a6 ?l6 ?c6 ?k6 ?a7 ?l7 ?c7 ?k7 ?a8 ?l8 ?c8 ?k8 ?a9 ?l9 ?c9 ?k9 ?a10 ?l10 ?c10 ?k10 ?a11 ?l11 ?c11 ?k11 ?a12 ?l12 ?c12 ?k12 ?a13 ?l13 ?c13 ?k13 ?a14 ?l14 ?c14 ?k14 ?a15 ?l15 ?c15 ?k15 ?a16 ?l16 ?c16 ?k16 ?a17 ?l17 ?c17 ?k17 ?a18 ?l18 ?c18 ?k18 ?a19 ?l19 ?c19 ?k19 ?a20 ?l20 ?c20 ?k20 ?a21 ?l21 ?c21 ?k21 ?a22 ?l22 ?c22 ?k22 ?a23 ?l23 ?c23 ?k23 ?a24 ?l24 ?c24 ?k24 ?a25 ?l25 ?c25 ?k25 ?a26 ?l26 ?c26 ?k26 ?a27 ?l27 ?c27 ?k27 ?a28 ?l28 ?c28 ?k28 ?a29 ?l29 ?c29 ?k29 ?a30 ?l30 ?c30 ?k30 ?a31 ?l31 ?c31 ?k31 ?a32 ?l32 ?c32 ?k32 ?a33 ?l33 ?c33 ?k33 ?a34 ?l34 ?c34 ?k34 ?a35 ?l35 ?c35 ?k35 ?a36 ?l36 ?c36 ?k36 ?a37 ?l37 ?c37 ?k37 ?a38 ?l38 ?c38 ?k38 ?a39 ?l39 ?c39 ?k39 ?z_ValueError ?z_bool ?z_dict ?z_int ?z_isinstance ?z_len ?z_list ?z_max ?z_min ?z_range ?z_sorted ?z_str ?z_tuple ?zc_LIMIT ?zc_LONGEST_NUMBER
    case gCE => k_is
    case xCE => k_is
    case rCE => first | rfl | decide +kernel
    case saCE => k_is
    case gaCE => k_is
    case ggCE => k_is
    case nfCEnumber => k_is
    case kpCE => k_is
    case exCE => k_is
    case tyCE => k_is
    case hdCE => k_is
    case haCE => k_is
    case hnCE => k_is
    case htCE => k_is
    case hmCE => k_is
    case suCE => first | rfl | k_is
    case iCE => k_is
    case tiCE => k_is
    case lCE => k_is
    case cCE => k_is
    case kCE => k_is
    case gCB => k_is
    case xCB => k_is
    case rCB => first | rfl | decide +kernel
    case saCB => k_is
    case gaCB => k_is
    case ggCB => k_is
    case nfCBlow => k_is
    case nfCBhigh => k_is
    case kpCB => k_is
    case exCB => k_is
    case tyCB => k_is
    case hdCB => k_is
    case haCB => k_is
    case hnCB => k_is
    case htCB => k_is
    case hmCB => k_is
    case suCB => first | rfl | k_is
    case iCB => k_is
    case tiCB => k_is
    case lCB => k_is
    case cCB => k_is
    case kCB => k_is
    case gCT => k_is
    case xCT => k_is
    case rCT => first | rfl | decide +kernel
    case saCT => k_is
    case gaCT => k_is
    case ggCT => k_is
    case nfCTline => k_is
    case kpCT => k_is
    case exCT => k_is
    case tyCT => k_is
    case hdCT => k_is
    case haCT => k_is
    case hnCT => k_is
    case htCT => k_is
    case hmCT => k_is
    case suCT => first | rfl | k_is
    case iCT => k_is
    case tiCT => k_is
    case lCT => k_is
    case cCT => k_is
    case kCT => k_is
    case gcO => k_is
    case gcM => k_is
    case gC => k_is
    case tO => first | k_is | kit_is
    case tN => first | k_is | kit_is
    case tS => first | k_is | kit_is
    case tM => first | k_is | kit_is
    case nO => first | k_is | kit_is
    case nT => first | k_is | kit_is
    case nS => first | k_is | kit_is
    case nM => first | k_is | kit_is
    case pgC => k_is
    case hdC => k_is
    case poC => k_is
    case saC => k_is
    case nlC => k_is
    case nhC => k_is
    case haC => k_is
    case hmC => k_is
    case kC => first | k_is | kit_is
    case mkC => k_is
    case kpC => k_is
    case icC => k_is
    case iC => k_is
    case l0 => k_is
    case c0 => k_is
    case k0 => k_is
    case t0 => k_is
    case fnI => k_is
    case t_at => k_is
    case t_rec => k_is
    case l1 => k_is
    case c1 => k_is
    case k1 => k_is
    case t_get => k_is
    case t_tak => k_is
    case p_find => k_is
    case p_rec => k_is
    case l2 => k_is
    case c2 => k_is
    case k2 => k_is
    case p_rd => k_is
    case p_ga => k_is
    case p_at => k_is
    case p_ty => k_is
    case p_get => k_is
    case p_tk => k_is
    case a3 => k_is
    case l3 => k_is
    case c3 => k_is
    case k3 => k_is
    case a4 => k_is
    case l4 => k_is
    case c4 => k_is
    case k4 => k_is
    case a5 => k_is
    case l5 => k_is
    case c5 => k_is
    case k5 => k_is
    case a6 => k_is
    case l6 => k_is
    case c6 => k_is
    case k6 => k_is
    case a7 => k_is
    case l7 => k_is
    case c7 => k_is
    case k7 => k_is
    case a8 => k_is
    case l8 => k_is
    case c8 => k_is
    case k8 => k_is
    case a9 => k_is
    case l9 => k_is
    case c9 => k_is
    case k9 => k_is
    case a10 => k_is
    case l10 => k_is
    case c10 => k_is
    case k10 => k_is
    case a11 => k_is
    case l11 => k_is
    case c11 => k_is
    case k11 => k_is
    case a12 => k_is
    case l12 => k_is
    case c12 => k_is
    case k12 => k_is
    case a13 => k_is
    case l13 => k_is
    case c13 => k_is
    case k13 => k_is
    case a14 => k_is
    case l14 => k_is
    case c14 => k_is
    case k14 => k_is
    case a15 => k_is
    case l15 => k_is
    case c15 => k_is
    case k15 => k_is
    case a16 => k_is
    case l16 => k_is
    case c16 => k_is
    case k16 => k_is
    case a17 => k_is
    case l17 => k_is
    case c17 => k_is
    case k17 => k_is
    case a18 => k_is
    case l18 => k_is
    case c18 => k_is
    case k18 => k_is
    case a19 => k_is
    case l19 => k_is
    case c19 => k_is
    case k19 => k_is
    case a20 => k_is
    case l20 => k_is
    case c20 => k_is
    case k20 => k_is
    case a21 => k_is
    case l21 => k_is
    case c21 => k_is
    case k21 => k_is
    case a22 => k_is
    case l22 => k_is
    case c22 => k_is
    case k22 => k_is
    case a23 => k_is
    case l23 => k_is
    case c23 => k_is
    case k23 => k_is
    case a24 => k_is
    case l24 => k_is
    case c24 => k_is
    case k24 => k_is
    case a25 => k_is
    case l25 => k_is
    case c25 => k_is
    case k25 => k_is
    case a26 => k_is
    case l26 => k_is
    case c26 => k_is
    case k26 => k_is
    case a27 => k_is
    case l27 => k_is
    case c27 => k_is
    case k27 => k_is
    case a28 => k_is
    case l28 => k_is
    case c28 => k_is
    case k28 => k_is
    case a29 => k_is
    case l29 => k_is
    case c29 => k_is
    case k29 => k_is
    case a30 => k_is
    case l30 => k_is
    case c30 => k_is
    case k30 => k_is
    case a31 => k_is
    case l31 => k_is
    case c31 => k_is
    case k31 => k_is
    case a32 => k_is
    case l32 => k_is
    case c32 => k_is
    case k32 => k_is
    case a33 => k_is
    case l33 => k_is
    case c33 => k_is
    case k33 => k_is
    case a34 => k_is
    case l34 => k_is
    case c34 => k_is
    case k34 => k_is
    case a35 => k_is
    case l35 => k_is
    case c35 => k_is
    case k35 => k_is
    case a36 => k_is
    case l36 => k_is
    case c36 => k_is
    case k36 => k_is
    case a37 => k_is
    case l37 => k_is
    case c37 => k_is
    case k37 => k_is
    case a38 => k_is
    case l38 => k_is
    case c38 => k_is
    case k38 => k_is
    case a39 => k_is
    case l39 => k_is
    case c39 => k_is
    case k39 => k_is
    case z_ValueError => k_is
    case z_bool => k_is
    case z_dict => k_is
    case z_int => k_is
    case z_isinstance => k_is
    case z_len => k_is
    case z_list => k_is
    case z_max => k_is
    case z_min => k_is
    case z_range => k_is
    case z_sorted => k_is
    case z_str => k_is
    case z_tuple => k_is
    case zc_LIMIT => exact ⟨_, by k_is⟩
    case zc_LONGEST_NUMBER => exact ⟨_, by k_is⟩
