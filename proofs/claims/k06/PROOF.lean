import PyProof.Rows.All
import Wide.All
import OpenK.AllK
import Wide.FinOn
import HandS.ForMost
import HandS.ForExc
import HandS.Wide
import HandS.IsInst
import HandS.SortInts
import HandS.Codes
import HandS.ExcInit
import HandS.ExcField
import HandS.ExcIs
import KE.DatumOrd
import KE.KExcIs
import HandS.SortKw
import HandS.TryMany
import HandS.ExcOwn
import HandS.FStr
import HandS.Text
import HandS.Dict
import HandS.Defaults
import HandS.Rev
import HandS.Conv
import HandS.RaiseMore
import HandS.Walk
import HandS.CallSlots
import HandS.MakeKwOnly
import HandS.OwnEq
import HandS.MakeKw
import HandS.ClsMeth
import PyProof.Rows.SortStr
import PyProof.Rows.SortKeyStr
import HandS.SetKeys
import HandS.ExcValue
import HandS.Property
import HandS.StrMore
import HandS.DictComp
import HandS.NoneIn
import HandS.ListItems
import HandS.SortRule
import HandS.OwnIter
import HandS.IterVal
import PyProof.FString5
import PySem.Challenge.RW_outshiners_k06_webs_keep_name_order
set_option Elab.async false
set_option linter.all false
set_option maxRecDepth 100000
namespace Z
open PySem PySem.Spec PyProof.Rows L2
structure Has (P : Program) (w : World) (K : PySem.W.Frag) (mg : Str → Option Value) (base : Heap) (x : Str) (k : Nat) (ps : List Str) (sp : Sp) : Prop where
  ex : ∃ f fd, FnOk P w K mg base CX0 k f fd ps sp ∧ mg x = some (.ref f) ∧ PySem.W.keepIn K (.ref f) = true ∧ Binds K fd ps []
section
variable {P : Program} {w : World} {K : PySem.W.Frag} {mg : Str → Option Value} {base : Heap}
theorem Has.mono {x : Str} {j k : Nat} {ps : List Str} {sp : Sp} (h : Has P w K mg base x j ps sp) (l : j ≤ k) : Has P w K mg base x k ps sp := by
  obtain ⟨f, fd, F, r⟩ := h.ex
  exact ⟨f, fd, F.mono l, r⟩
end
theorem pe_callH {X : Cx} {x : Str} {k : Nat} {ps : List Str} {sp : Sp} {e : Expr} {es : List Expr} {t : TA} {p pos : Pos} (h : Has X.prog X.w X.K X.mg X.base x k ps sp) (hr : Room k X.A) (hg : Gl X x) (ha : PA X (e :: es) t)
    (hdb : (x == ("__debug__" : Str)) = false := by decide) (he : starEach (e :: es) X.env = (false, eval e X.env) :: starEach es X.env := by rfl) (hpl : (backTo pos (starEach es X.env)).any (·.1) = false := by rfl) :
    PE X (.Call (.Name x p) (e :: es) [] pos) (tCall sp [] E0 t) := by
  obtain ⟨f, fd, F, hm, hk, hb⟩ := h.ex
  exact pe_call F hr hg hm hk hb .nil pass0 ha hdb he hpl
theorem sl_of' {K : PySem.W.Frag} {H : Hp} {a : Addr} {xs : List V} (h : H a = some (.lst xs)) : SqL K H a xs := .inl (.inl h)
section
variable {σ : L2.St} {H : Hp} {D : Ends} {t u : TS} {te ta tb : TE} {tt tu : TT} {Q : VK} {i : Nat} {v x : V} {r : R2} {tA tR : TA} {QA : List V → Hp → Prop} {QT : Bool → Hp → Prop}
theorem rd_seq (h : t { D with nx := u D } σ H) : tSeq t u D σ H := h
theorem rd_asg (h : te σ H fun x H1 => D.nx (σ.set i (some x)) H1) : tAsg te (gName i) D σ H := h
theorem rd_asgS {to ti : TE} {ts : TSet} (h : te σ H fun x H1 => to σ H1 fun o H1 => ti σ H1 fun i H2 => ts o i x H2 fun H3 => D.nx σ H3) : tAsg te (gSub to ti ts) D σ H := h
theorem rd_ret (h : te σ H D.rt) : tRet te D σ H := h
theorem rd_ifS (h : tt σ H fun b H1 => if b = true then t D σ H1 else u D σ H1) : tIfS tt t u D σ H := h
theorem rd_next (h : D.nx σ H) : tNext D σ H := h
theorem rd_drop (h : te σ H fun _ H1 => D.nx σ H1) : tDrop te D σ H := h
theorem rd_var (e : σ[i]? = some (some v)) (h : Q v H) : tVar i σ H Q := ⟨v, e, h⟩
theorem rd_c (h : Q v H) : tC v σ H Q := h
theorem rd_op (h : ta σ H fun x H1 => tb σ H1 fun y H2 => r x y H2 Q) : tOp r ta tb σ H Q := h
theorem rd_un {r : V → Hp → VK → Prop} (h : ta σ H fun x H1 => r x H1 Q) : tUn r ta σ H Q := h
theorem rd_nil (h : QA [] H) : tNil σ H QA := h
theorem rd_cons (h : ta σ H fun x H1 => tR σ H1 fun xs H2 => QA (x :: xs) H2) : tCons ta tR σ H QA := h
theorem rd_cb {r : List V → Hp → VK → Prop} (h : tA σ H fun vs H1 => r vs H1 Q) : tCB r tA σ H Q := h
theorem rd_call {sp : Sp} {E : XK} (h : tA σ H fun vs H1 => sp vs H1 Q E) : tCall sp [] E tA σ H Q := by
  show tA σ H fun vs H1 => sp (vs ++ []) H1 Q E
  simp only [List.append_nil]
  exact h
theorem rd_test (h : te σ H fun x H' => ∃ k, x = .bl k ∧ QT k H') : tTest te σ H QT := h
theorem rd_tB (h : te σ H fun x H' => ∃ k, x = .bl k ∧ QT k H') : tB te σ H QT := h
theorem rd_bx {b : Bool} {R : Bool → Prop} (h : R b) : ∃ k, V.bl b = .bl k ∧ R k := ⟨b, rfl, h⟩
theorem rd_nn {R : Prop} (h : R) : V.non = V.non ∧ R := ⟨rfl, h⟩
theorem rd_not (h : tt σ H fun c H1 => QT (!c) H1) : tNot tt σ H QT := h
theorem rd_and (h : tt σ H fun c H1 => if c = true then tu σ H1 QT else QT false H1) : tAnd tt tu σ H QT := h
theorem rd_or (h : tt σ H fun c H1 => if c = true then QT true H1 else tu σ H1 QT) : tOr tt tu σ H QT := h
theorem rd_andV (h : ta σ H fun x H1 => ∃ c, x = .bl c ∧ if c = true then tb σ H1 Q else Q (.bl false) H1) : tAndV ta tb σ H Q := h
theorem rd_orV (h : ta σ H fun x H1 => ∃ c, x = .bl c ∧ if c = true then Q (.bl true) H1 else tb σ H1 Q) : tOrV ta tb σ H Q := h
theorem rd_notV (h : ta σ H fun x H1 => ∃ c, x = .bl c ∧ Q (.bl (!c)) H1) : tNotV ta σ H Q := h
theorem rd_if (h : tt σ H fun c H1 => if c = true then ta σ H1 Q else tb σ H1 Q) : tIf tt ta tb σ H Q := h
theorem rd_I0 {g : Int → Int → V} {i j : Int} (h : Q (g i j) H) : rI0 g (.int i) (.int j) H Q := ⟨i, j, rfl, rfl, h⟩
theorem rd_I {C : Int → Int → Prop} {g : Int → Int → V} {i j : Int} (c : C i j) (h : Q (g i j) H) : rI C g (.int i) (.int j) H Q := ⟨i, j, rfl, rfl, c, h⟩
theorem rd_U {g : Int → V} {i : Int} (h : Q (g i) H) : rU g (.int i) H Q := ⟨i, rfl, h⟩
theorem rd_eqI {i j : Int} (h : Q (.bl (decide (i = j))) H) : rEq (.int i) (.int j) H Q := ⟨rfl, by
  have e : decide (V.int i = V.int j) = decide (i = j) := by simp
  rw [e]; exact h⟩
theorem rd_neI {i j : Int} (h : Q (.bl (!decide (i = j))) H) : rNe (.int i) (.int j) H Q := ⟨rfl, by
  have e : decide (V.int i = V.int j) = decide (i = j) := by simp
  rw [e]; exact h⟩
theorem rd_lst (h : tA σ H fun xs H1 => xs.length ≤ sizeLine ∧ ∀ p, H1 p = none → Q (.ref p) (upd H1 p (.lst xs))) : tLst tA σ H Q := h
theorem rd_tup (h : tA σ H fun xs H1 => xs.length ≤ sizeLine ∧ ∀ p, H1 p = none → Q (.ref p) (upd H1 p (.tup xs))) : tTup tA σ H Q := h
theorem rd_sl {r : V → Option Int → Option Int → Hp → VK → Prop} {tl th : TO} (h : te σ H fun x H1 => tl σ H1 fun l H2 => th σ H2 fun u H3 => r x l u H3 Q) : tSl r te tl th σ H Q := h
theorem rd_bm {K : PySem.W.Frag} {T : String} {r : V → List V → Hp → VK → Prop} (h : te σ H fun x H1 => tyV K T x H1 ∧ tA σ H1 fun xs H2 => r x xs H2 Q) : tBM K T r te tA σ H Q := h
theorem rd_chain {r r' : R2} {tc : TE} (h : ta σ H fun x H1 => tb σ H1 fun y H2 => r x y H2 fun z H3 => ∃ k, z = .bl k ∧ if k = true then tc σ H3 fun z' H4 => r' y z' H4 Q else Q (.bl false) H3) : tChain r r' ta tb tc σ H Q := h
theorem rd_int1 {i : Int} {R : Int → Prop} {R' : Bool → Prop} (h : R i) : (∃ j, [V.int i] = [V.int j] ∧ R j) ∨ (∃ k, [V.int i] = [V.bl k] ∧ R' k) := .inl ⟨i, rfl, h⟩
theorem rd_max2 {i j : Int} {R : Int → Int → Prop} (h : R i j) : ∃ i' j', [V.int i, V.int j] = [V.int i', V.int j'] ∧ R i' j' := ⟨i, j, rfl, h⟩
theorem rd_min2 {i j : Int} {R : Int → Int → Prop} (h : R i j) : ∃ i' j', [V.int i, V.int j] = [V.int i', V.int j'] ∧ R i' j' := ⟨i, j, rfl, h⟩
theorem rd_ixL {K : PySem.W.Frag} {p : Addr} {xs : List V} {i : Int} {v : V} {Q : VK} (h : H p = some (.lst xs)) (e : atI xs i = some v) (q : Q v H) : rIxL K (.ref p) (.int i) H Q := ⟨p, xs, i, v, rfl, rfl, .inl (.inl h), e, q⟩
theorem rd_setL {p : Addr} {xs : List V} {k : Int} {j : Nat} {v : V} {Q : Hp → Prop} (h : H p = some (.lst xs)) (e : ixN xs.length k = some j) (q : Q (upd H p (.lst (xs.set j v)))) : rSetL (.ref p) (.int k) v H Q := ⟨p, xs, k, j, rfl, rfl, h, e, q⟩
theorem rd_part {te : TE} {Q : Option Int → Hp → Prop} (h : te σ H fun x H1 => ∃ i, x = .int i ∧ Q (some i) H1) : tPart te σ H Q := h
theorem rd_nopart {Q : Option Int → Hp → Prop} (h : Q none H) : tNoPart σ H Q := h
theorem rd_cut (Mid : L2.St → Hp → Prop) (h : t { D with nx := Mid } σ H) (h2 : ∀ σ' H', Mid σ' H' → u D σ' H') : C8.tCut t u D σ H := ⟨Mid, h, h2⟩
theorem rd_setS {p : Addr} {xs : List V} {k : Int} {j : Nat} {v : V} {Q : Hp → Prop} (e : ixN xs.length k = some j) (q : Q (upd H p (.lst (xs.set j v)))) : rSetL (.ref p) (.int k) v (upd H p (.lst xs)) Q := ⟨p, xs, k, j, rfl, rfl, upd_same, e, by rw [upd_upd]; exact q⟩
theorem rd_p9 {Q : VK} (h : Q (.int 1000000000) H) : rI CPow (fun i j => .int (i ^ j.toNat)) (.int 10) (.int 9) H Q := ⟨10, 9, rfl, rfl, ⟨by decide, by decide, by decide⟩, h⟩
theorem rd_p11 {Q : VK} (h : Q (.int 100000000000) H) : rI CPow (fun i j => .int (i ^ j.toNat)) (.int 10) (.int 11) H Q := ⟨10, 11, rfl, rfl, ⟨by decide, by decide, by decide⟩, h⟩
theorem rd_p12 {Q : VK} (h : Q (.int 1000000000000) H) : rI CPow (fun i j => .int (i ^ j.toNat)) (.int 10) (.int 12) H Q := ⟨10, 12, rfl, rfl, ⟨by decide, by decide, by decide⟩, h⟩
theorem rd_p13 {Q : VK} (h : Q (.int 10000000000000) H) : rI CPow (fun i j => .int (i ^ j.toNat)) (.int 10) (.int 13) H Q := ⟨10, 13, rfl, rfl, ⟨by decide, by decide, by decide⟩, h⟩
theorem rd_p18 {Q : VK} (h : Q (.int 1000000000000000000) H) : rI CPow (fun i j => .int (i ^ j.toNat)) (.int 10) (.int 18) H Q := ⟨10, 18, rfl, rfl, ⟨by decide, by decide, by decide⟩, h⟩
theorem rd_p30 {Q : VK} (h : Q (.int 1000000000000000000000000000000) H) : rI CPow (fun i j => .int (i ^ j.toNat)) (.int 10) (.int 30) H Q := ⟨10, 30, rfl, rfl, ⟨by decide, by decide, by decide⟩, h⟩
theorem rd_p40 {Q : VK} (h : Q (.int 10000000000000000000000000000000000000000) H) : rI CPow (fun i j => .int (i ^ j.toNat)) (.int 10) (.int 40) H Q := ⟨10, 40, rfl, rfl, ⟨by decide, by decide, by decide⟩, h⟩
theorem rd_seqL {K : PySem.W.Frag} {a : Addr} {xs : List V} {R : List V → Prop} (h : H a = some (.lst xs)) (q : R xs) : ∃ p ys, [V.ref a] = [V.ref p] ∧ (SqL K H p ys ∨ SqT K H p ys) ∧ R ys := ⟨a, xs, rfl, .inl (.inl (.inl h)), q⟩
theorem rd_seqT {K : PySem.W.Frag} {a : Addr} {xs : List V} {R : List V → Prop} (h : H a = some (.tup xs)) (q : R xs) : ∃ p ys, [V.ref a] = [V.ref p] ∧ (SqL K H p ys ∨ SqT K H p ys) ∧ R ys := ⟨a, xs, rfl, .inr (.inl (.inl h)), q⟩
theorem atI_get {xs : List V} {i : Int} (h0 : 0 ≤ i) (h1 : i < xs.length) : ∃ (hb : i.toNat < xs.length), atI xs i = some (xs[i.toNat]'hb) := by
  have hb : i.toNat < xs.length := by omega
  refine ⟨hb, ?_⟩
  unfold atI ixN
  rw [if_pos h0, if_pos h1]
  simp [hb]
theorem atI_ints {xs : List Int} {i : Int} (h0 : 0 ≤ i) (h1 : i < xs.length) : ∃ n, n ∈ xs ∧ xs[i.toNat]? = some n ∧ atI (xs.map V.int) i = some (.int n) := by
  have hb : i.toNat < xs.length := by omega
  refine ⟨xs[i.toNat], List.getElem_mem hb, by simp [hb], ?_⟩
  unfold atI ixN
  rw [if_pos h0, if_pos (by simpa using h1)]
  simp [hb]
theorem rd_for {wi : TI} {g : TG} {tb : TS} (h : wi σ H fun J H1 => ∃ W : Nat → Nat → L2.St → Hp → Prop, (∃ m, W 0 m σ H1) ∧ ∀ i m σ H, W i m σ H →
  (J.stop i H ∧ D.nx σ H) ∨ (J.go i H ∧ ∃ N : L2.St → Hp → Prop, (∀ σ' H', N σ' H' → ∃ m', m' < m ∧ W (i + 1) m' σ' H') ∧ ∀ x H', J.yld i H x H' → g x σ H' fun σ2 H2 => tb { D with nx := N, ct := N, bk := D.nx } σ2 H2)) : tFor wi g tb D σ H := h
theorem rd_iRng1 {ta : TA} {R : It → Hp → Prop} (h : ta σ H fun vs H1 => ∃ j : Int, vs = [.int j] ∧ -(2 ^ 62) ≤ j ∧ j < 2 ^ 62 ∧ R (Itr 0 j.toNat) H1) : iRng1 ta σ H R := h
theorem rd_iList {K : PySem.W.Frag} {R : It → Hp → Prop} (h : te σ H fun x H1 => ∃ a, x = .ref a ∧ (∃ xs, SqL K H1 a xs) ∧ R (Itl K a) H1) : iList K te σ H R := h
theorem for_rng {n : Nat} {k : Nat} {tb : TS} (Pv : Nat → L2.St → Hp → Prop) (h0 : Pv 0 σ H)
    (hs : ∀ i σ H, i < n → Pv i σ H → tb { D with nx := Pv (i + 1), ct := Pv (i + 1), bk := D.nx } (σ.set k (some (.int i))) H) (hd : ∀ σ H, Pv n σ H → D.nx σ H) :
    ∃ W : Nat → Nat → L2.St → Hp → Prop, (∃ m, W 0 m σ H) ∧ ∀ i m σ H, W i m σ H →
      ((Itr 0 n).stop i H ∧ D.nx σ H) ∨ ((Itr 0 n).go i H ∧ ∃ N : L2.St → Hp → Prop, (∀ σ' H', N σ' H' → ∃ m', m' < m ∧ W (i + 1) m' σ' H') ∧ ∀ x H', (Itr 0 n).yld i H x H' → gName k x σ H' fun σ2 H2 => tb { D with nx := N, ct := N, bk := D.nx } σ2 H2) := by
  refine for_range (lo := 0) Pv h0 (fun i σ H hi hp => ?_) hd
  have e : (V.int (0 + (i : Int))) = V.int i := by rw [Int.zero_add]
  rw [e]
  exact hs i σ H hi hp
theorem for_lst {K : PySem.W.Frag} {a : Addr} {xs : List V} {k : Nat} {tb : TS} (Pv : Nat → L2.St → Hp → Prop) (h0 : Pv 0 σ H) (hl : ∀ i σ H, Pv i σ H → H a = some (.lst xs))
    (hs : ∀ i x σ H, xs[i]? = some x → Pv i σ H → tb { D with nx := Pv (i + 1), ct := Pv (i + 1), bk := D.nx } (σ.set k (some x)) H) (hd : ∀ σ H, Pv xs.length σ H → D.nx σ H) :
    ∃ W : Nat → Nat → L2.St → Hp → Prop, (∃ m, W 0 m σ H) ∧ ∀ i m σ H, W i m σ H →
      ((Itl K a).stop i H ∧ D.nx σ H) ∨ ((Itl K a).go i H ∧ ∃ N : L2.St → Hp → Prop, (∀ σ' H', N σ' H' → ∃ m', m' < m ∧ W (i + 1) m' σ' H') ∧ ∀ x H', (Itl K a).yld i H x H' → gName k x σ H' fun σ2 H2 => tb { D with nx := N, ct := N, bk := D.nx } σ2 H2) :=
  for_list Pv h0 (fun i σ H _ hp => sl_of' (hl i σ H hp)) hs hd
theorem kb_NoneType_int : kitB "NoneType" "int" = some false := by decide +kernel
theorem kb_NoneType_bool : kitB "NoneType" "bool" = some false := by decide +kernel
theorem kb_NoneType_str : kitB "NoneType" "str" = some false := by decide +kernel
theorem kb_NoneType_list : kitB "NoneType" "list" = some false := by decide +kernel
theorem kb_NoneType_tuple : kitB "NoneType" "tuple" = some false := by decide +kernel
theorem kb_NoneType_dict : kitB "NoneType" "dict" = some false := by decide +kernel
theorem kb_bool_int : kitB "bool" "int" = some true := by decide +kernel
theorem kb_bool_bool : kitB "bool" "bool" = some true := by decide +kernel
theorem kb_bool_str : kitB "bool" "str" = some false := by decide +kernel
theorem kb_bool_list : kitB "bool" "list" = some false := by decide +kernel
theorem kb_bool_tuple : kitB "bool" "tuple" = some false := by decide +kernel
theorem kb_bool_dict : kitB "bool" "dict" = some false := by decide +kernel
theorem kb_int_int : kitB "int" "int" = some true := by decide +kernel
theorem kb_int_bool : kitB "int" "bool" = some false := by decide +kernel
theorem kb_int_str : kitB "int" "str" = some false := by decide +kernel
theorem kb_int_list : kitB "int" "list" = some false := by decide +kernel
theorem kb_int_tuple : kitB "int" "tuple" = some false := by decide +kernel
theorem kb_int_dict : kitB "int" "dict" = some false := by decide +kernel
theorem kb_str_int : kitB "str" "int" = some false := by decide +kernel
theorem kb_str_bool : kitB "str" "bool" = some false := by decide +kernel
theorem kb_str_str : kitB "str" "str" = some true := by decide +kernel
theorem kb_str_list : kitB "str" "list" = some false := by decide +kernel
theorem kb_str_tuple : kitB "str" "tuple" = some false := by decide +kernel
theorem kb_str_dict : kitB "str" "dict" = some false := by decide +kernel
theorem kb_list_int : kitB "list" "int" = some false := by decide +kernel
theorem kb_list_bool : kitB "list" "bool" = some false := by decide +kernel
theorem kb_list_str : kitB "list" "str" = some false := by decide +kernel
theorem kb_list_list : kitB "list" "list" = some true := by decide +kernel
theorem kb_list_tuple : kitB "list" "tuple" = some false := by decide +kernel
theorem kb_list_dict : kitB "list" "dict" = some false := by decide +kernel
theorem kb_tuple_int : kitB "tuple" "int" = some false := by decide +kernel
theorem kb_tuple_bool : kitB "tuple" "bool" = some false := by decide +kernel
theorem kb_tuple_str : kitB "tuple" "str" = some false := by decide +kernel
theorem kb_tuple_list : kitB "tuple" "list" = some false := by decide +kernel
theorem kb_tuple_tuple : kitB "tuple" "tuple" = some true := by decide +kernel
theorem kb_tuple_dict : kitB "tuple" "dict" = some false := by decide +kernel
theorem rd_isi {K : PySem.W.Frag} {a n : String} {b : Bool} (ty : TyOf K H x (.type a)) (k : kitB a n = some b) (q : Q (.bl b) H) : rIsi K [x, .ty n] H Q := ⟨x, .ty n, .type a, .type n, b, rfl, .ty n, .base ty, kit_ty k, q⟩
theorem pe_globI {X : Cx} {x : Str} {n : Int} {pos : Pos} (hg : Gl X x) (hm : ∃ t, X.mg x = some (.int n t)) (hd : (x == ("__debug__" : Str)) = false := by decide) : PE X (.Name x pos) (tC (.int n)) := by
  obtain ⟨t, e⟩ := hm
  exact pe_glob hg e ⟨t, rfl⟩ hd
theorem if_nf {A B : Prop} (h : A) : if (!false) = true then A else B := iteT h
theorem if_nt {A B : Prop} (h : B) : if (!true) = true then A else B := iteF h
theorem if_nn {A B : Prop} (h : A) : if decide (V.non = V.non) = true then A else B := by rw [decide_eq_true rfl]; exact iteT h
theorem if_nnN {A B : Prop} (h : B) : if (!decide (V.non = V.non)) = true then A else B := by rw [decide_eq_true rfl]; exact iteF h
theorem if_n_int {i : Int} {A B : Prop} (h : B) : if decide (V.int i = V.non) = true then A else B := by rw [decide_eq_false (fun e => nomatch e)]; exact iteF h
theorem if_nN_int {i : Int} {A B : Prop} (h : A) : if (!decide (V.int i = V.non)) = true then A else B := by rw [decide_eq_false (fun e => nomatch e)]; exact iteT h
theorem if_n_bl {b : Bool} {A B : Prop} (h : B) : if decide (V.bl b = V.non) = true then A else B := by rw [decide_eq_false (fun e => nomatch e)]; exact iteF h
theorem if_nN_bl {b : Bool} {A B : Prop} (h : A) : if (!decide (V.bl b = V.non)) = true then A else B := by rw [decide_eq_false (fun e => nomatch e)]; exact iteT h
theorem if_n_str {x : Str} {A B : Prop} (h : B) : if decide (V.str x = V.non) = true then A else B := by rw [decide_eq_false (fun e => nomatch e)]; exact iteF h
theorem if_nN_str {x : Str} {A B : Prop} (h : A) : if (!decide (V.str x = V.non)) = true then A else B := by rw [decide_eq_false (fun e => nomatch e)]; exact iteT h
theorem if_n_ref {a : Addr} {A B : Prop} (h : B) : if decide (V.ref a = V.non) = true then A else B := by rw [decide_eq_false (fun e => nomatch e)]; exact iteF h
theorem if_nN_ref {a : Addr} {A B : Prop} (h : A) : if (!decide (V.ref a = V.non)) = true then A else B := by rw [decide_eq_false (fun e => nomatch e)]; exact iteT h
theorem rd_eqB {i j : Bool} {Q : VK} (h : Q (.bl (decide (V.bl i = V.bl j))) H) : rEq (.bl i) (.bl j) H Q := ⟨rfl, h⟩
theorem rd_neB {i j : Bool} {Q : VK} (h : Q (.bl (!decide (i = j))) H) : rNe (.bl i) (.bl j) H Q := ⟨rfl, by
  have e : decide (V.bl i = V.bl j) = decide (i = j) := by simp
  rw [e]; exact h⟩
theorem rd_eqS {i j : Str} {Q : VK} (h : Q (.bl (decide (V.str i = V.str j))) H) : rEq (.str i) (.str j) H Q := ⟨rfl, h⟩
theorem if_dec {p : Prop} [Decidable p] {A B : Prop} (h1 : p → A) (h2 : ¬ p → B) : if decide p = true then A else B := by
  by_cases c : p
  · rw [if_pos (decide_eq_true c)]; exact h1 c
  · rw [if_neg (fun e => c (of_decide_eq_true e))]; exact h2 c
theorem if_ndec {p : Prop} [Decidable p] {A B : Prop} (h1 : ¬ p → A) (h2 : p → B) : if (!decide p) = true then A else B := by
  by_cases c : p
  · rw [decide_eq_true c]; exact iteF (h2 c)
  · rw [decide_eq_false c]; exact iteT (h1 c)
theorem if_bool {b : Bool} {A B : Prop} (h1 : b = true → A) (h2 : b = false → B) : if b = true then A else B := by
  cases b with
  | true => exact iteT (h1 rfl)
  | false => exact iteF (h2 rfl)
theorem if_nbool {b : Bool} {A B : Prop} (h1 : b = false → A) (h2 : b = true → B) : if (!b) = true then A else B := by
  cases b with
  | true => exact iteF (h2 rfl)
  | false => exact iteT (h1 rfl)
end
abbrev Sto := Addr × Addr
def StoreOk (S : Sto) (H : Hp) : Prop := ∃ (cells : List Int) (a b c d e f : Int), S.2 ≠ S.1 ∧ H S.1 = some (.lst [.ref S.2, .int a, .int b, .int c, .int d, .int e, .int f]) ∧ H S.2 = some (.lst (cells.map V.int)) ∧ 0 ≤ a ∧ 0 ≤ e ∧ e < 2147483647 ∧ 0 ≤ f ∧ f < 2147483647
def At (S : Sto) (H : Hp) (p : Addr) (o : HO) : Prop := p ≠ S.1 ∧ H p = some o
def ExS (S : Sto) (H H' : Hp) : Prop := ∀ p o, p ≠ S.1 → H p = some o → H' p = some o
theorem ExS.refl (S : Sto) (H : Hp) : ExS S H H := fun _ _ _ h => h
theorem ExS.trans {S : Sto} {H H1 H2 : Hp} (a : ExS S H H1) (b : ExS S H1 H2) : ExS S H H2 := fun p o n h => b p o n (a p o n h)
theorem ExS.updS {S : Sto} {H : Hp} {o : HO} : ExS S H (upd H S.1 o) := fun p u n h => by rw [upd_ne n]; exact h
theorem ExS.new {S : Sto} {H : Hp} {p : Addr} {o : HO} (h : H p = none) : ExS S H (upd H p o) := fun a u _ e => by rw [upd_ne (ne_of_none e h)]; exact e
theorem ExS.mut {S : Sto} {H H' : Hp} {p : Addr} {o : HO} (e : ExS S H H') (h : H p = none) : ExS S H (upd H' p o) := fun a u n ha => by rw [upd_ne (ne_of_none ha h)]; exact e a u n ha
theorem At.back {S : Sto} {H H' : Hp} {p : Addr} {o : HO} (e : ExS S H H') (h : At S H p o) : At S H' p o := ⟨h.1, e p o h.1 h.2⟩
theorem StoreOk.ne1 {S : Sto} {H : Hp} {p : Addr} (s : StoreOk S H) (h : H p = none) : p ≠ S.1 := by
  obtain ⟨_, _, _, _, _, _, _, _, hs, _⟩ := s
  exact fun e => (by rw [e, hs] at h; cases h)
theorem StoreOk.ne2 {S : Sto} {H : Hp} {p : Addr} (s : StoreOk S H) (h : H p = none) : p ≠ S.2 := by
  obtain ⟨_, _, _, _, _, _, _, _, _, hs, _⟩ := s
  exact fun e => (by rw [e, hs] at h; cases h)
theorem At.new {S : Sto} {H : Hp} {p : Addr} {o : HO} (s : StoreOk S H) (h : H p = none) : At S (upd H p o) p o := ⟨s.ne1 h, upd_same⟩
theorem store_upd {S : Sto} {p : Addr} {H : Hp} {o : HO} (s : StoreOk S H) (n : p ≠ S.1) (n2 : p ≠ S.2) : StoreOk S (upd H p o) := by
  obtain ⟨cells, a, b, c, d, e, f, n', hs, hq, r⟩ := s
  exact ⟨cells, a, b, c, d, e, f, n', by rw [upd_ne (Ne.symm n)]; exact hs, by rw [upd_ne (Ne.symm n2)]; exact hq, r⟩
theorem StoreOk.new {S : Sto} {H : Hp} {p : Addr} {o : HO} (s : StoreOk S H) (h : H p = none) : StoreOk S (upd H p o) := store_upd s (s.ne1 h) (s.ne2 h)
theorem StoreOk.same {S : Sto} {H H' : Hp} (s : StoreOk S H) (e : Same H H') : StoreOk S H' := by
  obtain ⟨cells, a, b, c, d, e', f, n, hs, hq, r⟩ := s
  exact ⟨cells, a, b, c, d, e', f, n, e _ _ hs, e _ _ hq, r⟩
theorem upd_id {H : Hp} {p : Addr} {o : HO} (h : H p = some o) : upd H p o = H := by
  funext b; unfold upd; split
  · rename_i e; rw [e, h]
  · rfl
theorem same_mut {H H' : Hp} {p : Addr} {o : HO} (e : Same H H') (h : H p = none) : Same H (upd H' p o) := fun b x hb => by rw [upd_ne (ne_of_none hb h)]; exact e b x hb
theorem ixN_nat {n : Nat} {i : Int} (h0 : 0 ≤ i) (h1 : i < n) : ixN n i = some i.toNat := by unfold ixN; rw [if_pos h0, if_pos h1]
theorem get_map {α : Type} {xs : List α} {f : α → V} {i : Nat} {x : V} (h : (xs.map f)[i]? = some x) : ∃ n, xs[i]? = some n ∧ x = f n := by
  rw [List.getElem?_map] at h
  cases e : xs[i]? with
  | none => rw [e] at h; cases h
  | some n => rw [e] at h; exact ⟨n, rfl, (Option.some.inj h).symm⟩
theorem swap_perm {xs : List V} {i j : Nat} (hi : i < xs.length) (hj : j < xs.length) : ((xs.set i (xs[j]'hj)).set j (xs[i]'hi)).Perm xs := by
  rw [List.perm_iff_count]
  intro a
  rw [List.count_set (by rw [List.length_set]; exact hj), List.count_set hi]
  have hc : ∀ (k : Nat) (hk : k < xs.length), (xs[k] == a) = true → 0 < xs.count a := fun k hk e => List.count_pos_iff.mpr (by rw [← (beq_iff_eq.mp e)]; exact List.getElem_mem hk)
  have h1 := hc i hi
  have h2 := hc j hj
  by_cases e : i = j
  · subst e
    simp only [List.getElem_set_self]
    by_cases q : (xs[i] == a) = true
    · have := h1 q; simp only [q, if_true]; omega
    · simp only [q]; simp
  · rw [List.getElem_set_ne e]
    by_cases q : (xs[i] == a) = true <;> by_cases r : (xs[j] == a) = true <;> simp only [q, r, if_true] <;> simp <;> (try have := h1 q) <;> (try have := h2 r) <;> omega
def InR (n : Int) : Prop := -1000000000000 ≤ n ∧ n ≤ 1000000000000
instance (n : Int) : Decidable (InR n) := by unfold InR; exact inferInstance
def Sc : V → Prop
  | .non => True
  | .bl _ => True
  | .int _ => True
  | .str _ => True
  | _ => False
def isNum : V → Bool
  | .int n => decide (InR n)
  | _ => false
theorem ints_of {ns : List Int} : ∀ {ys : List V}, (∀ y ∈ ys, y ∈ ns.map V.int) → ∃ ms : List Int, ys = ms.map V.int ∧ ∀ m ∈ ms, m ∈ ns
  | [], _ => ⟨[], rfl, fun _ h => by cases h⟩
  | y :: ys, h => by
    obtain ⟨ms, e, hm⟩ := ints_of (ys := ys) fun z hz => h z (List.mem_cons_of_mem _ hz)
    obtain ⟨n, hn, rfl⟩ := List.mem_map.mp (h y List.mem_cons_self)
    refine ⟨n :: ms, by rw [e]; rfl, fun m hm' => ?_⟩
    rcases List.mem_cons.mp hm' with h1 | h1
    · rw [h1]; exact hn
    · exact hm m h1
theorem cut_to {xs : List V} {k : Nat} : cutV xs none (some (k : Int)) = xs.take k := by
  unfold cutV
  rw [HT.sIx_none, HT.sIx_nat, List.drop_zero, Nat.sub_zero]
  by_cases h : k ≤ xs.length
  · rw [Nat.min_eq_left h]
  · rw [Nat.min_eq_right (by omega), List.take_length, List.take_of_length_le (by omega)]
/-- the same data, to a depth -/
def Alike (H : Hp) : Nat → V → V → Prop
  | 0, x, y => Sc x ∧ x = y
  | n + 1, x, y => (Sc x ∧ x = y) ∨ ∃ (a b : Addr) (xs ys : List V), x = .ref a ∧ y = .ref b ∧ ((H a = some (.lst xs) ∧ H b = some (.lst ys)) ∨ (H a = some (.tup xs) ∧ H b = some (.tup ys))) ∧ xs.length = ys.length ∧ xs.length ≤ 100000 ∧ ∀ (i : Nat) (u v : V), xs[i]? = some u → ys[i]? = some v → Alike H n u v
theorem Alike.same {H H' : Hp} (e : Same H H') : ∀ {n : Nat} {x y : V}, Alike H n x y → Alike H' n x y
  | 0, _, _, h => h
  | n + 1, _, _, h => by
    rcases h with h | ⟨a, b, xs, ys, e1, e2, h, hl, h100, hi⟩
    · exact .inl h
    · refine .inr ⟨a, b, xs, ys, e1, e2, ?_, hl, h100, fun i u v h1 h2 => (hi i u v h1 h2).same e⟩
      rcases h with ⟨h1, h2⟩ | ⟨h1, h2⟩
      · exact .inl ⟨e _ _ h1, e _ _ h2⟩
      · exact .inr ⟨e _ _ h1, e _ _ h2⟩
theorem rd_isiL {H : Hp} {Q : VK} {K : PySem.W.Frag} {p : Addr} {xs : List V} {n : String} {b : Bool} (h : H p = some (.lst xs)) (k : kitB "list" n = some b) (q : Q (.bl b) H) : rIsi K [.ref p, .ty n] H Q := rd_isi (.lst h) k q
theorem rd_isiT {H : Hp} {Q : VK} {K : PySem.W.Frag} {p : Addr} {xs : List V} {n : String} {b : Bool} (h : H p = some (.tup xs)) (k : kitB "tuple" n = some b) (q : Q (.bl b) H) : rIsi K [.ref p, .ty n] H Q := rd_isi (.tup h) k q
theorem rd_isiLT {H : Hp} {x : V} {Q : VK} {K : PySem.W.Frag} {tp : Addr} {b : Bool} {a : String} (h : H tp = some (.tup [.ty "list", .ty "tuple"])) (ty : TyOf K H x (.type a)) (k : PySem.W.kitAny K (.type a) [.type "list", .type "tuple"] = some b) (q : Q (.bl b) H) : rIsiT K [x, .ref tp] H Q :=
  ⟨x, tp, _, .type a, _, b, rfl, h, .cons (.ty _) (.cons (.ty _) .nil), .base ty, k, q⟩
theorem ka_list {K : PySem.W.Frag} : PySem.W.kitAny K (.type "list") [.type "list", .type "tuple"] = some true := kitAny_cons (kit_ty kb_list_list) (fun h => by cases h) (fun _ => rfl)
theorem ka_tuple {K : PySem.W.Frag} : PySem.W.kitAny K (.type "tuple") [.type "list", .type "tuple"] = some true := kitAny_cons (kit_ty kb_tuple_list) (fun _ => kitAny_cons (kit_ty kb_tuple_tuple) (fun h => by cases h) (fun _ => rfl)) (fun h => by cases h)
theorem rd_ixQL {K : PySem.W.Frag} {H : Hp} {p : Addr} {xs : List V} {i : Int} {v : V} {Q : VK} (h : H p = some (.lst xs)) (e : atI xs i = some v) (q : Q v H) : rIx K (.ref p) (.int i) H Q := .inl (rd_ixL h e q)
theorem rd_ixQT {K : PySem.W.Frag} {H : Hp} {p : Addr} {xs : List V} {i : Int} {v : V} {Q : VK} (h : H p = some (.tup xs)) (e : atI xs i = some v) (q : Q v H) : rIx K (.ref p) (.int i) H Q := .inr (.inl ⟨p, xs, i, v, rfl, rfl, .inl (.inl h), e, q⟩)
theorem same_ex {S : Sto} {H H' : Hp} (e : Same H H') : ExS S H H' := fun p o _ h => e p o h
theorem same_new {H : Hp} {p : Addr} {o : HO} (h : H p = none) : Same H (upd H p o) := fun b x e => by rw [upd_ne (ne_of_none e h)]; exact e
theorem sz {n : Nat} (h : n ≤ 100000) : n ≤ sizeLine := Nat.le_trans h (by decide)
theorem sl_of {K : PySem.W.Frag} {H : Hp} {a : Addr} {xs : List V} (h : H a = some (.lst xs)) : SqL K H a xs := .inl (.inl h)
theorem st_of {K : PySem.W.Frag} {H : Hp} {a : Addr} {xs : List V} (h : H a = some (.tup xs)) : SqT K H a xs := .inl (.inl h)
section
variable {X : Cx}
def rIsX (K : PySem.W.Frag) (cls : Value) (d : Option Addr) (a : Addr) : List V → Hp → VK → Prop := fun xs H Q => ∃ (D dd : Addr) (fs : List (Str × V)) (c : V) (cv : Value) (b : Bool), cls = .ref D ∧ d = some dd ∧ H dd = some (.xd fs) ∧ ExcC K D ∧ xs = [.ref a, c] ∧ (∀ u, RelV c u → u = cv) ∧ PySem.W.kitOne K (.ref D) cv = some b ∧ Q (.bl b) H
def rIsXT (K : PySem.W.Frag) (cls : Value) (d : Option Addr) (a : Addr) : List V → Hp → VK → Prop := fun xs H Q => ∃ (D dd : Addr) (fs : List (Str × V)) (tp : Addr) (cs : List V) (us : List Value) (b : Bool), cls = .ref D ∧ d = some dd ∧ H dd = some (.xd fs) ∧ ExcC K D ∧ xs = [.ref a, .ref tp] ∧ H tp = some (.tup cs) ∧ Paired ClsV cs us ∧ PySem.W.kitAny K (.ref D) us = some b ∧ Q (.bl b) H
theorem inst_exc {a D dd : Addr} {oe : Obj} {pn pins : List (Addr × Obj)} {s : Shared} {σ : L2.St} {H : Hp} {fs : List (Str × V)} (hz : Zc (.ref D) (some dd) oe) (hf : ∃ vs, oe.data = .fields vs) (I : Inv (X.suite a ((a, oe) :: pn)) pins σ H s) (hd : H dd = some (.xd fs)) :
    ∃ od, PySem.W.InstAt s.heap a oe D (some od) := by
  obtain ⟨hget, _⟩ := I.pin (a, oe) (List.mem_append.mpr (.inl List.mem_cons_self))
  obtain ⟨vs, hv⟩ := hf
  obtain ⟨mA, hns, hr⟩ := (show ObjOk X.prog X.w H s.heap dd (.xd fs) from I.hok dd _ hd)
  obtain ⟨od, ho, hl⟩ := lookIn_ns hns
  exact ⟨od, hget, hz.1, by unfold PySem.W.notCls; rw [hv] <;> rfl, by rw [hz.2]; exact ho⟩
theorem kit_exc {K : PySem.W.Frag} {D a : Addr} {oe : Obj} {od : Option Obj} (C : ExcC K D) : PySem.W.KitX K (.ref a) (.ref D) (fun h => PySem.W.InstAt h a oe D od) :=
  PySem.W.kitx_exc (by obtain ⟨cd, hc, _⟩ := PySem.W.any_some C.hd; rw [hc]; rfl) C.hg C.hk C.hs C.ha C.hn C.ht C.hm
theorem call_isX {K : PySem.W.Frag} {cls : Value} {d : Option Addr} {a : Addr} {oe : Obj} {pn : List (Addr × Obj)} (hK : X.K = K) (hz : Zc cls d oe) (hf : ∃ vs, oe.data = .fields vs) : CallR (X.suite a ((a, oe) :: pn)) (.builtin "isinstance") (rIsX K cls d a) := by
  intro pins s σ H xs us Q I r h
  obtain ⟨D, dd, fs, c, cv, b, rfl, rfl, hd, C, rfl, hcv, e, q⟩ := h
  subst hK
  obtain ⟨u1, u2, rfl, r1, r2⟩ := vals2 r
  obtain rfl : u1 = Value.ref a := r1
  obtain rfl := hcv _ r2
  obtain ⟨od, J⟩ := inst_exc hz hf I hd
  exact PySem.W.kia_one (kit_exc C) I.kIn J e (fun z => nomatch z) fun tk => ⟨.bl b, H, I.kept (t' := tk) fun _ _ z => z, rfl, q⟩
theorem call_isXT {K : PySem.W.Frag} {cls : Value} {d : Option Addr} {a : Addr} {oe : Obj} {pn : List (Addr × Obj)} (hK : X.K = K) (hz : Zc cls d oe) (hf : ∃ vs, oe.data = .fields vs) : CallR (X.suite a ((a, oe) :: pn)) (.builtin "isinstance") (rIsXT K cls d a) := by
  intro pins s σ H xs us Q I r h
  obtain ⟨D, dd, fs, tp, cs, ws, b, rfl, rfl, hd, C, rfl, hT, hp, e, q⟩ := h
  subst hK
  obtain ⟨u1, u2, rfl, r1, r2⟩ := vals2 r
  obtain rfl : u1 = Value.ref a := r1
  cases (show u2 = Value.ref tp from r2)
  obtain ⟨od, J⟩ := inst_exc hz hf I hd
  obtain ⟨_, its, rv, o, h1, h2, n, h3⟩ := (show ObjOk X.prog X.w H s.heap tp (.tup cs) from I.hok tp _ hT)
  have e3 := ClsV.all hp rv
  subst e3
  obtain ⟨oc, ood, dt, sl⟩ := o
  simp only at h2 h3
  subst h2 h3
  exact PySem.W.kia_tup (kit_exc C) I.kIn J h1 e (fun z => nomatch z) fun tk => ⟨.bl b, H, I.kept (t' := tk) fun _ _ z => z, rfl, q⟩
end
def spInit1 (K : PySem.W.Frag) (fld : Str) : Sp := fun vs H Q _ => ∃ (a C : Addr) (v : V), vs = [.ref a, v] ∧ OexC K C ∧ PySem.W.findIn K (.ref C) fld = some none ∧ H a = some (exo a C none) ∧ ∀ dx, H dx = none → dx ≠ a → Q .non (upd (upd H dx (exd dx [(fld, v)])) a (exo a C (some dx)))
theorem same_made {H1 : Hp} {a dx C : Addr} {fs : List (Str × V)} {e0 : HO} (na : H1 a = none) (nd : H1 dx = none) (ne : dx ≠ a) : Same H1 (upd (del (upd (upd (upd H1 a e0) dx (exd dx fs)) a (exo a C (some dx))) a) dx (.xd fs)) := fun b o hb => by
  have h1 := ne_of_none hb na
  have h2 := ne_of_none hb nd
  rw [upd_ne h2, del_ne h1, upd_ne h1, upd_ne h2, upd_ne h1]
  exact hb
/-- C(v)'s reading, from what is asked of the new error -/
theorem rd_mk1 {K : PySem.W.Frag} {C : Addr} {fld : Str} {v : V} {H1 : Hp} {W : XK} (T : OexC K C) (nf : PySem.W.findIn K (.ref C) fld = some none) (h : ∀ d H', H1 d = none → Same H1 H' → H' d = some (.xd [(fld, v)]) → W (.ref C) (some d) H') :
    [v].length ≤ 1000 ∧ ∀ a, H1 a = none → spInit1 K fld (.ref a :: ([v] ++ [])) (upd H1 a (exo a C none))
      (fun v H2 => v = .non ∧ ∃ (d : Addr) (fs : List (Str × V)), H2 a = some (exo a C (some d)) ∧ H2 d = some (exd d fs) ∧ H1 d = none ∧ W (.ref C) (some d) (upd (del H2 a) d (.xd fs))) (fun _ _ _ => False) := by
  refine ⟨by simp, fun a na => ⟨a, C, v, rfl, T, nf, upd_same, fun dx ndx ne => ?_⟩⟩
  have nd : H1 dx = none := by rw [upd_ne ne] at ndx; exact ndx
  exact ⟨rfl, dx, [(fld, v)], upd_same, by rw [upd_ne ne]; exact upd_same, nd, h dx _ nd (same_made na nd ne) upd_same⟩
structure HasI (P : Program) (w : World) (K : PySem.W.Frag) (mg : Str → Option Value) (base : Heap) (C : Addr) (k : Nat) (ps : List Str) (sp : Sp) : Prop where
  ex : ∃ fI fd, FnOk P w K mg base CX0 k fI fd ps sp ∧ PySem.W.findIn K (.ref C) "__init__" = some (some (.ref fI)) ∧ PySem.W.typeIn K (.ref fI) = some (.type "function") ∧ Binds K fd ps []
structure ErrC (K : PySem.W.Frag) (mg : Str → Option Value) (x : Str) (C : Addr) : Prop where
  gC : mg x = some (.ref C)
  ox : OexC K C
  xf : XfC K C
  ec : ExcC K C
  self : PySem.W.exmOne K (.ref C) (.ref C) = some true
/-- raise C(e, ..) -/
theorem ps_raiseC {X : Cx} {x : Str} {C : Addr} {k j : Nat} {ps : List Str} {sp : Sp} {e : Expr} {es : List Expr} {ta : TA} {W : WX} {p pos pos2 : Pos} (hc : X.calm = true) (tk : Takes X W) (E : ErrC X.K X.mg x C) (I : HasI X.prog X.w X.K X.mg X.base C j ps sp) (hr : Room k X.A) (hj : j + 1 ≤ k) (hg : Gl X x) (ha : PA X (e :: es) ta)
    (hdb : (x == ("__debug__" : Str)) = false := by decide) (he : starEach (e :: es) X.env = (false, eval e X.env) :: starEach es X.env := by rfl) (hpl : (backTo pos (starEach es X.env)).any (·.1) = false := by rfl) :
    PS X (.Raise (some (.Call (.Name x p) (e :: es) [] pos)) none pos2) (fun _ σ H => tMkO C sp [] ta σ H fun cls d H' => W cls d σ H') := by
  obtain ⟨fI, fd, F1, iC, tI, hb⟩ := I.ex
  exact ps_raise hc tk (pmk_oex E.ox iC tI F1 (hr.mono hj) hb .nil pass0 hg E.gC ha hdb he hpl)
theorem rd_mkO {C : Addr} {sp : Sp} {ta : TA} {σ : L2.St} {H : Hp} {Q : XK} (h : ta σ H fun vs H1 => vs.length ≤ 1000 ∧ ∀ a, H1 a = none → sp (.ref a :: (vs ++ [])) (upd H1 a (exo a C none))
  (fun v H2 => v = .non ∧ ∃ (d : Addr) (fs : List (Str × V)), H2 a = some (exo a C (some d)) ∧ H2 d = some (exd d fs) ∧ H1 d = none ∧ Q (.ref C) (some d) (upd (del H2 a) d (.xd fs))) (fun _ _ _ => False)) : tMkO C sp [] ta σ H Q := h
theorem rd_ckw {r : List V → List V → Hp → VK → Prop} {t tk : TA} {σ : L2.St} {H : Hp} {Q : VK} (h : t σ H fun vs H1 => tk σ H1 fun zs H2 => r vs zs H2 Q) : tCKw r t tk σ H Q := h
theorem rd_xf {a C : Addr} {cls : Value} {d : Option Addr} {f : Str} {te : TE} {σ : L2.St} {H : Hp} {Q : VK} (h : te σ H fun x H1 => x = .ref a ∧ cls = .ref C ∧ ∃ (dd : Addr) (fs : List (Str × V)) (v : V), d = some dd ∧ H1 dd = some (.xd fs) ∧ fs.lookup f = some v ∧ Q v H1) : tXf a cls d C f te σ H Q := h
theorem rd_iTup {K : PySem.W.Frag} {te : TE} {σ : L2.St} {H : Hp} {R : It → Hp → Prop} (h : te σ H fun x H1 => ∃ a, x = .ref a ∧ (∃ xs, SqT K H1 a xs) ∧ R (Itt K a) H1) : iTup K te σ H R := h
theorem rd_lc {wi : TI} {g : TG} {tt : TT} {te : TE} {vs : List Nat} {σ : L2.St} {H : Hp} {Q : VK} (h : wi σ H fun J H1 => ∀ D, H1 D = none → ∃ W : Nat → Nat → Hp → Prop, (∃ m, W 0 m (upd H1 D (.lst []))) ∧ ∀ i m H, W i m H →
  (J.stop i H ∧ Q (.ref D) H) ∨ (J.go i H ∧ ∃ Nx : Hp → Prop, (∀ H', Nx H' → ∃ m', m' < m ∧ W (i + 1) m' H') ∧ ∀ x H', J.yld i H x H' → g x (wipe σ vs) H' fun σ2 H2 => wipe σ2 vs = wipe σ vs ∧ tt σ2 H2 fun b H3 =>
    if b = true then te σ2 H3 fun y H4 => ∃ acc, H4 D = some (.lst acc) ∧ acc.length < sizeLine ∧ Nx (upd H4 D (.lst (acc ++ [y]))) else Nx H3)) : tLc wi g tt te vs σ H Q := h
structure HasX (P : Program) (w : World) (K : PySem.W.Frag) (mg : Str → Option Value) (base : Heap) (x : Str) (k : Nat) (ps : List Str) (sp : Sp) : Prop where
  ex : ∃ f fd, FnOk P w K mg base (L2.CX P w) k f fd ps sp ∧ mg x = some (.ref f) ∧ PySem.W.keepIn K (.ref f) = true ∧ Binds K fd ps []
theorem HasX.mono {P : Program} {w : World} {K : PySem.W.Frag} {mg : Str → Option Value} {base : Heap} {x : Str} {j k : Nat} {ps : List Str} {sp : Sp} (h : HasX P w K mg base x j ps sp) (l : j ≤ k) : HasX P w K mg base x k ps sp := by
  obtain ⟨f, fd, F, r⟩ := h.ex
  exact ⟨f, fd, F.mono l, r⟩
/-- called with keywords alone: g puts the keywords' values (named ks) in the parameters' order -/
structure HasK (P : Program) (w : World) (K : PySem.W.Frag) (mg : Str → Option Value) (base : Heap) (CX : CXT) (x : Str) (k : Nat) (ps ks : List Str) (g : {α : Type} → List α → List α) (sp : Sp) : Prop where
  ex : ∃ f fd, FnOk P w K mg base CX k f fd ps sp ∧ mg x = some (.ref f) ∧ PySem.W.keepIn K (.ref f) = true ∧ (∀ (s : Shared) (ws : List Value), ws.length = ks.length → BindsTo s fd ⟨[], ks.zip ws⟩ (ps.zip (g ws))) ∧ (∀ (vs : List V) (ws : List Value), vs.length = ks.length → Vals vs ws → Vals (g vs) (g ws))
theorem HasK.mono {P : Program} {w : World} {K : PySem.W.Frag} {mg : Str → Option Value} {base : Heap} {CX : CXT} {x : Str} {j k : Nat} {ps ks : List Str} {g : {α : Type} → List α → List α} {sp : Sp} (h : HasK P w K mg base CX x j ps ks g sp) (l : j ≤ k) : HasK P w K mg base CX x k ps ks g sp := by
  obtain ⟨f, fd, F, r⟩ := h.ex
  exact ⟨f, fd, F.mono l, r⟩
def tCallKS (sp : Sp) (n : Nat) (g : List V → List V) (E : L2.St → XK) (tk : TA) : TE := fun σ H Q => tk σ H fun zs H1 => zs.length = n ∧ sp (g zs) H1 Q (E σ)
section
variable {X : Cx} {x : Str} {k : Nat} {ps ks : List Str} {sp : Sp} {e : Expr} {es : List Expr} {t tk : TA} {p pos : Pos} {W : WX} {kws : List Keyword} {CX : CXT}
/-- a call within a try, or in a def that lets errors out -/
theorem pe_callX (h : HasX X.prog X.w X.K X.mg X.base x k ps sp) (hr : Room k X.A) (hg : Gl X x) (tk : Takes X W) (ha : PA X (e :: es) t)
    (hdb : (x == ("__debug__" : Str)) = false := by decide) (he : starEach (e :: es) X.env = (false, eval e X.env) :: starEach es X.env := by rfl) (hpl : (backTo pos (starEach es X.env)).any (·.1) = false := by rfl) :
    PE X (.Call (.Name x p) (e :: es) [] pos) (tCallS sp (WE W) t) := by
  obtain ⟨f, fd, F, hm, hk, hb⟩ := h.ex
  exact pe_callS F hr hg hm hk hb (fun σ => passAt tk σ) ha hdb he hpl
theorem pass0S : ∀ σ, PassesAt CX0 X σ (fun _ _ _ => False) := fun _ _ _ _ _ _ _ h => h.elim
theorem rd_callS {σ : L2.St} {H : Hp} {E : L2.St → XK} {tA : TA} {Q : VK} (h : tA σ H fun vs H1 => sp vs H1 Q (E σ)) : tCallS sp E tA σ H Q := h
theorem rd_callKS {n : Nat} {g : List V → List V} {σ : L2.St} {H : Hp} {E : L2.St → XK} {tA : TA} {Q : VK} (h : tA σ H fun zs H1 => zs.length = n ∧ sp (g zs) H1 Q (E σ)) : tCallKS sp n g E tA σ H Q := h
end
theorem rd_ss {a b : Str} {R : Str → Str → Prop} (h : R a b) : ∃ i j, V.str a = .str i ∧ V.str b = .str j ∧ R i j := ⟨a, b, rfl, rfl, h⟩
theorem rd_s1 {a : Str} {R : Str → Prop} (h : R a) : ∃ z, [V.str a] = [V.str z] ∧ R z := ⟨a, rfl, h⟩
theorem rd_i1 {a : Int} {R : Int → Prop} (h : R a) : ∃ z, [V.int a] = [V.int z] ∧ R z := ⟨a, rfl, h⟩
theorem rd_ixS {z : Str} {i : Int} {c : Nat} {H : Hp} {Q : VK} (hz : z.length ≤ 100000) (e : atI z.cps.toList i = some c) (q : Q (.str ⟨#[c]⟩) H) : rIxS (.str z) (.int i) H Q := ⟨z, i, c, rfl, rfl, sz hz, e, q⟩
theorem rd_inS {c : Nat} {z : Str} {R : Nat → Str → Prop} (h : R c z) : ∃ (c' : Nat) (z' : Str), V.str ⟨#[c]⟩ = V.str ⟨#[c']⟩ ∧ V.str z = V.str z' ∧ R c' z' := ⟨c, z, rfl, rfl, h⟩
theorem rd_slS {z : Str} {lo hi : Option Int} {H : Hp} {Q : VK} (hz : z.length ≤ 100000) (q : Q (.str (cutS z lo hi)) H) : rSlS (.str z) lo hi H Q := ⟨z, rfl, sz hz, q⟩
theorem atI_nats {l : List Nat} {i : Int} (h0 : 0 ≤ i) (h1 : i < l.length) : ∃ c, c ∈ l ∧ l[i.toNat]? = some c ∧ atI l i = some c := by
  have hb : i.toNat < l.length := by omega
  refine ⟨l[i.toNat], List.getElem_mem hb, by simp [hb], ?_⟩
  unfold atI ixN
  rw [if_pos h0, if_pos h1]
  simp [hb]
theorem len_l (s : Str) : s.cps.toList.length = s.length := Array.length_toList
theorem app_l (a b : Str) : (a ++ b).cps.toList = a.cps.toList ++ b.cps.toList := by rw [Str.cps_append, Array.toList_append]
theorem app_len (a b : Str) : (a ++ b).length = a.length + b.length := by rw [← len_l, app_l, List.length_append, len_l, len_l]
theorem str_ext {a b : Str} (h : a.cps.toList = b.cps.toList) : a = b := PyProof.Rows.ext_toList h
theorem one_len (c : Nat) : (⟨#[c]⟩ : Str).length = 1 := rfl
theorem cutS_len (z : Str) (lo hi : Option Int) : (cutS z lo hi).length ≤ z.length := by
  rw [← len_l, ← len_l]
  show ((z.cps.toList.drop _).take _).toArray.toList.length ≤ _
  rw [List.toList_toArray, List.length_take, List.length_drop]
  omega
theorem cutS_to (z : Str) (k : Nat) : (cutS z none (some (k : Int))).cps.toList = z.cps.toList.take k := by
  show ((z.cps.toList.drop _).take _).toArray.toList = _
  rw [List.toList_toArray, HT.sIx_none, HT.sIx_nat, List.drop_zero, Nat.sub_zero]
  by_cases h : k ≤ z.length
  · rw [Nat.min_eq_left h]
  · rw [Nat.min_eq_right (by omega), ← len_l, List.take_length, List.take_of_length_le (by rw [len_l]; omega)]
def numS (n : Nat) : Str := Str.ofString (toString (n : Int))
theorem numS_l (n : Nat) : (numS n).cps.toList = TL.numL n := TL.tl_num n
theorem numS_inj {m n : Nat} (h : numS m = numS n) : m = n := TL.numL_inj (by rw [← numS_l, ← numS_l, h])
theorem numS_len {n : Nat} (h : n < 100000) : (numS n).length ≤ 5 := by
  rw [← len_l, numS_l]
  exact TL.numL_len (by omega) (by omega)
theorem app_num_inj {s : Str} {m n : Nat} (h : s ++ numS m = s ++ numS n) : m = n := by
  have e := congrArg (fun z : Str => z.cps.toList) h
  simp only [app_l] at e
  exact numS_inj (str_ext (List.append_cancel_left e))
theorem nodup_le {α : Type} [DecidableEq α] : ∀ {xs ys : List α}, xs.Nodup → (∀ x ∈ xs, x ∈ ys) → xs.length ≤ ys.length
  | [], _, _, _ => Nat.zero_le _
  | x :: xs, ys, hn, hs => by
    obtain ⟨h1, h2⟩ := List.nodup_cons.mp hn
    have hx := hs x List.mem_cons_self
    have := nodup_le (ys := ys.erase x) h2 fun z hz => by
      have ne : z ≠ x := fun e => h1 (e ▸ hz)
      exact (List.mem_erase_of_ne ne).mpr (hs z (List.mem_cons_of_mem _ hz))
    rw [List.length_erase_of_mem hx] at this
    have : 0 < ys.length := List.length_pos_of_mem hx
    simp only [List.length_cons]
    omega
def lets : Str := "abcdefghijklmnopqrstuvwxyz"
def letsD : Str := "abcdefghijklmnopqrstuvwxyz0123456789"
def isNmL : List Nat → Bool
  | [] => false
  | c :: l => decide ((c :: l).length ≤ 8) && decide (c ∈ lets.cps.toList) && (c :: l).all fun d => decide (d ∈ letsD.cps.toList)
def isNm (s : Str) : Bool := isNmL s.cps.toList
theorem inV_strs {x : Str} : ∀ {xs : List Str}, inV (.str x) (xs.map V.str) = decide (x ∈ xs)
  | [] => rfl
  | y :: ys => by
    have ih := inV_strs (x := x) (xs := ys)
    unfold inV at ih ⊢
    rw [List.map_cons, List.any_cons, ih]
    show (y == x || decide (x ∈ ys)) = decide (x ∈ y :: ys)
    by_cases h : y = x
    · subst h; simp
    · have h' : x ≠ y := fun e => h e.symm
      simp [h, h']
theorem flat_strs (ns : List Str) : (ns.map V.str).all flatV = true := by
  rw [List.all_map]; exact List.all_eq_true.mpr fun _ _ => rfl
theorem pe_globS {X : Cx} {x : Str} {z : Str} {pos : Pos} (hg : Gl X x) (hm : ∃ t, X.mg x = some (.str z t)) (hd : (x == ("__debug__" : Str)) = false := by decide) : PE X (.Name x pos) (tC (.str z)) := by
  obtain ⟨t, e⟩ := hm
  exact pe_glob hg e ⟨t, rfl⟩ hd
set_option maxHeartbeats 1000000
def tLstRev (K : PySem.W.Frag) (te : TE) : TE := fun σ H Q => te σ H fun v H1 => ∃ (a : Addr) (xs : List V), v = .ref a ∧ SqL K H1 a xs ∧ ∀ q, H1 q = none → Q (.ref q) (upd H1 q (.lst xs.reverse))
section
variable {X : Cx}
theorem rd_lrv {K : PySem.W.Frag} {te : TE} {σ : L2.St} {H : Hp} {Q : VK} (h : te σ H fun v H1 => ∃ (a : Addr) (xs : List V), v = .ref a ∧ SqL K H1 a xs ∧ ∀ q, H1 q = none → Q (.ref q) (upd H1 q (.lst xs.reverse))) : tLstRev K te σ H Q := h
end
theorem lets_digits : lets ++ ("0123456789" : Str) = letsD := by decide +kernel
theorem lets_sub : ∀ c ∈ lets.cps.toList, c ∈ letsD.cps.toList := by decide +kernel
/-- a text of n signs: a letter, then letters and digits -/
def NmP (z : Str) (n : Nat) : Prop := z.length = n ∧ ∃ c l, z.cps.toList = c :: l ∧ c ∈ lets.cps.toList ∧ ∀ d ∈ c :: l, d ∈ letsD.cps.toList
theorem NmP.one {c : Nat} (h : c ∈ lets.cps.toList) : NmP ⟨#[c]⟩ 1 := ⟨rfl, c, [], rfl, h, fun d hd => by rw [List.mem_singleton.mp hd]; exact lets_sub c h⟩
theorem NmP.add {z : Str} {n c : Nat} (h : NmP z n) (hc : c ∈ letsD.cps.toList) : NmP (z ++ ⟨#[c]⟩) (n + 1) := by
  obtain ⟨h1, d, l, e, hd, ha⟩ := h
  refine ⟨by rw [app_len, h1]; rfl, d, l ++ [c], by rw [app_l, e]; rfl, hd, fun x hx => ?_⟩
  have hx' : x ∈ (d :: l) ++ [c] := hx
  rcases List.mem_append.mp hx' with q | q
  · exact ha x q
  · rw [List.mem_singleton.mp q]; exact hc
theorem NmP.nm {z : Str} {n : Nat} (h : NmP z n) (hn : n ≤ 8) : isNm z = true := by
  obtain ⟨h1, c, l, e, hc, ha⟩ := h
  have hl : (c :: l).length ≤ 8 := by rw [← e, len_l, h1]; exact hn
  unfold isNm
  rw [e]
  show (decide ((c :: l).length ≤ 8) && decide (c ∈ lets.cps.toList) && (c :: l).all fun d => decide (d ∈ letsD.cps.toList)) = true
  rw [decide_eq_true hl, decide_eq_true hc, Bool.true_and, Bool.true_and]
  exact List.all_eq_true.mpr fun d hd => decide_eq_true (ha d hd)
theorem isNm_len {z : Str} (h : isNm z = true) : 1 ≤ z.length ∧ z.length ≤ 8 := by
  rw [← len_l]
  unfold isNm at h
  cases e : z.cps.toList with
  | nil => rw [e] at h; cases h
  | cons c l =>
    rw [e] at h
    have h' : (decide ((c :: l).length ≤ 8) && decide (c ∈ lets.cps.toList) && (c :: l).all fun d => decide (d ∈ letsD.cps.toList)) = true := h
    rw [Bool.and_eq_true, Bool.and_eq_true] at h'
    exact ⟨by simp, of_decide_eq_true h'.1.1⟩
theorem rd_iStr {te : TE} {σ : L2.St} {H : Hp} {R : It → Hp → Prop} (h : te σ H fun v H1 => ∃ x, v = .str x ∧ R (Its x) H1) : iStr te σ H R := h
theorem lc_sgn {z : Str} {k : Nat} {tt : TT} {te : TE} {vs : List Nat} {σ : L2.St} {H1 : Hp} {D : Addr} {Qd : Hp → Prop} (Pv : Nat → Hp → Prop) (h0 : Pv 0 (upd H1 D (.lst [])))
    (hs : ∀ i c H, z.cps.toList[i]? = some c → Pv i H → wipe ((wipe σ vs).set k (some (.str ⟨#[c]⟩))) vs = wipe σ vs ∧ tt ((wipe σ vs).set k (some (.str ⟨#[c]⟩))) H fun b H3 =>
      if b = true then te ((wipe σ vs).set k (some (.str ⟨#[c]⟩))) H3 fun y H4 => ∃ acc, H4 D = some (.lst acc) ∧ acc.length < sizeLine ∧ Pv (i + 1) (upd H4 D (.lst (acc ++ [y]))) else Pv (i + 1) H3) (hd : ∀ H, Pv z.length H → Qd H) :
    ∃ W : Nat → Nat → Hp → Prop, (∃ m, W 0 m (upd H1 D (.lst []))) ∧ ∀ i m H, W i m H →
      ((Its z).stop i H ∧ Qd H) ∨ ((Its z).go i H ∧ ∃ Nx : Hp → Prop, (∀ H', Nx H' → ∃ m', m' < m ∧ W (i + 1) m' H') ∧ ∀ x H', (Its z).yld i H x H' → gName k x (wipe σ vs) H' fun σ2 H2 => wipe σ2 vs = wipe σ vs ∧ tt σ2 H2 fun b H3 =>
        if b = true then te σ2 H3 fun y H4 => ∃ acc, H4 D = some (.lst acc) ∧ acc.length < sizeLine ∧ Nx (upd H4 D (.lst (acc ++ [y]))) else Nx H3) := by
  refine lc_it (walk_str (z := z)) Pv h0 (fun _ _ _ _ => trivial) (fun i x H H' hi hp y => ?_) hd
  obtain ⟨rfl, c, hc, rfl⟩ := y
  exact hs i c _ (by rw [Array.getElem?_toList]; exact hc) hp
theorem isNm_of {z : Str} {c : Nat} {l : List Nat} (e : z.cps.toList = c :: l) : isNm z = (decide (z.length ≤ 8) && decide (c ∈ lets.cps.toList) && z.cps.toList.all fun d => decide (d ∈ letsD.cps.toList)) := by
  unfold isNm
  rw [← len_l, e]
  rfl
theorem isNm_zero {z : Str} (h : z.length = 0) : isNm z = false := by
  rw [← len_l] at h
  unfold isNm
  rw [List.eq_nil_of_length_eq_zero h]
  rfl
theorem rd_ii {a : Int} {R : Int → Prop} (h : R a) : ∃ i, V.int a = V.int i ∧ R i := ⟨a, rfl, h⟩
theorem rd_si {a : Str} {R : Str → Prop} (h : R a) : ∃ i, V.str a = V.str i ∧ R i := ⟨a, rfl, h⟩
theorem atI_zero {α : Type} {c : α} {l : List α} : atI (c :: l) 0 = some c := by
  unfold atI ixN
  rw [if_pos (by omega), if_pos (by simp)]
  simp
theorem rd_yes {σ : L2.St} {H : Hp} {QT : Bool → Hp → Prop} (h : QT true H) : tYes σ H QT := h
def okS (n : Nat) (z : Str) : Bool := decide (z.length ≤ n) && z.cps.toList.all fun c => decide (c < 128)
def OkS (n : Nat) (z : Str) : Prop := okS n z = true
instance (n : Nat) (z : Str) : Decidable (OkS n z) := by unfold OkS; exact inferInstance
theorem okS_iff {n : Nat} {z : Str} : OkS n z ↔ z.length ≤ n ∧ ∀ c ∈ z.cps.toList, c < 128 := by
  unfold OkS okS
  rw [Bool.and_eq_true, decide_eq_true_iff, List.all_eq_true]
  exact ⟨fun h => ⟨h.1, fun c hc => of_decide_eq_true (h.2 c hc)⟩, fun h => ⟨h.1, fun c hc => decide_eq_true (h.2 c hc)⟩⟩
theorem OkS.len {n : Nat} {z : Str} (h : OkS n z) : z.length ≤ n := (okS_iff.mp h).1
theorem OkS.mono {m n : Nat} {z : Str} (h : OkS m z) (l : m ≤ n) : OkS n z := okS_iff.mpr ⟨by have := h.len; omega, (okS_iff.mp h).2⟩
theorem OkS.app {a b n : Nat} {x y : Str} (hx : OkS a x) (hy : OkS b y) (l : a + b ≤ n) : OkS n (x ++ y) := by
  refine okS_iff.mpr ⟨?_, fun c hc => ?_⟩
  · have := hx.len; have := hy.len; rw [app_len]; omega
  · rw [app_l] at hc
    exact (List.mem_append.mp hc).elim ((okS_iff.mp hx).2 c) ((okS_iff.mp hy).2 c)
theorem OkS.one {c : Nat} (h : c < 128) : OkS 1 ⟨#[c]⟩ := okS_iff.mpr ⟨Nat.le_refl _, fun d hd => by rw [List.mem_singleton.mp (show d ∈ [c] from hd)]; exact h⟩
theorem letsD_ok : OkS 36 letsD := by decide +kernel
theorem OkS.nm {z : Str} (h : isNm z = true) : OkS 8 z := by
  refine okS_iff.mpr ⟨(isNm_len h).2, fun d hd => ?_⟩
  cases e : z.cps.toList with
  | nil => rw [e] at hd; cases hd
  | cons c l =>
    rw [isNm_of e, Bool.and_eq_true, List.all_eq_true] at h
    exact (okS_iff.mp letsD_ok).2 d (of_decide_eq_true (h.2 d hd))
theorem OkS.num {n : Nat} (h : n < 100000) : OkS 5 (numS n) := by
  refine okS_iff.mpr ⟨numS_len h, fun c hc => ?_⟩
  rw [numS_l] at hc
  by_cases q : c < 48 ∨ 57 < c
  · exact absurd hc (TL.numL_free q)
  · omega
structure HasN (P : Program) (w : World) (K : PySem.W.Frag) (mg : Str → Option Value) (base : Heap) (CX : CXT) (x : Str) (k n : Nat) (ps ks : List Str) (gV : List V → List V → List V) (sp : Sp) : Prop where
  ex : ∃ f fd, FnOk P w K mg base CX k f fd ps sp ∧ mg x = some (.ref f) ∧ PySem.W.keepIn K (.ref f) = true ∧ ∃ g, KBn K fd ps n ks g gV
theorem HasN.mono {P : Program} {w : World} {K : PySem.W.Frag} {mg : Str → Option Value} {base : Heap} {CX : CXT} {x : Str} {j k n : Nat} {ps ks : List Str} {gV : List V → List V → List V} {sp : Sp} (h : HasN P w K mg base CX x j n ps ks gV sp) (l : j ≤ k) : HasN P w K mg base CX x k n ps ks gV sp := by
  obtain ⟨f, fd, F, r⟩ := h.ex
  exact ⟨f, fd, F.mono l, r⟩
structure HasD (P : Program) (w : World) (K : PySem.W.Frag) (mg : Str → Option Value) (base : Heap) (CX : CXT) (x : Str) (k : Nat) (ps : List Str) (dvs : List V) (sp : Sp) : Prop where
  ex : ∃ f fd, FnOk P w K mg base CX k f fd ps sp ∧ mg x = some (.ref f) ∧ PySem.W.keepIn K (.ref f) = true ∧ ∃ ds, Vals dvs ds ∧ Binds K fd ps ds
theorem HasD.mono {P : Program} {w : World} {K : PySem.W.Frag} {mg : Str → Option Value} {base : Heap} {CX : CXT} {x : Str} {j k : Nat} {ps : List Str} {dvs : List V} {sp : Sp} (h : HasD P w K mg base CX x j ps dvs sp) (l : j ≤ k) : HasD P w K mg base CX x k ps dvs sp := by
  obtain ⟨f, fd, F, r⟩ := h.ex
  exact ⟨f, fd, F.mono l, r⟩
def tCallNS (n m : Nat) (sp : Sp) (gV : List V → List V → List V) (E : L2.St → XK) (t tk : TA) : TE := fun σ H Q => t σ H fun vs H1 => tk σ H1 fun zs H2 => vs.length = n ∧ zs.length = m ∧ sp (gV vs zs) H2 Q (E σ)
section
variable {X : Cx} {CX : CXT} {x : Str} {k n : Nat} {ps ks : List Str} {dvs : List V} {gV : List V → List V → List V} {sp : Sp} {E : L2.St → XK} {p pos : Pos} {e : Expr} {es : List Expr} {kws : List Keyword} {t tk : TA}
theorem rd_callNS {m : Nat} {σ : L2.St} {H : Hp} {Q : VK} (h : t σ H fun vs H1 => tk σ H1 fun zs H2 => vs.length = n ∧ zs.length = m ∧ sp (gV vs zs) H2 Q (E σ)) : tCallNS n m sp gV E t tk σ H Q := h
theorem rd_callSD {σ : L2.St} {H : Hp} {Q : VK} (h : t σ H fun vs H1 => sp (vs ++ dvs) H1 Q (E σ)) : tCallSD sp dvs E t σ H Q := h
end
theorem log_ok {n : Nat} (hn : n < 100000) : (n : Int).natAbs.log2 < 1920 := by
  rw [Int.natAbs_natCast]
  by_cases h0 : n = 0
  · subst h0; decide
  · exact Nat.lt_of_lt_of_le ((Nat.log2_lt h0).mpr (by omega : n < 2 ^ 17)) (by decide)
theorem lc_rng {n k : Nat} {tt : TT} {te : TE} {vs : List Nat} {σ : L2.St} {H1 : Hp} {D : Addr} {Qd : Hp → Prop} (Pv : Nat → Hp → Prop) (h0 : Pv 0 (upd H1 D (.lst [])))
    (hs : ∀ i H, i < n → Pv i H → wipe ((wipe σ vs).set k (some (.int i))) vs = wipe σ vs ∧ tt ((wipe σ vs).set k (some (.int i))) H fun b H3 =>
      if b = true then te ((wipe σ vs).set k (some (.int i))) H3 fun y H4 => ∃ acc, H4 D = some (.lst acc) ∧ acc.length < sizeLine ∧ Pv (i + 1) (upd H4 D (.lst (acc ++ [y]))) else Pv (i + 1) H3) (hd : ∀ H, Pv n H → Qd H) :
    ∃ W : Nat → Nat → Hp → Prop, (∃ m, W 0 m (upd H1 D (.lst []))) ∧ ∀ i m H, W i m H →
      ((Itr 0 n).stop i H ∧ Qd H) ∨ ((Itr 0 n).go i H ∧ ∃ Nx : Hp → Prop, (∀ H', Nx H' → ∃ m', m' < m ∧ W (i + 1) m' H') ∧ ∀ x H', (Itr 0 n).yld i H x H' → gName k x (wipe σ vs) H' fun σ2 H2 => wipe σ2 vs = wipe σ vs ∧ tt σ2 H2 fun b H3 =>
        if b = true then te σ2 H3 fun y H4 => ∃ acc, H4 D = some (.lst acc) ∧ acc.length < sizeLine ∧ Nx (upd H4 D (.lst (acc ++ [y]))) else Nx H3) := by
  refine lc_range (lo := 0) Pv h0 (fun i H hi hp => ?_) hd
  have e : (V.int (0 + (i : Int))) = V.int i := by rw [Int.zero_add]
  rw [e]
  exact hs i H hi hp
def KeysAre (kvs : List (Key × V)) (ns : List Str) : Prop := ∀ x : Str, (valV kvs (Sum.inr x)).isSome = decide (x ∈ ns)
theorem KeysAre.put {kvs : List (Key × V)} {ns : List Str} {y : Str} {v : V} (h : KeysAre kvs ns) : KeysAre (putK kvs (Sum.inr y) v) (ns ++ [y]) := fun x => by
  rw [valV_put]
  by_cases e : (Sum.inr x : Key) = Sum.inr y
  · rw [if_pos e]
    have : x = y := Sum.inr.inj e
    subst this
    simp
  · rw [if_neg e, h x]
    have ne : x ≠ y := fun q => e (by rw [q])
    simp [ne]
theorem rd_dnewK {σ : L2.St} {H : Hp} {Q : VK} (h : ∀ p, H p = none → Q (.ref p) (upd H p (.dK []))) : tDNewK σ H Q := h
theorem rd_dput {td ty tv : TE} {D : Ends} {σ : L2.St} {H : Hp} (h : tv σ H fun v H1 => td σ H1 fun x H2 => ty σ H2 fun y H3 => ∃ a H4, x = .ref a ∧ DPut H3 a y v H4 ∧ D.nx σ H4) : sDPut td ty tv D σ H := h
theorem rd_dnotin {td ty : TE} {σ : L2.St} {H : Hp} {Q : VK} (h : ty σ H fun y H1 => td σ H1 fun x H2 => ∃ a o, x = .ref a ∧ DGet H2 a y o ∧ Q (.bl (!o.isSome)) H2) : tDNotIn ty td σ H Q := h
theorem ExS.free {S : Sto} {H H2 : Hp} {u : Addr} (e : ExS S H H2) (hS : StoreOk S H2) (n : H2 u = none) : H u = none := by
  cases q : H u with
  | none => rfl
  | some o => rw [e u o (hS.ne1 n) q] at n; cases n
set_option maxHeartbeats 2000000
abbrev Hnd := Value × Nat × (Addr → Value → Option Addr → TS)
/-- the clauses, one behind the other -/
def wAsM (K : PySem.W.Frag) (Wout : WX) (D : Ends) : List Hnd → WX
  | [] => Wout
  | q :: r => wAs K q.1 q.2.1 q.2.2 (wAsM K Wout D r) D
/-- each clause names its class, its own name's slot and its suite -/
inductive HdsAs (X : Cx) : List ExceptHandler → List Hnd → Prop
  | nil : HdsAs X [] []
  | cons {x n : Str} {c : Value} {i : Nat} {ts : Addr → Value → Option Addr → TS} {b₀ : Stmt} {suite : List Stmt} {np pos' : Pos} {hds : List ExceptHandler} {l : List Hnd} (hi : X.N[i]? = some n) (hln : X.env.kindOf n = some .local) (hc : Names X x c)
      (hsu : ∀ (a : Addr) (oe : Obj) (cls : Value) (d : Option Addr) (pn : List (Addr × Obj)), Zc cls d oe → (∃ vs, oe.data = .fields vs) → PSs (X.suite a ((a, oe) :: pn)) (b₀ :: suite) (ts a cls d)) (r : HdsAs X hds l) :
      HdsAs X (.ExceptHandler (some (.Name x np)) (some n) (b₀ :: suite) pos' :: hds) ((c, i, ts) :: l)
section
variable {X : Cx} {body : List Stmt} {h₀ : ExceptHandler} {hds : List ExceptHandler} {l : List Hnd} {pos : Pos} {tb : WX → TS} {Wout : WX}
theorem ps_try_asM (hs : X.stack = X.env :: X.outer) (hf : X.env.frame = some X.env.locals) (hN : X.N.Nodup) (tk : Takes X Wout)
    (hb : ∀ (W : WX) (pn : List (Addr × Obj)) (xe : Value → Shared → Prop), Takes (X.tr pn xe) W → PassesOwn (model X.prog X.w) X.A X.env xe → PSs (X.tr pn xe) body (tb W))
    (hh : HdsAs X (h₀ :: hds) l) : PS X (.Try body (h₀ :: hds) [] [] pos) (fun D σ H => tb (wAsM X.K Wout D l) D σ H) := by
  refine ⟨fun pins s σ H D I h => ?_⟩
  have ok := I.ok
  have hfr : X.A.frames = some (X.env :: X.outer) := by rw [ok.frames, hs]
  refine wpAny_Try_except ?_
  refine wpAny_mono ((hb (wAsM X.K Wout D l) (X.pn ++ pins) (fun e s₁ => wpAny (model X.prog X.w) X.A (noteFrame e X.env) (fun _ s₂ => wpAny (model X.prog X.w) X.A (setFlight e none) (fun _ s₃ =>
    wpAny (model X.prog X.w) X.A (handleBy e X.env (h₀ :: hds)) (SP X pins D) X.xe s₃) X.xe s₂) X.xe s₁) (fun u s' xx => ?_) PassesOwn.looking).run [] s σ H D (I.toTry _) h) (fun f s1 hsp => ?_) (fun e s1 he => he)
  · obtain ⟨a, B, sI, pins', σ', H', cls, d, rfl, J', nb, up, sky, na, os, ag, w⟩ := xx
    have J : Inv X pins σ' H' sI := J'.ofTry ok
    have sky' : Sky B (X.env :: X.outer) a (Zc cls d) X.env.locals s'.heap := by rw [← hs]; exact sky
    show wpAny (model X.prog X.w) X.A (noteFrame (.ref a) X.env) _ _ _
    refine Sky.land Zc.steady hfr hf sky' fun h3 fl3 up3 => ?_
    have J3 : Inv X pins σ' H' { s' with heap := h3 } := J.landed nb fl3.1 (up.trans up3) os ag
    obtain ⟨oe3, vs3, he3, hz3, hd3⟩ := fl3.there
    have nfr : a ∉ frs (X.env :: X.outer) := fun hm => by
      obtain ⟨_, o', e', hnf⟩ := fl3.2.2.1.mem hm
      rw [he3] at e'; cases e'
      exact hnf _ hd3
    have nL : a ≠ X.env.locals := fun z => nfr (List.mem_filterMap.mpr ⟨X.env, List.mem_cons_self, by rw [hf, z]⟩)
    have nF : a ∉ X.fs := fun hm => by
      obtain ⟨e, he, q⟩ := List.mem_filterMap.mp hm
      exact nfr (List.mem_filterMap.mpr ⟨e, List.mem_cons_of_mem _ he, q⟩)
    have S3 := J3.suite he3 hd3 na nL nF
    have go : ∀ {hds' : List ExceptHandler} {l' : List Hnd}, HdsAs X hds' l' → wAsM X.K Wout D l' cls d σ' H' → wpAny (model X.prog X.w) X.A (handleBy (.ref a) X.env hds') (SP X pins D) X.xe { s' with heap := h3 } := by
      intro hds' l' hk
      induction hk with
      | nil =>
        intro w
        refine wpAny_handleBy_nil ?_
        obtain ⟨k1, k2, k3, oe, vs, T, oT, ts', he, hz, hd, h1, hr⟩ := id fl3
        unfold PySem.passOn
        refine wpAny_bind (wpAny_field he hd h1 ?_)
        rw [if_neg (show ¬ ((Value.ref T == Value.none) = true) from by simp)]
        have fin : wpAny (model X.prog X.w) X.A (setFlight (.ref a) X.env.frame) (fun _ s4 => wpAny (model X.prog X.w) X.A (throw (.ref a) : Sem Flow) (SP X pins D) X.xe s4) X.xe { s' with heap := h3 } := by
          rw [hf]
          refine HandSPX.setFlight_upZ fl3 fun h4 hh4 up4 => wpAny_throw (tk _ _ ?_)
          exact ⟨a, B, sI, pins, σ', H', cls, d, rfl, J, nb, (up.trans up3).trans up4, .inr (.inr (by rw [hs]; exact hh4)), na, os, ag, w⟩
        first
          | exact wpAny_bind (wpAny_pure (wpAny_bind fin))
          | exact wpAny_bind fin
      | @cons x n c i ts b₀ suite np pos' hds2 l2 hi hln hc hsu r ih =>
        intro w
        obtain ⟨b, hb1, hyes, hno⟩ := w
        refine wpAny_handleBy_cons (codeAny_handlers_test ?_) (by intro q; cases q)
        have LT : PySem.W.Looks (model X.prog X.w) h3 (typeOf (.ref a)) cls := fun A Q E s k q => wpAny_typeOf_ref (k _ _ he3) (by rw [hz3.1]; exact q)
        have LM := PySem.W.exm_one (M := model X.prog X.w) (J3.kIn) LT hb1
        have test : ∀ {Q : Value → Shared → Prop} {E : Value → Shared → Prop}, Q c { s' with heap := h3 } → wpAny (model X.prog X.w) (X.A.mark (some (.ref a))) (eval (.Name x np) X.env) Q E { s' with heap := h3 } := fun {Q E} q => by
          obtain ⟨hg, hdbg, hm | ⟨hm, hv, hnn⟩⟩ := hc
          · exact ld_glob (X := X.suite a ((a, oe3) :: (X.pn ++ pins))) S3 hg hm q hdbg
          · exact ld_blt (X := X.suite a ((a, oe3) :: (X.pn ++ pins))) S3 hg hm hv q hnn hdbg
        refine test (LM.here ?_)
        cases b with
        | true =>
          refine codeAny_handlers_suite_as ?_
          refine HandSPX.lands_againZ fl3 fun h4 fl4 up4 => ?_
          have J4 : Inv X pins σ' H' { s' with heap := h4 } := J.landed nb fl4.1 ((up.trans up3).trans up4) os ag
          obtain ⟨oe4, vs4, he4, hz4, hd4⟩ := fl4.there
          have S4 := J4.suite he4 hd4 na nL nF
          have hloc : Loc X.env.scope n := .inl hln
          refine store_ok (X := X.suite a ((a, oe4) :: (X.pn ++ pins))) (v := .ref a) S4 hN hi hloc rfl (fun s5 S5 => ?_) (.inr hln)
          refine wpAny_mono ((hsu a oe4 cls d (X.pn ++ pins) hz4 ⟨_, hd4⟩).run [] s5 _ H' _ S5 (hyes rfl a na)) (fun f s6 hsp => ?_) (fun _ _ z => False.elim z)
          have end_ : ∀ {σ6 : L2.St} {H6 : Hp} {Q : Shared → Prop}, Inv (X.suite a ((a, oe4) :: (X.pn ++ pins))) [] σ6 H6 s6 → (∀ s7, Inv X pins (σ6.set i none) H6 s7 → Q s7) →
              wpAny (model X.prog X.w) X.A (do bindName X.env n .none; unbindBehindTheSuite X.env n pos') (fun _ s7 => Q s7) X.xe s6 := fun {σ6 H6 Q} S6 hq => gone_ok (S6.unsuite ok) hN hi hln hq
          cases f with
          | next =>
            obtain ⟨σ6, H6, S6, q6⟩ := hsp
            exact end_ S6 fun s7 J7 => ⟨_, _, J7, q6⟩
          | brk =>
            obtain ⟨σ6, H6, S6, q6⟩ := hsp
            exact end_ S6 fun s7 J7 => ⟨_, _, J7, q6⟩
          | cont =>
            obtain ⟨σ6, H6, S6, q6⟩ := hsp
            exact end_ S6 fun s7 J7 => ⟨_, _, J7, q6⟩
          | ret u =>
            obtain ⟨v6, σ6, H6, S6, r6, q6⟩ := hsp
            exact end_ S6 fun s7 J7 => ⟨_, _, _, J7, r6, q6⟩
        | false =>
          show wpAny _ X.A (handleBy (.ref a) X.env hds2) _ _ _
          exact ih (hno rfl)
    exact go hh w
  · cases f with
    | next =>
      obtain ⟨σ', H', J', q⟩ := hsp
      exact wpAny_execs_nil ⟨σ', H', J'.ofTry ok, q⟩
    | brk =>
      obtain ⟨σ', H', J', q⟩ := hsp
      exact ⟨σ', H', J'.ofTry ok, q⟩
    | cont =>
      obtain ⟨σ', H', J', q⟩ := hsp
      exact ⟨σ', H', J'.ofTry ok, q⟩
    | ret u =>
      obtain ⟨v, σ', H', J', r, q⟩ := hsp
      exact ⟨v, σ', H', J'.ofTry ok, r, q⟩
end
set_option maxHeartbeats 1000000
structure HasM (P : Program) (w : World) (K : PySem.W.Frag) (mg : Str → Option Value) (base : Heap) (CX : CXT) (C : Addr) (x : Str) (k : Nat) (ps : List Str) (sp : Sp) : Prop where
  ex : ∃ f fd, FnOk P w K mg base CX k f fd ps sp ∧ PySem.W.findIn K (.ref C) x = some (some (.ref f)) ∧ PySem.W.isFn K (.ref f) = true ∧ Binds K fd ps []
theorem HasM.mono {P : Program} {w : World} {K : PySem.W.Frag} {mg : Str → Option Value} {base : Heap} {CX : CXT} {C : Addr} {x : Str} {j k : Nat} {ps : List Str} {sp : Sp} (h : HasM P w K mg base CX C x j ps sp) (l : j ≤ k) : HasM P w K mg base CX C x k ps sp := by
  obtain ⟨f, fd, F, r⟩ := h.ex
  exact ⟨f, fd, F.mono l, r⟩
def rInM (C : Addr) (sp : Sp) (E : XK) (neg : Bool) : R2 := fun x y H Q => ∃ a dx fs, y = .ref a ∧ H a = some (.ins C dx fs) ∧ sp [.ref a, x] H (fun v H' => ∃ b, v = .bl b ∧ Q (.bl (if neg then !b else b)) H') E
section
variable {X : Cx} {CX : CXT} {C : Addr} {k : Nat} {ps : List Str} {sp : Sp} {E : XK} {nm : Str}
theorem op_inM (h : HasM X.prog X.w X.K X.mg X.base CX C "__contains__" k ps sp) (hr : Room k X.A) (hx : Passes CX X E) : OpR X (compareOp .In) (rInM C sp E false) := by
  intro pins s σ H x y v u Q I rx ry q
  obtain ⟨f, fd, F, hs, hf, hb⟩ := h.ex
  obtain ⟨a, dx, fs, rfl, ha, q⟩ := q
  cases ry
  obtain ⟨mA, J, _⟩ := ins_get I.hok ha
  obtain ⟨od, J, _⟩ := J.look
  obtain ⟨m, hF⟩ := I.fr
  refine PySem.W.in_K hF I.ok.mod.kin J hs hf (wpAny_mono (run_fn (vs := [.ref a, x]) F hr hb .nil hx I (.cons rfl (.cons rx .nil)) (by rw [List.append_nil]; exact q)) (fun r s' z => ?_) fun _ _ z => z)
  obtain ⟨z, H', I', rz, b, rfl, q'⟩ := z
  cases rz
  exact wpAny_truthy_bool ⟨.bl b, H', I', rfl, q'⟩
theorem op_notInM (h : HasM X.prog X.w X.K X.mg X.base CX C "__contains__" k ps sp) (hr : Room k X.A) (hx : Passes CX X E) : OpR X (compareOp .NotIn) (rInM C sp E true) := by
  intro pins s σ H x y v u Q I rx ry q
  obtain ⟨f, fd, F, hs, hf, hb⟩ := h.ex
  obtain ⟨a, dx, fs, rfl, ha, q⟩ := q
  cases ry
  obtain ⟨mA, J, _⟩ := ins_get I.hok ha
  obtain ⟨od, J, _⟩ := J.look
  obtain ⟨m, hF⟩ := I.fr
  refine PySem.W.notIn_K hF I.ok.mod.kin J hs hf (wpAny_mono (run_fn (vs := [.ref a, x]) F hr hb .nil hx I (.cons rfl (.cons rx .nil)) (by rw [List.append_nil]; exact q)) (fun r s' z => ?_) fun _ _ z => z)
  obtain ⟨z, H', I', rz, b, rfl, q'⟩ := z
  cases rz
  exact wpAny_truthy_bool ⟨.bl (!b), H', I', rfl, q'⟩
end
def spInit2 (K : PySem.W.Frag) (f g : Str) : Sp := fun vs H Q _ => ∃ (a C : Addr) (u v : V), vs = [.ref a, u, v] ∧ OexC K C ∧ PySem.W.findIn K (.ref C) f = some none ∧ PySem.W.findIn K (.ref C) g = some none ∧ H a = some (exo a C none) ∧
  ∀ dx, H dx = none → dx ≠ a → Q .non (upd (upd (upd H dx (exd dx [(f, u)])) a (exo a C (some dx))) dx (exd dx [(g, v), (f, u)]))
theorem rd_mk2 {K : PySem.W.Frag} {C : Addr} {f g : Str} {u v : V} {H1 : Hp} {W : XK} (T : OexC K C) (nf : PySem.W.findIn K (.ref C) f = some none) (ng : PySem.W.findIn K (.ref C) g = some none) (h : ∀ d H', H1 d = none → Same H1 H' → H' d = some (.xd [(g, v), (f, u)]) → W (.ref C) (some d) H') :
    [u, v].length ≤ 1000 ∧ ∀ a, H1 a = none → spInit2 K f g (.ref a :: ([u, v] ++ [])) (upd H1 a (exo a C none))
      (fun v H2 => v = .non ∧ ∃ (d : Addr) (fs : List (Str × V)), H2 a = some (exo a C (some d)) ∧ H2 d = some (exd d fs) ∧ H1 d = none ∧ W (.ref C) (some d) (upd (del H2 a) d (.xd fs))) (fun _ _ _ => False) := by
  refine ⟨by simp, fun a na => ⟨a, C, u, v, rfl, T, nf, ng, upd_same, fun dx ndx ne => ?_⟩⟩
  have nd : H1 dx = none := by rw [upd_ne ne] at ndx; exact ndx
  refine ⟨rfl, dx, [(g, v), (f, u)], by rw [upd_ne ne.symm]; exact upd_same, upd_same, nd, h dx _ nd (fun b o hb => ?_) upd_same⟩
  have h1 := ne_of_none hb na
  have h2 := ne_of_none hb nd
  rw [upd_ne h2, del_ne h1, upd_ne h2, upd_ne h1, upd_ne h2, upd_ne h1]
  exact hb
theorem rd_fld {K : PySem.W.Frag} {te : TE} {f : Str} {σ : L2.St} {H : Hp} {Q : VK} (h : te σ H fun x H1 => ∃ a C dx fs v, x = .ref a ∧ H1 a = some (.ins C dx fs) ∧ Cls K C ∧ NoAttr K C f ∧ fs.lookup f = some v ∧ Q v H1) : tFld K te f σ H Q := h
theorem rd_sfld {K : PySem.W.Frag} {ta tv : TE} {f : Str} {D : Ends} {σ : L2.St} {H : Hp} (h : tv σ H fun y H1 => ta σ H1 fun x H2 => ∃ a C dx fs, x = .ref a ∧ H2 a = some (.ins C dx fs) ∧ Cls K C ∧ NoAttr K C f ∧ fs.length < 1000 ∧ D.nx σ (upd H2 a (.ins C dx (putF f y fs)))) : sFld K ta tv f D σ H := h
theorem passF {X : Cx} (tk : Takes X fun _ _ _ _ => False) : Passes (L2.CX X.prog X.w) X (fun _ _ _ => False) := fun pins σ H s e s' I c => passAt tk σ pins H s e s' I c
theorem rd_make {C : Addr} {sp : Sp} {dvs : List V} {E : XK} {t : TA} {σ : L2.St} {H : Hp} {Q : VK} (h : t σ H fun vs H1 => ∀ x dx, H1 x = none → H1 dx = none → dx ≠ x → sp (.ref x :: (vs ++ dvs)) (upd (upd H1 dx (.own x)) x (.ins C dx [])) (fun v H2 => v = .non ∧ Q (.ref x) H2) E) : tMake C sp dvs E t σ H Q := h
set_option maxHeartbeats 1000000
inductive EqK (K : PySem.W.Frag) (C : Addr) (H : Hp) : V → Prop where
  | ins {b dy : Addr} {gs : List (Str × V)} (e : H b = some (.ins C dy gs)) : EqK K C H (.ref b)
  | int (i : Int) : EqK K C H (.int i)
  | str (z : Str) : EqK K C H (.str z)
  | tup {b : Addr} {xs : List V} (e : H b = some (.tup xs)) : EqK K C H (.ref b)
theorem nf_int {K : PySem.W.Frag} {C : Addr} : PySem.W.notFirst K C (.type "int") = true := by
  have e : PySem.W.subIn K (.type "int") (.ref C) = some false := by
    show (fastBuiltinMro "int").map (fun l => l.contains (.ref C)) = some false
    rw [show fastBuiltinMro "int" = some [.type "int", .type "object"] from by decide +kernel]
    simp
  simp [PySem.W.notFirst, e]
theorem nf_str {K : PySem.W.Frag} {C : Addr} : PySem.W.notFirst K C (.type "str") = true := by
  have e : PySem.W.subIn K (.type "str") (.ref C) = some false := by
    show (fastBuiltinMro "str").map (fun l => l.contains (.ref C)) = some false
    rw [show fastBuiltinMro "str" = some [.type "str", .type "object"] from by decide +kernel]
    simp
  simp [PySem.W.notFirst, e]
theorem nf_tuple {K : PySem.W.Frag} {C : Addr} : PySem.W.notFirst K C (.type "tuple") = true := by
  have e : PySem.W.subIn K (.type "tuple") (.ref C) = some false := by
    show (fastBuiltinMro "tuple").map (fun l => l.contains (.ref C)) = some false
    rw [show fastBuiltinMro "tuple" = some [.type "tuple", .type "object"] from by decide +kernel]
    simp
  simp [PySem.W.notFirst, e]
def rEqM (K : PySem.W.Frag) (C : Addr) (sp : Sp) (E : XK) : R2 := fun x y H Q => ∃ a dx fs, x = .ref a ∧ H a = some (.ins C dx fs) ∧ EqK K C H y ∧ sp [.ref a, y] H (fun v H' => ∃ b, v = .bl b ∧ Q (.bl b) H') E
theorem op_eqM {X : Cx} {CX : CXT} {C : Addr} {k : Nat} {ps : List Str} {sp : Sp} {E : XK} (h : HasM X.prog X.w X.K X.mg X.base CX C "__eq__" k ps sp) (hr : Room k X.A) (hx : Passes CX X E) : OpR X (compareOp .Eq) (rEqM X.K C sp E) := by
  intro pins s σ H x y v u Q I rx ry q
  obtain ⟨f, fd, F, hs, hf, hb⟩ := h.ex
  obtain ⟨a, dx, fs, rfl, ha, hy, q⟩ := q
  cases rx
  obtain ⟨mA, J, _⟩ := ins_get I.hok ha
  obtain ⟨od, J, _⟩ := J.look
  obtain ⟨m, hF⟩ := I.fr
  have go : ∀ tb, PySem.W.Looks (model X.prog X.w) s.heap (typeOf u) tb → PySem.W.notFirst X.K C tb = true → wpAny (model X.prog X.w) X.A (compareOp .Eq (.ref a) u) (EP X pins σ Q) X.xe s := fun tb hl hn => by
    refine PySem.W.cmp_K (op := .Eq) (tb := tb) hr.units0 hF I.ok.mod.kin J hl hn hs hf (wpAny_mono (run_fn (vs := [.ref a, y]) F hr hb .nil hx I (.cons rfl (.cons ry .nil)) (by rw [List.append_nil]; exact q)) (fun r s' z => ?_) fun _ _ z => z)
    obtain ⟨z, H', I', rz, b, rfl, q'⟩ := z
    cases rz
    exact ⟨.bl b, H', I', rfl, q'⟩
  cases hy with
  | ins e =>
    cases ry
    obtain ⟨mB, J', _⟩ := ins_get I.hok e
    obtain ⟨od', J', _⟩ := J'.look
    exact go _ J'.type (by simp [PySem.W.notFirst])
  | int i =>
    obtain ⟨t, rfl⟩ := ry
    exact go (.type "int") (PySem.W.Looks.of_pure rfl) nf_int
  | str z =>
    obtain ⟨t, rfl⟩ := ry
    exact go (.type "str") (PySem.W.Looks.of_pure rfl) nf_str
  | tup e =>
    cases ry
    obtain ⟨_, its, _, o, ho, hc, _⟩ := (show ObjOk X.prog X.w H s.heap _ (.tup _) from I.hok _ _ e)
    exact go (.type "tuple") (hc ▸ (PySem.W.Looks.ld ho).andThen .now) nf_tuple
set_option maxHeartbeats 1000000
def tMakeS (C : Addr) (sp : Sp) (dvs : List V) (E : L2.St → XK) (t : TA) : TE := fun σ H Q => t σ H fun vs H1 => ∀ x dx, H1 x = none → H1 dx = none → dx ≠ x →
  sp (.ref x :: (vs ++ dvs)) (upd (upd H1 dx (.own x)) x (.ins C dx [])) (fun v H2 => v = .non ∧ Q (.ref x) H2) (E σ)
section
variable {X : Cx} {CX : CXT} {C f : Addr} {fd : FuncData} {x : Str} {k : Nat} {ps : List Str} {ds : List Value} {dvs : List V} {sp : Sp} {E : L2.St → XK} {p pos : Pos} {e : Expr} {es : List Expr} {t : TA}
theorem pe_makeS (M : Mk X.K C f) (F : FnOk X.prog X.w X.K X.mg X.base CX k f fd ps sp) (hr : Room (k + 1) X.A) (hg : Gl X x) (hm : X.mg x = some (.ref C)) (hb : Binds X.K fd ps ds) (hd : Vals dvs ds) (hx : ∀ σ, PassesAt CX X σ (E σ)) (ha : PA X (e :: es) t)
    (hdb : (x == ("__debug__" : Str)) = false := by decide) (he : starEach (e :: es) X.env = (false, eval e X.env) :: starEach es X.env := by rfl) (hpl : (backTo pos (starEach es X.env)).any (·.1) = false := by rfl) :
    PE X (.Call (.Name x p) (e :: es) [] pos) (tMakeS C sp dvs E t) := by
  refine ⟨fun pins s σ H Q I h => ?_⟩
  refine wpAny_Call_Name_kw (ld_glob I hg hm ?_ hdb)
  refine PySem.W.callWith_K (h₀ := X.base) I.ok.mod.kin M.kp (thn (ha.run pos pins s σ H _ I h) fun us s1 ⟨vs, H1, I1, r, q⟩ => ⟨I1.kIn, ?_⟩) he hpl
  have hq := q (s1.heap.objs.size + 1) s1.heap.objs.size (I1.hok.fresh (Nat.le_succ _)) (I1.hok.fresh (Nat.le_refl _)) (Nat.ne_of_lt (Nat.lt_succ_self _))
  have I2 := Inv.made (C := C) I1
  have r2 : Vals (V.ref (s1.heap.objs.size + 1) :: (vs ++ dvs)) (Value.ref (s1.heap.objs.size + 1) :: (us ++ ds)) := .cons rfl (r.append hd)
  have hl : (Value.ref (s1.heap.objs.size + 1) :: us ++ ds).length = ps.length := by
    have e := r2.length
    rw [F.len _ _ _ _ hq] at e
    exact e.symm
  refine wpAny_call (make_map (f := f) I1.kIn M.makes M.init (beq_iff_eq.mp M.fn) (codeAny_mono (F.run _ X.stack _ _ ⟨Value.ref (s1.heap.objs.size + 1) :: us, []⟩ (Value.ref (s1.heap.objs.size + 1) :: (us ++ ds)) _ _ (E σ) (hr.make C us [])
    (I2.env0.make C us []) (hb _ (Value.ref (s1.heap.objs.size + 1) :: us) I2.kIn hl) r2 hq) fun r s' hq' => ?_))
  cases r with
  | error e => exact hx σ pins _ _ e s' I2 hq'
  | ok fl =>
    cases fl with
    | ret u =>
      obtain ⟨v, H', I3, rv, ev, q3⟩ := I2.after hq'
      subst ev
      exact ⟨rv, ⟨V.ref (s1.heap.objs.size + 1), H', I3, rfl, q3⟩⟩
    | next => exact False.elim hq'
    | brk => exact False.elim hq'
    | cont => exact False.elim hq'
theorem rd_makeS {σ : L2.St} {H : Hp} {Q : VK} (h : t σ H fun vs H1 => ∀ x dx, H1 x = none → H1 dx = none → dx ≠ x → sp (.ref x :: (vs ++ dvs)) (upd (upd H1 dx (.own x)) x (.ins C dx [])) (fun v H2 => v = .non ∧ Q (.ref x) H2) (E σ)) : tMakeS C sp dvs E t σ H Q := h
end
set_option maxHeartbeats 1000000
section
variable {X : Cx} {CX : CXT} {C f g q : Addr} {fd : FuncData} {x : Str} {k i : Nat} {ps ks : List Str} {ds : List Value} {dvs : List V} {sp : Sp} {E : L2.St → XK} {p pos apos : Pos} {e o : Expr} {es : List Expr} {kws : List Keyword} {t tk : TA} {ta : TE} {m : Str} {mc : Value} {pl : Sem Bool}
/-- a call that is bound already -/
theorem code_fnS {pins : List (Addr × Obj)} {σ : L2.St} {H : Hp} {s : Shared} {Q : VK} {us ws : List Value} {kw : List (Str × Value)} {vs : List V} {E : XK} (F : FnOk X.prog X.w X.K X.mg X.base CX k f fd ps sp) (hr : Room k X.A) (hb : BindsTo s fd ⟨us, kw⟩ (ps.zip ws)) (hx : PassesAt CX X σ E)
    (I : Inv X pins σ H s) (r : Vals vs ws) (h : sp vs H Q E) : codeAny (model X.prog X.w) X.A (.call (.ref f) ⟨us, kw⟩) (fun r s' => match r with | .ok (.ret v) => EP X pins σ Q v s' | .ok _ => False | .error e => X.xe e s') s := by
  refine codeAny_mono (F.run X.A X.stack s H ⟨us, kw⟩ ws vs Q E hr I.env0 hb r h) fun r s' hq => ?_
  cases r with
  | error e => exact hx pins H s e s' I hq
  | ok fl =>
    cases fl with
    | ret u => exact I.after hq
    | next => exact False.elim hq
    | brk => exact False.elim hq
    | cont => exact False.elim hq
end
set_option maxHeartbeats 1000000
theorem ok_there {P : Program} {w : World} {H : Hp} {h : Heap} {a : Addr} {o : HO} (x : ObjOk P w H h a o) : ∃ u, h.get? a = some u := by
  cases o with
  | lst xs => obtain ⟨_, _, _, _, e⟩ := x; exact ⟨_, e⟩
  | tup xs => obtain ⟨_, _, _, ob, e, _⟩ := x; exact ⟨_, e⟩
  | dK kvs => obtain ⟨_, _, _, _, o, _, _, e, _⟩ := x; exact ⟨_, e⟩
  | dT kvs => obtain ⟨_, _, _, _, o, _, _, e, _⟩ := x; exact ⟨_, e⟩
  | set S n => obtain ⟨o, _, _, _, e, _⟩ := x; exact ⟨_, e⟩
  | ins C dx fs => obtain ⟨_, _, _, e, _⟩ := x; exact ⟨_, e⟩
  | own y => obtain ⟨_, e⟩ := x; exact ⟨_, e⟩
  | xd fs => obtain ⟨_, ⟨_, _, _, e, _⟩, _⟩ := x; exact ⟨_, e⟩
  | rng lo hi => obtain ⟨_, _, _, e⟩ := x; exact ⟨_, e⟩
  | frz ob u => obtain ⟨e, _⟩ := x; exact ⟨_, e⟩
  | tbl ps => exact ⟨_, (show h.get? a = some _ from x)⟩
  | met f y => exact ⟨_, (show h.get? a = some _ from x)⟩
  | ext φ => obtain ⟨_, ⟨_, e⟩, _⟩ := x; exact ⟨_, e⟩
def ltS (a b : Str) : Prop := a.cps.toList < b.cps.toList
instance (a b : Str) : Decidable (ltS a b) := by unfold ltS; exact inferInstance
theorem ltS_asymm {a b : Str} (h1 : ltS a b) : ¬ ltS b a := fun h2 => List.lt_irrefl _ (List.lt_trans h1 h2)
theorem ltS_tri {a b : Str} (h1 : ¬ ltS a b) (h2 : ¬ ltS b a) : a = b := str_ext (List.le_antisymm (List.not_lt.mp h2) (List.not_lt.mp h1))
def sv : Value → Str
  | .str x _ => x
  | _ => Str.empty
def ltSv (v u : Value) : Bool := decide (ltS (sv v) (sv u))
theorem swo_str : SrtO.Swo ltSv := by
  refine ⟨fun x y h => ?_, fun x y z h1 h2 => ?_⟩
  · exact decide_eq_false (ltS_asymm (of_decide_eq_true h))
  · have a := of_decide_eq_false h1
    have b := of_decide_eq_false h2
    refine decide_eq_false fun c => ?_
    exact List.not_le.mpr c (List.le_trans (List.not_lt.mp a) (List.not_lt.mp b))
theorem strs_mem : ∀ {vs : List Value} {ns : List Str}, StrsAre vs ns → ∀ v ∈ vs, ∃ i t, v = Value.str i t
  | _, _, .nil, v, h => absurd h (by simp)
  | _, _, .cons n t r, v, h => by
    rcases List.mem_cons.mp h with e | h
    · exact ⟨n, t, e⟩
    · exact strs_mem r v h
theorem strs_sv : ∀ {vs : List Value}, (∀ v ∈ vs, ∃ i t, v = Value.str i t) → StrsAre vs (vs.map sv)
  | [], _ => .nil
  | v :: vs, h => by
    obtain ⟨i, t, e⟩ := h v List.mem_cons_self
    subst e
    exact .cons i t (strs_sv fun u hu => h u (List.mem_cons_of_mem _ hu))
theorem sv_strs : ∀ {vs : List Value} {ns : List Str}, StrsAre vs ns → vs.map sv = ns
  | _, _, .nil => rfl
  | _, _, .cons n t r => congrArg (n :: ·) (sv_strs r)
section
variable {prog : Program} {w : World} {A : Around} {s : Shared}
theorem str_cmp {vs : List Value} {ns : List Str} (hI : StrsAre vs ns) : SrtO.Cmp prog w A s oneType' (fun p => p.1 ∈ vs) (SrtO.lt2 ltSv) := by
  intro p q hm hm'
  obtain ⟨a, t, e⟩ := strs_mem hI _ hm
  obtain ⟨b, u, e'⟩ := strs_mem hI _ hm'
  show wpAny (model prog w) A (keyLt' oneType' p.1 q.1) (fun r s' => s' = s ∧ r = ltSv p.1 q.1) (fun _ _ => False) s
  rw [e, e', keyLt'_oneType]
  exact oneLt_str ⟨rfl, rfl⟩
theorem strs_sortable {a : Addr} {vs : List Value} {ns : List Str} (hI : StrsAre vs ns) (h2 : 2 ≤ vs.length) : SrtO.SortableO prog w A s a vs ltSv := by
  intro h' _
  refine ⟨oneType', fun Q E hq => ?_, str_cmp hI⟩
  match vs, hI, h2 with
  | v1 :: v2 :: rest, hI, _ =>
    rw [keyKind_strs hI]
    exact wpAny_pure hq
  | [], _, h => exact absurd h (by decide)
  | [v], _, h => exact absurd h (by simp)
theorem strs_out {vs out : List Value} {ns : List Str} (hI : StrsAre vs ns) (hs : SrtO.Srtd ltSv out) (hb : SrtO.Stb ltSv out vs) : StrsAre out (out.map sv) ∧ (out.map sv).Perm ns ∧ (out.map sv).Pairwise (fun x y => ¬ ltS y x) := by
  refine ⟨strs_sv fun v hv => strs_mem hI v (hb.perm.mem_iff.mp hv), ?_, ?_⟩
  · have q := hb.perm.map sv
    rw [sv_strs hI] at q
    exact q
  · exact List.pairwise_map.mpr (hs.imp fun {x y} h => of_decide_eq_false h)
end
def rSortedX (K : PySem.W.Frag) : List V → Hp → VK → Prop := fun vs H Q => ∃ (a : Addr) (ns : List Str), vs = [V.ref a] ∧ (SqL K H a (ns.map V.str) ∨ SqT K H a (ns.map V.str)) ∧
  ∀ (ys : List Str) (p : Addr), ys.Perm ns → ys.Pairwise (fun x y => ¬ ltS y x) → H p = none → Q (.ref p) (upd H p (.lst (ys.map V.str)))
section
open SrtO
variable {prog : Program} {w : World} {A : Around} {E : Value → Shared → Prop} {s : Shared}
theorem sorted_seq {it : Addr} {T : String} {o : Obj} {vs : List Value} {n : Nat} {ltv : Value → Value → Bool} {Q : Value → Shared → Prop} (O : Swo ltv) (hT : T = "list" ∨ T = "tuple") (ho : s.heap.get? it = some o) (hc : o.cls = .type T) (hd : o.data = .seq vs.toArray n) (hz : vs.length ≤ sizeLine)
    (hS : 2 ≤ vs.length → ∀ (h₁ : Heap) (a : Addr), SortableO prog w A.in1.in1 { s with heap := h₁ } a vs ltv)
    (h : ∀ (out : List Value) (h' : Heap) (a : Addr) (e : Nat), Srtd ltv out → Stb ltv out vs → s.heap.get? a = none → (∀ b o, s.heap.get? b = some o → h'.get? b = some o) → h'.get? a = some (seqObj "list" out.toArray e) → Q (.ref a) { s with heap := h' }) :
    wpAny (model prog w) A (call (.builtin "sorted") [.ref it]) Q E s := by
  refine Calls.call_function_entry kind_sorted plain_sorted entry_sorted (args_sorted1 _) ?_
  unfold Builtin.«sorted»
  refine wpAny_bind (m := checkCount "sorted" 1 1 _) (wpAny_pure ?_)
  refine wpAny_bind (wpAny_collect_seq it hT ho hc hd (fun h1 k1 => ?_) (by rw [List.size_toArray]; exact hz))
  refine wpAny_bind (wpAny_newList ?_ hz)
  have hoL : (h1.push (seqObj "list" vs.toArray 0)).get? h1.objs.size = some (seqObj "list" vs.toArray 0) := Heap.get?_push_size _ rfl
  have fresh : s.heap.get? h1.objs.size = none := by
    cases e : s.heap.get? h1.objs.size with
    | none => rfl
    | some o => exact absurd (Heap.lt_size (k1 _ _ e)) (Nat.lt_irrefl _)
  show wpAny _ _ _ _ _ { s with heap := h1.push (seqObj "list" vs.toArray 0) }
  refine wpAny_bind (wpAny_holding (wpAny_call_entry slot_list_sort ⟨_, hoL, rfl⟩ entry_list_sort (list_sort_ord O hoL hz (fun h2 => hS h2 _ _) fun out hs hb => ⟨_, rfl, ?_⟩) (args_list_sort _)))
  obtain ⟨e, he⟩ := sortedHeap_at (vs := vs) (out := out.toArray) hoL
  refine wpAny_pure ⟨_, rfl, h out _ _ e hs hb fresh (fun b o q => ?_) he⟩
  have hlt : b < h1.objs.size := Heap.lt_size (k1 _ _ q)
  rw [sortedHeap_old (Nat.ne_of_lt hlt) (by rw [size_push']; exact Nat.lt_succ_of_lt hlt)]
  exact Heap.get?_push_of_some _ (k1 _ _ q)
end
section
variable {X : Cx}
theorem cr_sortedX : CallR X (.builtin "sorted") (rSortedX X.K) := by
  intro pins s σ H vs us Q I r h
  obtain ⟨a, ns, rfl, hs, q⟩ := h
  have go : ∀ {its : List Value} {T : String} {o : Obj} {n : Nat}, Vals (ns.map V.str) its → (ns.map V.str).length ≤ sizeLine → (T = "list" ∨ T = "tuple") → s.heap.get? a = some o → o.cls = .type T → o.data = .seq its.toArray n → wpAny (model X.prog X.w) X.A (call (.builtin "sorted") us) (EP X pins σ Q) X.xe s := fun {its T o n} rv hz hT ho hc hd => by
    rw [Vals.ref1 r]
    have hi := rv.strs
    refine sorted_seq swo_str hT ho hc hd (by rw [← rv.length]; exact hz) (fun h2 h₁ a' => strs_sortable hi h2) fun out h' p e h1 h2 fr kp he => ?_
    obtain ⟨k1, k2, k3⟩ := strs_out hi h1 h2
    have hlen : ((out.map sv).map V.str).length ≤ sizeLine := by
      rw [List.length_map, k2.length_eq]
      rw [List.length_map] at hz
      exact hz
    have hn : H p = none := by
      cases q : H p with
      | none => rfl
      | some x => obtain ⟨u, e⟩ := ok_there (I.hok _ _ q); rw [fr] at e; cases e
    exact ⟨.ref p, upd H p (.lst ((out.map sv).map V.str)), I.laidN (t' := s.toks) kp fr hn ⟨hlen, out, e, vals_of_strs k1, he⟩, rfl, q _ _ k2 k3 hn⟩
  rcases hs with hs | hs
  · obtain ⟨its, rv, pl, hz⟩ := I.list hs
    obtain ⟨o, ho, hc, n, hd⟩ := pl.isList
    exact go rv hz (.inl rfl) ho hc hd
  · obtain ⟨its, rv, ⟨o, ho, hc, n, hd⟩, hz⟩ := I.tuple hs
    exact go rv hz (.inr rfl) ho hc hd
theorem op_mul_str : OpR X (binaryOp .Mult) (fun x y H Q => ∃ (z : Str) (n : Int), x = .str z ∧ y = .int n ∧ 0 ≤ n ∧ n ≤ 1000 ∧ z.length ≤ 1000 ∧ Q (.str (Txt.mul z n)) H) := by
  intro pins s σ H x y v u Q I rx ry h
  obtain ⟨z, n, rfl, rfl, h0, h1, hz, q⟩ := h
  obtain ⟨t, rfl⟩ := rx
  obtain ⟨t', rfl⟩ := ry
  refine SB.mul ⟨?_, fun h2 _ => ?_, fun h2 _ => ?_⟩ fun t'' k => ⟨.str _, H, I.tok _, ⟨_, rfl⟩, q⟩
  · rw [Bool.or_eq_false_iff]
    exact ⟨decide_eq_false (by omega), decide_eq_false (by omega)⟩
  · have : (1000 : Int) ≤ (2 ^ 63 - 1) / n := by
      rw [Int.le_ediv_iff_mul_le (by omega)]
      omega
    omega
  · unfold Builtin.Str.tooLong
    rw [decide_eq_false_iff_not, sizeLine_eq]
    have h3 : n.toNat ≤ 1000 := by omega
    have := Nat.mul_le_mul hz h3
    omega
end
set_option maxHeartbeats 1000000
def iSeq (K : PySem.W.Frag) (te : TE) : TI := fun σ H R => te σ H fun x H1 => ∃ a, x = .ref a ∧ (((∃ xs, SqL K H1 a xs) ∧ R (Itl K a) H1) ∨ ((∃ xs, SqT K H1 a xs) ∧ R (Itt K a) H1))
theorem pi_seq {X : Cx} {tg : Expr} {l : Expr} {tl : TE} (hl : PE X l tl) : PI X tg l (iSeq X.K tl) := by
  refine ⟨fun pins s σ H R I h => ?_⟩
  refine thn (hl.run pins s σ H _ I h) fun v s1 ⟨x, H1, I1, r1, q1⟩ => ?_
  obtain ⟨a, e, ⟨⟨xs, hq⟩, q⟩ | ⟨⟨xs, hq⟩, q⟩⟩ := q1
  · subst e
    cases r1
    obtain ⟨its, rv, p, hz⟩ := I1.list hq
    refine wpAny_pyIter_list p.isList ?_
    refine ⟨s1.heap.objs.size, [s1.heap.objs.size], _, _, H1, rfl, I1.kept (t' := s1.toks) fun b o e => Heap.get?_push_of_some _ e, turn_list a _, ⟨_, Heap.get?_push_size _ rfl, rfl, rfl⟩, fun b hb => ?_, q⟩
    have e : b = s1.heap.objs.size := by simpa using hb
    subst e
    exact I1.fpOk (Nat.le_refl _) (I1.hok.fresh (Nat.le_refl _))
  · subst e
    cases r1
    obtain ⟨its, rv, p, hz⟩ := I1.tuple hq
    refine wpAny_pyIter_tuple (show s1.heap.IsTuple a its.toArray from p) ?_
    refine ⟨s1.heap.objs.size, [s1.heap.objs.size], _, _, H1, rfl, I1.kept (t' := s1.toks) fun b o e => Heap.get?_push_of_some _ e, turn_tuple a _, ⟨_, Heap.get?_push_size _ rfl, rfl, rfl⟩, fun b hb => ?_, q⟩
    have e : b = s1.heap.objs.size := by simpa using hb
    subst e
    exact I1.fpOk (Nat.le_refl _) (I1.hok.fresh (Nat.le_refl _))
def Strs (H : Hp) (a : Addr) (ns : List Str) : Prop := H a = some (.lst (ns.map V.str)) ∨ H a = some (.tup (ns.map V.str))
theorem Strs.same {H H' : Hp} {a : Addr} {ns : List Str} (h : Strs H a ns) (s : Same H H') : Strs H' a ns := h.elim (fun h => .inl (s _ _ h)) fun h => .inr (s _ _ h)
theorem Strs.seq {K : PySem.W.Frag} {H : Hp} {a : Addr} {ns : List Str} (h : Strs H a ns) : SqL K H a (ns.map V.str) ∨ SqT K H a (ns.map V.str) := h.elim (fun h => .inl (sl_of h)) fun h => .inr (st_of h)
theorem rd_iSeq {K : PySem.W.Frag} {te : TE} {σ : L2.St} {H : Hp} {R : It → Hp → Prop} (h : te σ H fun x H1 => ∃ a, x = .ref a ∧ (((∃ xs, SqL K H1 a xs) ∧ R (Itl K a) H1) ∨ ((∃ xs, SqT K H1 a xs) ∧ R (Itt K a) H1))) : iSeq K te σ H R := h
theorem get_strs {U : List Str} {i : Nat} {x : V} (h : (U.map V.str)[i]? = some x) : ∃ z, U[i]? = some z ∧ x = .str z := get_map h
theorem for_strs {K : PySem.W.Frag} {σ : L2.St} {H : Hp} {D : Ends} {U : List Str} {k : Nat} {tb : TS} {a : Addr} (hA : Strs H a U) (Pv : Nat → L2.St → Hp → Prop) (h0 : Pv 0 σ H) (hl : ∀ i σ H', Pv i σ H' → ∀ o, H a = some o → H' a = some o)
    (hs : ∀ i z σ H', U[i]? = some z → Pv i σ H' → tb { D with nx := Pv (i + 1), ct := Pv (i + 1), bk := D.nx } (σ.set k (some (.str z))) H') (hd : ∀ σ H', Pv U.length σ H' → D.nx σ H') :
    ((∃ xs, SqL K H a xs) ∧ ∃ W : Nat → Nat → L2.St → Hp → Prop, (∃ m, W 0 m σ H) ∧ ∀ i m σ H, W i m σ H →
      ((Itl K a).stop i H ∧ D.nx σ H) ∨ ((Itl K a).go i H ∧ ∃ N : L2.St → Hp → Prop, (∀ σ' H', N σ' H' → ∃ m', m' < m ∧ W (i + 1) m' σ' H') ∧ ∀ x H', (Itl K a).yld i H x H' → gName k x σ H' fun σ2 H2 => tb { D with nx := N, ct := N, bk := D.nx } σ2 H2)) ∨
    ((∃ xs, SqT K H a xs) ∧ ∃ W : Nat → Nat → L2.St → Hp → Prop, (∃ m, W 0 m σ H) ∧ ∀ i m σ H, W i m σ H →
      ((Itt K a).stop i H ∧ D.nx σ H) ∨ ((Itt K a).go i H ∧ ∃ N : L2.St → Hp → Prop, (∀ σ' H', N σ' H' → ∃ m', m' < m ∧ W (i + 1) m' σ' H') ∧ ∀ x H', (Itt K a).yld i H x H' → gName k x σ H' fun σ2 H2 => tb { D with nx := N, ct := N, bk := D.nx } σ2 H2)) := by
  rcases hA with hA | hA
  · refine .inl ⟨⟨_, sl_of hA⟩, for_lst (xs := U.map V.str) Pv h0 (fun i σ H' hp => hl i σ H' hp _ hA) (fun i x σ H' hx hp => ?_) (fun σ H' hp => hd σ H' (by rw [List.length_map] at hp; exact hp))⟩
    obtain ⟨z, hz, rfl⟩ := get_strs hx
    exact hs i z σ H' hz hp
  · refine .inr ⟨⟨_, st_of hA⟩, L2.for_tup (xs := U.map V.str) (g := gName k) Pv h0 (fun i σ H' _ hp => st_of (hl i σ H' hp _ hA)) (fun i x σ H' hx hp => ?_) (fun σ H' hp => hd σ H' (by rw [List.length_map] at hp; exact hp))⟩
    obtain ⟨z, hz, rfl⟩ := get_strs hx
    exact hs i z σ H' hz hp
def firstDup : List Str → List Str → Option Str
  | _, [] => none
  | seen, z :: r => if z ∈ seen then some z else firstDup (seen ++ [z]) r
theorem dup_step {U : List Str} {i : Nat} {z : Str} (h : U[i]? = some z) : firstDup (U.take i) (U.drop i) = if z ∈ U.take i then some z else firstDup (U.take (i + 1)) (U.drop (i + 1)) := by
  have hl := (List.getElem?_eq_some_iff.mp h).1
  have e : U.drop i = z :: U.drop (i + 1) := by rw [List.drop_eq_getElem_cons hl]; congr 1; exact (List.getElem?_eq_some_iff.mp h).2
  have e2 : U.take (i + 1) = U.take i ++ [z] := by rw [List.take_add_one, h]; rfl
  rw [e, e2]; rfl
theorem take_mem {U : List Str} {i : Nat} {z : Str} (x : Str) (h : U[i]? = some z) : (decide (x ∈ U.take i) || decide ((Sum.inr x : Key) = Sum.inr z)) = decide (x ∈ U.take (i + 1)) := by
  have e2 : U.take (i + 1) = U.take i ++ [z] := by rw [List.take_add_one, h]; rfl
  rw [e2, Bool.eq_iff_iff]
  simp [List.mem_append]
theorem dup_end {U : List Str} : firstDup (U.take U.length) (U.drop U.length) = none := by rw [List.drop_length]; rfl
theorem dup_none {U : List Str} : ∀ {s : List Str}, s.Nodup → (firstDup s U = none ↔ (s ++ U).Nodup) := by
  induction U with
  | nil => intro s hs; simp [firstDup, hs]
  | cons y r ih =>
    intro s hs
    unfold firstDup
    by_cases h : y ∈ s
    · rw [if_pos h]
      refine ⟨fun e => (by cases e), fun n => ?_⟩
      rw [List.nodup_append] at n
      exact absurd rfl (n.2.2 y h y List.mem_cons_self)
    · rw [if_neg h]
      have hs2 : (s ++ [y]).Nodup := by
        rw [List.nodup_append]
        refine ⟨hs, by simp, fun a ha b hb => ?_⟩
        rw [List.mem_singleton.mp hb]
        exact fun e => h (e ▸ ha)
      rw [ih hs2, List.append_assoc]; rfl
theorem dup_none' {U : List Str} : firstDup [] U = none ↔ U.Nodup := by rw [dup_none List.nodup_nil]; rfl
set_option maxHeartbeats 1000000
section
variable {r : V → List V → Hp → VK → Prop} {to te : TE} {σ : L2.St} {H : Hp} {Q : VK}
theorem rd_m0 (h : to σ H fun x H1 => (∃ a, x = .str a) ∧ r x [] H1 Q) : tM0 r to σ H Q := h
theorem rd_m1 (h : to σ H fun x H1 => (∃ a, x = .str a) ∧ te σ H1 fun y H2 => r x [y] H2 Q) : tM1 r to te σ H Q := h
theorem rd_js {t : TE} {ts : List TE} {acc : Str} {R : Str → Hp → Prop} (h : t σ H fun x H1 => ∃ y : Str, x = .str y ∧ (acc ++ y).length ≤ sizeLine ∧ tJs ts (acc ++ y) σ H1 R) : tJs (t :: ts) acc σ H R := h
theorem rd_js0 {acc : Str} {R : Str → Hp → Prop} (h : R acc H) : tJs [] acc σ H R := h
theorem rd_fmt (h : te σ H fun x H1 => (∃ y : Str, x = .str y ∧ y.length ≤ sizeLine ∧ Q (.str y) H1) ∨ ∃ i : Int, x = .int i ∧ i.natAbs.log2 < 1920 ∧ Q (.str (toString i)) H1) : tFmt te σ H Q := h
theorem rd_asgT {g : TG} {D : Ends} (h : te σ H fun v H1 => g v σ H1 D.nx) : tAsg te g D σ H := h
theorem rd_isS {z : Str} {A : Prop} (h : A) : (∃ a, V.str z = V.str a) ∧ A := ⟨⟨z, rfl⟩, h⟩
theorem rd_st1 {z : Str} {R : Str → Prop} (h : R z) : ∃ a, V.str z = .str a ∧ ([] : List V) = [] ∧ True ∧ R a := ⟨z, rfl, rfl, trivial, h⟩
theorem rd_neS {i j : Str} {Q : VK} (h : Q (.bl (!decide (i = j))) H) : rNe (.str i) (.str j) H Q := ⟨rfl, by
  have e : decide (V.str i = V.str j) = decide (i = j) := by simp
  rw [e]; exact h⟩
theorem rd_nl {A : Prop} (h : A) : ([] : List V) = [] ∧ True ∧ A := ⟨rfl, trivial, h⟩
theorem rd_st2 {z y : Str} {R : Str → Str → Prop} (h : R z y) : ∃ a b, V.str z = .str a ∧ [V.str y] = [.str b] ∧ R a b := ⟨z, y, rfl, rfl, h⟩
end
structure HasPr (P : Program) (w : World) (K : PySem.W.Frag) (mg : Str → Option Value) (base : Heap) (CX : CXT) (C : Addr) (f : Str) (k : Nat) (ps : List Str) (sp : Sp) : Prop where
  ex : ∃ p g fd, PropOf K C f p g ∧ FnOk P w K mg base CX k g fd ps sp ∧ Binds K fd ps []
theorem HasPr.mono {P : Program} {w : World} {K : PySem.W.Frag} {mg : Str → Option Value} {base : Heap} {CX : CXT} {C : Addr} {f : Str} {j k : Nat} {ps : List Str} {sp : Sp} (h : HasPr P w K mg base CX C f j ps sp) (l : j ≤ k) : HasPr P w K mg base CX C f k ps sp := by
  obtain ⟨p, g, fd, a, F, b⟩ := h.ex
  exact ⟨p, g, fd, a, F.mono l, b⟩
structure SMet (K : PySem.W.Frag) (C : Addr) (mc : Value) (m : Str) (p g : Addr) : Prop where
  at_ : PySem.W.findCls K (.ref C) mc m = some (.get (.builtin "staticmethod.__get__") (.ref p) .none (.ref C))
  rc : ∃ rest, PySem.W.recIn K p "staticmethod" = some (.ref g :: rest)
structure SInst (K : PySem.W.Frag) (C : Addr) (m : Str) (p g : Addr) : Prop where
  pg : PySem.W.plainGet K C Str.empty = true
  ic : PySem.W.isClsIn K C = true
  at_ : PySem.W.findIn K (.ref C) m = some (some (.ref p))
  ty : PySem.W.typeIn K (.ref p) = some (.type "staticmethod")
  get : PySem.W.specialIn K (.ref p) "__get__" = some (some (.builtin "staticmethod.__get__"))
  tk : PySem.W.takesIn K (.ref p) = some false
  cp : PySem.W.copiedNames.contains m = false
  rc : ∃ rest, PySem.W.recIn K p "staticmethod" = some (.ref g :: rest)
structure HasSM (P : Program) (w : World) (K : PySem.W.Frag) (mg : Str → Option Value) (base : Heap) (CX : CXT) (C : Addr) (m : Str) (k : Nat) (ps ks : List Str) (sp : Sp) : Prop where
  ex : ∃ g fd q mc, FnOk P w K mg base CX k g fd ps sp ∧ ClX.CRead K C mc ∧ SMet K C mc m q g ∧ SInst K C m q g ∧ PySem.W.keepIn K (.ref g) = true ∧ Binds K fd ps [] ∧ ∀ (s : Shared) (ws : List Value), ws.length = ks.length → BindsTo s fd ⟨[], ks.zip ws⟩ (ps.zip ws)
theorem HasSM.mono {P : Program} {w : World} {K : PySem.W.Frag} {mg : Str → Option Value} {base : Heap} {CX : CXT} {C : Addr} {m : Str} {j k : Nat} {ps ks : List Str} {sp : Sp} (h : HasSM P w K mg base CX C m j ps ks sp) (l : j ≤ k) : HasSM P w K mg base CX C m k ps ks sp := by
  obtain ⟨g, fd, q, mc, F, r⟩ := h.ex
  exact ⟨g, fd, q, mc, F.mono l, r⟩
def tSMeth (C : Addr) (sp : Sp) (E : L2.St → XK) (ta : TE) (t : TA) : TE := fun σ H Q => ta σ H fun x H1 => x = .ref C ∧ t σ H1 fun vs H2 => sp vs H2 Q (E σ)
def tSMethK (C : Addr) (n : Nat) (sp : Sp) (E : L2.St → XK) (ta : TE) (tk : TA) : TE := fun σ H Q => ta σ H fun x H1 => x = .ref C ∧ tk σ H1 fun zs H2 => zs.length = n ∧ sp zs H2 Q (E σ)
def tSMethI (C : Addr) (m : Str) (sp : Sp) (E : L2.St → XK) (ta : TE) (t : TA) : TE := fun σ H Q => ta σ H fun x H1 => ∃ a dx fs, x = .ref a ∧ H1 a = some (.ins C dx fs) ∧ fs.lookup m = none ∧ t σ H1 fun vs H2 => sp vs H2 Q (E σ)
section
variable {X : Cx} {CX : CXT} {C f g q : Addr} {fd : FuncData} {x : Str} {k i : Nat} {ps ks : List Str} {ds : List Value} {dvs : List V} {sp : Sp} {E : L2.St → XK} {p pos apos : Pos} {e o : Expr} {es : List Expr} {kws : List Keyword} {t tk : TA} {ta : TE} {m : Str} {mc : Value} {pl : Sem Bool}
theorem pe_propH {f : Str} {E : XK} (h : HasPr X.prog X.w X.K X.mg X.base CX C f k ps sp) (c : Cls X.K C) (he : PE X e ta) (hr : Room (k + 1) X.A) (hx : Passes CX X.nox E) (hab : attributeBase e f X.env (eval e X.env) = eval e X.env := by rfl) : PE X (.Attribute e f pos) (tProp C sp [] E ta) := by
  obtain ⟨p, g, fd, a, F, b⟩ := h.ex
  exact pe_prop he c a F hr b .nil hx hab
theorem rd_prop {E : XK} {σ : L2.St} {H : Hp} {Q : VK} (h : ta σ H fun x H1 => ∃ a dx fs, x = .ref a ∧ H1 a = some (.ins C dx fs) ∧ sp (.ref a :: dvs) H1 Q E) : tProp C sp dvs E ta σ H Q := h
theorem rd_sm {σ : L2.St} {H : Hp} {Q : VK} (h : ta σ H fun x H1 => x = .ref C ∧ t σ H1 fun vs H2 => sp vs H2 Q (E σ)) : tSMeth C sp E ta t σ H Q := h
theorem rd_smK {n : Nat} {σ : L2.St} {H : Hp} {Q : VK} (h : ta σ H fun x H1 => x = .ref C ∧ tk σ H1 fun zs H2 => zs.length = n ∧ sp zs H2 Q (E σ)) : tSMethK C n sp E ta tk σ H Q := h
theorem rd_smI {σ : L2.St} {H : Hp} {Q : VK} (h : ta σ H fun x H1 => ∃ a dx fs, x = .ref a ∧ H1 a = some (.ins C dx fs) ∧ fs.lookup m = none ∧ t σ H1 fun vs H2 => sp vs H2 Q (E σ)) : tSMethI C m sp E ta t σ H Q := h
end
set_option maxHeartbeats 1000000
abbrev D := PyData
def kids : D → List D
  | .list xs => xs
  | .tuple xs => xs
  | _ => []
def isSeq : D → Bool
  | .list _ => true
  | .tuple _ => true
  | _ => false
mutual
inductive Rep (U : Addr → Prop) (H : Hp) : V → D → Prop where
  | non : Rep U H .non .none
  | bl (b : Bool) : Rep U H (.bl b) (.bool b)
  | int (i : Int) : Rep U H (.int i) (.int i)
  | str (x : Str) : Rep U H (.str x) (.str x)
  | lst {p : Addr} {xs : List V} {ds : List D} : U p → H p = some (.lst xs) → RepL U H xs ds → Rep U H (.ref p) (.list ds)
  | tup {p : Addr} {xs : List V} {ds : List D} : U p → H p = some (.tup xs) → RepL U H xs ds → Rep U H (.ref p) (.tuple ds)
inductive RepL (U : Addr → Prop) (H : Hp) : List V → List D → Prop where
  | nil : RepL U H [] []
  | cons {v : V} {d : D} {vs : List V} {ds : List D} : Rep U H v d → RepL U H vs ds → RepL U H (v :: vs) (d :: ds)
end
section
variable {U U' : Addr → Prop} {H H' : Hp}
mutual
theorem Rep.to (hh : ∀ p o, U p → H p = some o → U' p ∧ H' p = some o) : ∀ {v : V} {d : D}, Rep U H v d → Rep U' H' v d
  | _, _, .non => .non
  | _, _, .bl b => .bl b
  | _, _, .int i => .int i
  | _, _, .str x => .str x
  | _, _, .lst u h r => .lst (hh _ _ u h).1 (hh _ _ u h).2 (RepL.to hh r)
  | _, _, .tup u h r => .tup (hh _ _ u h).1 (hh _ _ u h).2 (RepL.to hh r)
theorem RepL.to (hh : ∀ p o, U p → H p = some o → U' p ∧ H' p = some o) : ∀ {vs : List V} {ds : List D}, RepL U H vs ds → RepL U' H' vs ds
  | _, _, .nil => .nil
  | _, _, .cons a b => .cons (Rep.to hh a) (RepL.to hh b)
end
theorem RepL.len : ∀ {vs : List V} {ds : List D}, RepL U H vs ds → vs.length = ds.length
  | _, _, .nil => rfl
  | _, _, .cons _ r => congrArg (· + 1) r.len
theorem RepL.get : ∀ {vs : List V} {ds : List D} {i : Nat} {v : V}, RepL U H vs ds → vs[i]? = some v → ∃ d, ds[i]? = some d ∧ Rep U H v d
  | _, _, _, _, .nil, h => by simp at h
  | _, _, 0, _, .cons a _, h => ⟨_, rfl, by simp at h; rw [← h]; exact a⟩
  | _, _, i + 1, _, .cons _ r, h => by
    simp at h
    obtain ⟨d, e, q⟩ := r.get h
    exact ⟨d, by simpa using e, q⟩
theorem RepL.at : ∀ {vs : List V} {ds : List D} {i : Nat} {d : D}, RepL U H vs ds → ds[i]? = some d → ∃ v, vs[i]? = some v ∧ Rep U H v d
  | _, _, _, _, .nil, h => by simp at h
  | _, _, 0, _, .cons a _, h => ⟨_, rfl, by simp at h; rw [← h]; exact a⟩
  | _, _, i + 1, _, .cons _ r, h => by
    simp at h
    obtain ⟨d, e, q⟩ := r.at h
    exact ⟨d, by simpa using e, q⟩
theorem RepL.app : ∀ {vs ws : List V} {ds es : List D}, RepL U H vs ds → RepL U H ws es → RepL U H (vs ++ ws) (ds ++ es)
  | _, _, _, _, .nil, h => h
  | _, _, _, _, .cons a r, h => .cons a (r.app h)
theorem RepL.one {v : V} {d : D} (h : Rep U H v d) : RepL U H [v] [d] := .cons h .nil
theorem RepL.snoc {vs : List V} {ds : List D} {v : V} {d : D} (h : RepL U H vs ds) (q : Rep U H v d) : RepL U H (vs ++ [v]) (ds ++ [d]) := h.app (.one q)
theorem RepL.take : ∀ {vs : List V} {ds : List D} (n : Nat), RepL U H vs ds → RepL U H (vs.take n) (ds.take n)
  | _, _, 0, _ => .nil
  | _, _, _ + 1, .nil => .nil
  | _, _, n + 1, .cons a r => .cons a (r.take n)
theorem RepL.drop : ∀ {vs : List V} {ds : List D} (n : Nat), RepL U H vs ds → RepL U H (vs.drop n) (ds.drop n)
  | _, _, 0, h => h
  | _, _, _ + 1, .nil => .nil
  | _, _, n + 1, .cons _ r => r.drop n
theorem RepL.mapI {α : Type} {f : α → V} {g : α → D} : ∀ {l : List α}, (∀ x ∈ l, Rep U H (f x) (g x)) → RepL U H (l.map f) (l.map g)
  | [], _ => .nil
  | x :: l, h => .cons (h x List.mem_cons_self) (RepL.mapI fun y hy => h y (List.mem_cons_of_mem _ hy))
theorem RepL.ints : ∀ {ns : List Int}, RepL U H (ns.map V.int) (ns.map PyData.int) := RepL.mapI fun _ _ => .int _
theorem RepL.strs : ∀ {ns : List Str}, RepL U H (ns.map V.str) (ns.map PyData.str) := RepL.mapI fun _ _ => .str _
theorem RepL.intsI : ∀ {vs : List V} {ns : List Int}, RepL U H vs (ns.map PyData.int) → vs = ns.map V.int
  | _, [], .nil => rfl
  | _, _ :: _, .cons a r => by cases a; rw [r.intsI]; rfl
theorem RepL.strsI : ∀ {vs : List V} {ns : List Str}, RepL U H vs (ns.map PyData.str) → vs = ns.map V.str
  | _, [], .nil => rfl
  | _, _ :: _, .cons a r => by cases a; rw [r.strsI]; rfl
theorem RepL.mem : ∀ {vs : List V} {ds : List D} {v : V}, RepL U H vs ds → v ∈ vs → ∃ d ∈ ds, Rep U H v d
  | _, _, _, .nil, h => by cases h
  | _, _, _, .cons a r, h => by
    rcases List.mem_cons.mp h with rfl | h
    · exact ⟨_, List.mem_cons_self, a⟩
    · obtain ⟨d, hd, q⟩ := r.mem h
      exact ⟨d, List.mem_cons_of_mem _ hd, q⟩
/-- of any sequence -/
theorem Rep.seq {v : V} {d : D} (h : Rep U H v d) (q : isSeq d = true) : ∃ p xs, v = .ref p ∧ U p ∧ (H p = some (.lst xs) ∨ H p = some (.tup xs)) ∧ RepL U H xs (kids d) := by
  cases h with
  | lst u e r => exact ⟨_, _, rfl, u, .inl e, r⟩
  | tup u e r => exact ⟨_, _, rfl, u, .inr e, r⟩
  | _ => cases q
theorem Rep.lstI {v : V} {ds : List D} (h : Rep U H v (.list ds)) : ∃ p xs, v = .ref p ∧ U p ∧ H p = some (.lst xs) ∧ RepL U H xs ds := by
  cases h with
  | lst u e r => exact ⟨_, _, rfl, u, e, r⟩
theorem Rep.tupI {v : V} {ds : List D} (h : Rep U H v (.tuple ds)) : ∃ p xs, v = .ref p ∧ U p ∧ H p = some (.tup xs) ∧ RepL U H xs ds := by
  cases h with
  | tup u e r => exact ⟨_, _, rfl, u, e, r⟩
theorem Rep.strI {v : V} {x : Str} (h : Rep U H v (.str x)) : v = .str x := by cases h; rfl
theorem Rep.intI {v : V} {x : Int} (h : Rep U H v (.int x)) : v = .int x := by cases h; rfl
theorem Rep.blI {v : V} {x : Bool} (h : Rep U H v (.bool x)) : v = .bl x := by cases h; rfl
/-- scalars as data -/
def vD : V → D
  | .bl b => .bool b
  | .int i => .int i
  | .str x => .str x
  | _ => .none
theorem Rep.sc {v : V} (h : Sc v) : Rep U H v (vD v) := by
  cases v <;> first | exact h.elim | constructor
theorem Rep.scI {v u : V} (s : Sc u) (h : Rep U H v (vD u)) : v = u := by
  cases u <;> first | exact s.elim | (cases h; rfl)
end
section
variable {U : Addr → Prop} {H : Hp} {K : PySem.W.Frag}
mutual
theorem Rep.dp : ∀ {v : V} {d : D}, Rep U H v d → Dp K H v d
  | _, _, .non => .non
  | _, _, .bl b => .bl b
  | _, _, .int i => .int i
  | _, _, .str x => .str x
  | _, _, .lst _ h r => .lst (sl_of h) r.dp
  | _, _, .tup _ h r => .tup (st_of h) r.dp
theorem RepL.dp : ∀ {vs : List V} {ds : List D}, RepL U H vs ds → DpAll K H vs ds
  | _, _, .nil => .nil
  | _, _, .cons a b => .cons a.dp b.dp
end
end
structure Ex (U : Addr → Prop) (H H' : Hp) : Prop where
  keep : ∀ p o, U p → H p = some o → H' p = some o
  dom : ∀ p, H' p = none → H p = none
section
variable {U U' : Addr → Prop} {H H1 H2 : Hp} {p : Addr} {o : HO} {v : V} {d : D}
theorem Ex.refl : Ex U H H := ⟨fun _ _ _ h => h, fun _ h => h⟩
theorem Ex.trans (a : Ex U H H1) (b : Ex U H1 H2) : Ex U H H2 := ⟨fun p o u h => b.keep p o u (a.keep p o u h), fun p h => a.dom p (b.dom p h)⟩
theorem Ex.new (h : H p = none) : Ex U H (upd H p o) := ⟨fun q u _ e => by rw [upd_ne (ne_of_none e h)]; exact e, fun q e => by
  by_cases c : q = p
  · rw [c]; exact h
  · rw [upd_ne c] at e; exact e⟩
theorem Ex.mut (a : Ex U H H1) (h : H p = none) : Ex U H (upd H1 p o) := ⟨fun q u hu e => by rw [upd_ne (ne_of_none e h)]; exact a.keep q u hu e, fun q e => by
  by_cases c : q = p
  · rw [c]; exact h
  · rw [upd_ne c] at e; exact a.dom q e⟩
theorem Ex.mutU (a : Ex U H H1) (h : ¬ U p) (hn : H1 p ≠ none) : Ex U H (upd H1 p o) := ⟨fun q u hu e => by
  have c : q ≠ p := fun c => h (c ▸ hu)
  rw [upd_ne c]; exact a.keep q u hu e, fun q e => by
  by_cases c : q = p
  · rw [c, upd_same] at e; cases e
  · rw [upd_ne c] at e; exact a.dom q e⟩
theorem none_back (s : ∀ b o, H b = some o → H1 b = some o) (h : H1 p = none) : H p = none := by
  cases e : H p with
  | none => rfl
  | some o => rw [s _ _ e] at h; cases h
theorem Ex.same (s : Same H H1) : Ex U H H1 := ⟨fun p o _ h => s p o h, fun p h => none_back s h⟩
theorem Ex.less (a : Ex U H H1) (h : ∀ p, U' p → U p) : Ex U' H H1 := ⟨fun p o u e => a.keep p o (h p u) e, a.dom⟩
theorem Rep.ex (e : Ex U H H1) (h : Rep U H v d) : Rep U H1 v d := h.to fun p o u q => ⟨u, e.keep p o u q⟩
theorem RepL.ex {vs : List V} {ds : List D} (e : Ex U H H1) (h : RepL U H vs ds) : RepL U H1 vs ds := h.to fun p o u q => ⟨u, e.keep p o u q⟩
theorem Rep.same (e : Same H H1) (h : Rep U H v d) : Rep U H1 v d := h.to fun p o u q => ⟨u, e p o q⟩
theorem RepL.same {vs : List V} {ds : List D} (e : Same H H1) (h : RepL U H vs ds) : RepL U H1 vs ds := h.to fun p o u q => ⟨u, e p o q⟩
theorem Rep.less (h : Rep U H v d) (hU : ∀ p, U p → U' p) : Rep U' H v d := h.to fun p o u q => ⟨hU p u, q⟩
theorem RepL.less {vs : List V} {ds : List D} (h : RepL U H vs ds) (hU : ∀ p, U p → U' p) : RepL U' H vs ds := h.to fun p o u q => ⟨hU p u, q⟩
end
abbrev US (S : Sto) : Addr → Prop := fun p => p ≠ S.1
theorem StoreOk.none2 {S : Sto} {H H' : Hp} (h : ExS S H H') (s : StoreOk S H') : Ex (US S) H H' := ⟨fun p o u e => h p o u e, fun p e => by
  cases q : H p with
  | none => rfl
  | some o =>
    by_cases c : p = S.1
    · exact absurd c (s.ne1 e)
    · rw [h p o c q] at e; cases e⟩
/-- the store is right, and what else lay there lies there still -/
structure Gd (S : Sto) (H H' : Hp) : Prop where
  ok : StoreOk S H'
  ex : Ex (US S) H H'
section
variable {S : Sto} {H H1 H2 : Hp} {p : Addr} {o : HO}
theorem Gd.refl (s : StoreOk S H) : Gd S H H := ⟨s, .refl⟩
theorem Gd.trans (a : Gd S H H1) (b : Gd S H1 H2) : Gd S H H2 := ⟨b.ok, a.ex.trans b.ex⟩
theorem Gd.of (s : StoreOk S H1) (e : ExS S H H1) : Gd S H H1 := ⟨s, s.none2 e⟩
theorem Gd.new (s : StoreOk S H) (h : H p = none) : Gd S H (upd H p o) := ⟨s.new h, .new h⟩
theorem Gd.same (s : StoreOk S H) (e : Same H H1) : Gd S H H1 := ⟨s.same e, .same e⟩
theorem Gd.mut (a : Gd S H H1) (h : H p = none) (h1 : p ≠ S.1) (h2 : p ≠ S.2) : Gd S H (upd H1 p o) := ⟨store_upd a.ok h1 h2, a.ex.mut h⟩
end
set_option maxHeartbeats 1000000
def gSeq (K : PySem.W.Frag) (n : Nat) (t : TGs) : TG := fun v σ H Q => ∃ a xs, v = .ref a ∧ (H a = some (.lst xs) ∨ H a = some (.tup xs)) ∧ xs.length = n ∧ t xs σ H Q
theorem pg_seqU {X : Cx} {pos : Pos} {es : List Expr} {k : Nat} {t : TGs} {n : Nat} {K : PySem.W.Frag} (hK : X.K = K) (hc : X.calm = true) (h : PGs X es t)
    (hn : (assignEach es X.env).length = n := by rfl) (hst : (assignEach es X.env).findIdx? (·.1) = none := by rfl) : PG X (.Tuple es k pos) (gSeq K n t) := by
  subst hK
  refine ⟨fun pins s σ H v u Q I r hw => ?_⟩
  obtain ⟨a, xs, e1, hq, hl, hw⟩ := hw
  rcases hq with hq | hq
  · exact (pg_unl (pos := pos) (k := k) hc h hn hst).run pins s σ H v u Q I r ⟨a, xs, e1, sl_of hq, hl, hw⟩
  · exact (pg_tup (pos := pos) (k := k) hc h hn hst).run pins s σ H v u Q I r ⟨a, xs, e1, st_of hq, hl, hw⟩
theorem rd_gSeq {K : PySem.W.Frag} {U : Addr → Prop} {n : Nat} {t : TGs} {v : V} {d : D} {σ : L2.St} {H : Hp} {Q : L2.St → Hp → Prop} (hv : Rep U H v d) (hs : isSeq d = true) (hl : (kids d).length = n) (h : ∀ xs, RepL U H xs (kids d) → t xs σ H Q) : gSeq K n t v σ H Q := by
  obtain ⟨p, xs, rfl, _, e, r⟩ := hv.seq hs
  exact ⟨p, xs, rfl, e, by rw [r.len]; exact hl, h xs r⟩
theorem rd_gC {t : TG} {u : TGs} {v : V} {vs : List V} {σ : L2.St} {H : Hp} {Q : L2.St → Hp → Prop} (h : t v σ H fun σ' H' => u vs σ' H' Q) : gCons t u (v :: vs) σ H Q := ⟨v, vs, rfl, h⟩
theorem rd_gN {σ : L2.St} {H : Hp} {Q : L2.St → Hp → Prop} (h : Q σ H) : gNil [] σ H Q := ⟨rfl, h⟩
section
variable {U : Addr → Prop} {H : Hp} {v : V} {d e : D} {i : Int} {Q : VK} {K : PySem.W.Frag}
theorem rep_ix (h : Rep U H v d) (hs : isSeq d = true) (h0 : 0 ≤ i) (he : (kids d)[i.toNat]? = some e) (q : ∀ u, Rep U H u e → Q u H) : rIx K v (.int i) H Q := by
  obtain ⟨p, xs, rfl, _, hp, r⟩ := h.seq hs
  obtain ⟨u, hu, ru⟩ := r.at he
  have ha : atI xs i = some u := by
    have hl := (List.getElem?_eq_some_iff.mp hu).1
    obtain ⟨hb, e1⟩ := atI_get (xs := xs) h0 (by omega)
    rw [e1]
    rw [List.getElem?_eq_getElem hb] at hu
    exact hu
  rcases hp with hp | hp
  · exact rd_ixQL hp ha (q u ru)
  · exact rd_ixQT hp ha (q u ru)
theorem rep_len {R : List V → Prop} (h : Rep U H v d) (hs : isSeq d = true) (q : ∀ xs, RepL U H xs (kids d) → R xs) : ∃ p ys, [v] = [V.ref p] ∧ (SqL K H p ys ∨ SqT K H p ys) ∧ R ys := by
  obtain ⟨p, xs, rfl, _, hp, r⟩ := h.seq hs
  rcases hp with hp | hp
  · exact rd_seqL hp (q xs r)
  · exact rd_seqT hp (q xs r)
end
/-- the empty tuple of the module's own, where a default stands -/
def EmpK (K : PySem.W.Frag) (p : Addr) : Prop := ∃ (o : Obj) (n : Nat), K.lookup p = some o ∧ o.cls = .type "tuple" ∧ o.data = .seq #[] n
def RepQ (K : PySem.W.Frag) (U : Addr → Prop) (H : Hp) (v : V) (d : PyData) : Prop := Rep U H v d ∨ (d = .tuple [] ∧ ∃ p, v = .ref p ∧ EmpK K p)
theorem EmpK.sq {K : PySem.W.Frag} {p : Addr} {H : Hp} (e : EmpK K p) : SqT K H p [] := by
  obtain ⟨o, n, a, b, c⟩ := e
  exact .inr ⟨o, #[], n, a, b, c, Nat.zero_le _, .nil⟩
theorem RepQ.to {K : PySem.W.Frag} {U U' : Addr → Prop} {H H' : Hp} {v : V} {d : PyData} (h : RepQ K U H v d) (hh : ∀ p o, U p → H p = some o → U' p ∧ H' p = some o) : RepQ K U' H' v d := h.elim (fun h => .inl (h.to hh)) .inr
theorem RepQ.ex {K : PySem.W.Frag} {U : Addr → Prop} {H H' : Hp} {v : V} {d : PyData} (h : RepQ K U H v d) (e : Ex U H H') : RepQ K U H' v d := h.elim (fun h => .inl (h.ex e)) .inr
theorem RepQ.same {K : PySem.W.Frag} {U : Addr → Prop} {H H' : Hp} {v : V} {d : PyData} (h : RepQ K U H v d) (e : Same H H') : RepQ K U H' v d := h.elim (fun h => .inl (h.same e)) .inr
theorem repq_len {K : PySem.W.Frag} {U : Addr → Prop} {H : Hp} {v : V} {d : PyData} {R : List V → Prop} (h : RepQ K U H v d) (hs : isSeq d = true) (q : ∀ xs, RepL U H xs (kids d) → R xs) : ∃ p ys, [v] = [V.ref p] ∧ (SqL K H p ys ∨ SqT K H p ys) ∧ R ys := by
  rcases h with h | ⟨rfl, p, rfl, e⟩
  · exact rep_len h hs q
  · exact ⟨p, [], rfl, .inr e.sq, q [] .nil⟩
structure LcI (W U : Addr → Prop) (D : Addr) (H1 : Hp) (Pv : Hp → Prop) (out : List PyData) (H : Hp) : Prop where
  ex : Ex W H1 H
  at_ : ∃ acc, H D = some (.lst acc) ∧ RepL (fun p => U p ∧ p ≠ D) H acc out
  pv : Pv H
section
variable {W Z0 U : Addr → Prop} {D : Addr} {H H1 H4 : Hp} {Pv : Hp → Prop} {out out2 : List PyData} {y : V} {e : PyData}
theorem LcI.put {y : V} (h : LcI W U D H1 Pv out H) (a : Ex W H H4) (uD : W D) (hD : H1 D = none) (pv : ∀ o, Pv (upd H4 D o)) (r : Rep (fun p => U p ∧ p ≠ D) H4 y e) (hl : out.length < 100000) (eo : out2 = out ++ [e]) (hUW : ∀ p, U p → W p := by exact fun _ h => h) :
    ∃ acc, H4 D = some (.lst acc) ∧ acc.length < sizeLine ∧ LcI W U D H1 Pv out2 (upd H4 D (.lst (acc ++ [y]))) := by
  obtain ⟨acc, e1, e2⟩ := h.at_
  refine ⟨acc, a.keep _ _ uD e1, by rw [e2.len]; exact Nat.lt_of_lt_of_le hl (by decide), (h.ex.trans a).mut hD, ⟨_, upd_same, ?_⟩, pv _⟩
  rw [eo]
  refine ((e2.ex (a.less fun p u => hUW p u.1)).snoc r).to fun p o u q => ⟨u, by rw [upd_ne u.2]; exact q⟩
theorem LcI.ne {q : Addr} (h : LcI W U D H1 Pv out H) (n : H q = none) : q ≠ D := by
  obtain ⟨acc, e, _⟩ := h.at_
  exact fun c => by rw [c, e] at n; cases n
theorem Rep.off {v : V} {d : PyData} (h : Rep U H v d) (hD : H D = none) : Rep (fun p => U p ∧ p ≠ D) H v d := h.to fun p o u q => ⟨⟨u, ne_of_none q hD⟩, q⟩
/-- the loop's start and turns -/
theorem lc_seqG {K : PySem.W.Frag} {v : V} {d : PyData} {g : TG} {tt : TT} {te : TE} {vs : List Nat} {σ : L2.St} {Q : Addr → Hp → Prop} (hVW : ∀ p, Z0 p → W p) (out : List PyData → List PyData) (Pv : Hp → Prop) (hv : RepQ K Z0 H1 v d) (hq : isSeq d = true) (uN : ∀ p, H1 p = none → W p) (o0 : out [] = []) (h0 : ∀ D, H1 D = none → Pv (upd H1 D (.lst [])))
    (hs : ∀ D i x e H', W D → H1 D = none → (kids d)[i]? = some e → Rep (fun p => Z0 p ∧ p ≠ D) H' x e → LcI W U D H1 Pv (out ((kids d).take i)) H' → g x (wipe σ vs) H' fun σ2 H2 => wipe σ2 vs = wipe σ vs ∧ tt σ2 H2 fun b H3 =>
      if b = true then te σ2 H3 fun y H4 => ∃ acc, H4 D = some (.lst acc) ∧ acc.length < sizeLine ∧ LcI W U D H1 Pv (out ((kids d).take (i + 1))) (upd H4 D (.lst (acc ++ [y]))) else LcI W U D H1 Pv (out ((kids d).take (i + 1))) H3)
    (hd : ∀ p acc H', Ex W H1 H' → W p → H1 p = none → H' p = some (.lst acc) → RepL (fun q => U q ∧ q ≠ p) H' acc (out (kids d)) → Pv H' → Q p H') :
    ∃ a, v = .ref a ∧ (((∃ xs, SqL K H1 a xs) ∧ ∀ D, H1 D = none → ∃ W : Nat → Nat → Hp → Prop, (∃ m, W 0 m (upd H1 D (.lst []))) ∧ ∀ i m H, W i m H →
      ((Itl K a).stop i H ∧ Q D H) ∨ ((Itl K a).go i H ∧ ∃ Nx : Hp → Prop, (∀ H', Nx H' → ∃ m', m' < m ∧ W (i + 1) m' H') ∧ ∀ x H', (Itl K a).yld i H x H' → g x (wipe σ vs) H' fun σ2 H2 => wipe σ2 vs = wipe σ vs ∧ tt σ2 H2 fun b H3 =>
        if b = true then te σ2 H3 fun y H4 => ∃ acc, H4 D = some (.lst acc) ∧ acc.length < sizeLine ∧ Nx (upd H4 D (.lst (acc ++ [y]))) else Nx H3)) ∨
    ((∃ xs, SqT K H1 a xs) ∧ ∀ D, H1 D = none → ∃ W : Nat → Nat → Hp → Prop, (∃ m, W 0 m (upd H1 D (.lst []))) ∧ ∀ i m H, W i m H →
      ((Itt K a).stop i H ∧ Q D H) ∨ ((Itt K a).go i H ∧ ∃ Nx : Hp → Prop, (∀ H', Nx H' → ∃ m', m' < m ∧ W (i + 1) m' H') ∧ ∀ x H', (Itt K a).yld i H x H' → g x (wipe σ vs) H' fun σ2 H2 => wipe σ2 vs = wipe σ vs ∧ tt σ2 H2 fun b H3 =>
        if b = true then te σ2 H3 fun y H4 => ∃ acc, H4 D = some (.lst acc) ∧ acc.length < sizeLine ∧ Nx (upd H4 D (.lst (acc ++ [y]))) else Nx H3))) := by
  have start : ∀ D, H1 D = none → LcI W U D H1 Pv (out ((kids d).take 0)) (upd H1 D (.lst [])) := fun D nD => ⟨.new nD, ⟨[], upd_same, by rw [List.take_zero, o0]; exact .nil⟩, h0 D nD⟩
  rcases hv with hv | ⟨rfl, p, rfl, ek⟩
  rotate_left
  · refine ⟨p, rfl, .inr ⟨⟨[], ek.sq⟩, fun D nD => lc_tup (xs := []) (fun i H' => LcI W U D H1 Pv (out []) H') (start D nD) (fun i H' _ hp => ek.sq) (fun i x H' hx hp => by simp at hx) fun H' hp => ?_⟩⟩
    obtain ⟨acc, e1, e2⟩ := hp.at_
    exact hd D acc H' hp.ex (uN D nD) nD e1 e2 hp.pv
  obtain ⟨a, xs, rfl, ua, ha, r⟩ := hv.seq hq
  refine ⟨a, rfl, ?_⟩
  have turn : ∀ D i x H', H1 D = none → xs[i]? = some x → LcI W U D H1 Pv (out ((kids d).take i)) H' → g x (wipe σ vs) H' fun σ2 H2 => wipe σ2 vs = wipe σ vs ∧ tt σ2 H2 fun b H3 =>
      if b = true then te σ2 H3 fun y H4 => ∃ acc, H4 D = some (.lst acc) ∧ acc.length < sizeLine ∧ LcI W U D H1 Pv (out ((kids d).take (i + 1))) (upd H4 D (.lst (acc ++ [y]))) else LcI W U D H1 Pv (out ((kids d).take (i + 1))) H3 := fun D i x H' nD hx hp => by
    obtain ⟨e, he, re⟩ := r.get hx
    exact hs D i x e H' (uN D nD) nD he ((re.off nD).to fun p o u q => ⟨u, hp.ex.keep p o (hVW p u.1) q⟩) hp
  have fin : ∀ D H', H1 D = none → LcI W U D H1 Pv (out ((kids d).take xs.length)) H' → Q D H' := fun D H' nD hp => by
    rw [r.len, List.take_length] at hp
    obtain ⟨acc, e1, e2⟩ := hp.at_
    exact hd D acc H' hp.ex (uN D nD) nD e1 e2 hp.pv
  rcases ha with ha | ha
  · exact .inl ⟨⟨xs, sl_of ha⟩, fun D nD => lc_list (xs := xs) (fun i H' => LcI W U D H1 Pv (out ((kids d).take i)) H') (start D nD) (fun i H' _ hp => sl_of (hp.ex.keep _ _ (hVW _ ua) ha)) (fun i x H' hx hp => turn D i x H' nD hx hp) fun H' hp => fin D H' nD hp⟩
  · exact .inr ⟨⟨xs, st_of ha⟩, fun D nD => lc_tup (xs := xs) (fun i H' => LcI W U D H1 Pv (out ((kids d).take i)) H') (start D nD) (fun i H' _ hp => st_of (hp.ex.keep _ _ (hVW _ ua) ha)) (fun i x H' hx hp => turn D i x H' nD hx hp) fun H' hp => fin D H' nD hp⟩
theorem lc_seq {K : PySem.W.Frag} {v : V} {d : PyData} {g : TG} {tt : TT} {te : TE} {vs : List Nat} {σ : L2.St} {Q : Addr → Hp → Prop} (out : List PyData → List PyData) (Pv : Hp → Prop) (hv : RepQ K U H1 v d) (hq : isSeq d = true) (uN : ∀ p, H1 p = none → U p) (o0 : out [] = []) (h0 : ∀ D, H1 D = none → Pv (upd H1 D (.lst [])))
    (hs : ∀ D i x e H', U D → H1 D = none → (kids d)[i]? = some e → Rep (fun p => U p ∧ p ≠ D) H' x e → LcI U U D H1 Pv (out ((kids d).take i)) H' → g x (wipe σ vs) H' fun σ2 H2 => wipe σ2 vs = wipe σ vs ∧ tt σ2 H2 fun b H3 =>
      if b = true then te σ2 H3 fun y H4 => ∃ acc, H4 D = some (.lst acc) ∧ acc.length < sizeLine ∧ LcI U U D H1 Pv (out ((kids d).take (i + 1))) (upd H4 D (.lst (acc ++ [y]))) else LcI U U D H1 Pv (out ((kids d).take (i + 1))) H3)
    (hd : ∀ p acc H', Ex U H1 H' → U p → H1 p = none → H' p = some (.lst acc) → RepL (fun q => U q ∧ q ≠ p) H' acc (out (kids d)) → Pv H' → Q p H') :
    ∃ a, v = .ref a ∧ (((∃ xs, SqL K H1 a xs) ∧ ∀ D, H1 D = none → ∃ W : Nat → Nat → Hp → Prop, (∃ m, W 0 m (upd H1 D (.lst []))) ∧ ∀ i m H, W i m H →
      ((Itl K a).stop i H ∧ Q D H) ∨ ((Itl K a).go i H ∧ ∃ Nx : Hp → Prop, (∀ H', Nx H' → ∃ m', m' < m ∧ W (i + 1) m' H') ∧ ∀ x H', (Itl K a).yld i H x H' → g x (wipe σ vs) H' fun σ2 H2 => wipe σ2 vs = wipe σ vs ∧ tt σ2 H2 fun b H3 =>
        if b = true then te σ2 H3 fun y H4 => ∃ acc, H4 D = some (.lst acc) ∧ acc.length < sizeLine ∧ Nx (upd H4 D (.lst (acc ++ [y]))) else Nx H3)) ∨
    ((∃ xs, SqT K H1 a xs) ∧ ∀ D, H1 D = none → ∃ W : Nat → Nat → Hp → Prop, (∃ m, W 0 m (upd H1 D (.lst []))) ∧ ∀ i m H, W i m H →
      ((Itt K a).stop i H ∧ Q D H) ∨ ((Itt K a).go i H ∧ ∃ Nx : Hp → Prop, (∀ H', Nx H' → ∃ m', m' < m ∧ W (i + 1) m' H') ∧ ∀ x H', (Itt K a).yld i H x H' → g x (wipe σ vs) H' fun σ2 H2 => wipe σ2 vs = wipe σ vs ∧ tt σ2 H2 fun b H3 =>
        if b = true then te σ2 H3 fun y H4 => ∃ acc, H4 D = some (.lst acc) ∧ acc.length < sizeLine ∧ Nx (upd H4 D (.lst (acc ++ [y]))) else Nx H3))) :=
  lc_seqG (W := U) (U := U) (fun _ h => h) out Pv hv hq uN o0 h0 hs hd
/-- a loop over a sequence -/
theorem for_seqR {K : PySem.W.Frag} {v : V} {d : PyData} {g : TG} {tb : TS} {σ : L2.St} {E : Ends} (hv : RepQ K U H1 v d) (hq : isSeq d = true) (Pv : Nat → L2.St → Hp → Prop) (h0 : Pv 0 σ H1) (hk : ∀ i σ H', Pv i σ H' → Ex U H1 H')
    (hs : ∀ i x e σ H', (kids d)[i]? = some e → Rep U H' x e → Pv i σ H' → g x σ H' fun σ2 H2 => tb { E with nx := Pv (i + 1), ct := Pv (i + 1), bk := E.nx } σ2 H2) (hd : ∀ σ H', Pv (kids d).length σ H' → E.nx σ H') :
    ∃ a, v = .ref a ∧ (((∃ xs, SqL K H1 a xs) ∧ ∃ W : Nat → Nat → L2.St → Hp → Prop, (∃ m, W 0 m σ H1) ∧ ∀ i m σ H, W i m σ H →
      ((Itl K a).stop i H ∧ E.nx σ H) ∨ ((Itl K a).go i H ∧ ∃ N : L2.St → Hp → Prop, (∀ σ' H', N σ' H' → ∃ m', m' < m ∧ W (i + 1) m' σ' H') ∧ ∀ x H', (Itl K a).yld i H x H' → g x σ H' fun σ2 H2 => tb { E with nx := N, ct := N, bk := E.nx } σ2 H2)) ∨
    ((∃ xs, SqT K H1 a xs) ∧ ∃ W : Nat → Nat → L2.St → Hp → Prop, (∃ m, W 0 m σ H1) ∧ ∀ i m σ H, W i m σ H →
      ((Itt K a).stop i H ∧ E.nx σ H) ∨ ((Itt K a).go i H ∧ ∃ N : L2.St → Hp → Prop, (∀ σ' H', N σ' H' → ∃ m', m' < m ∧ W (i + 1) m' σ' H') ∧ ∀ x H', (Itt K a).yld i H x H' → g x σ H' fun σ2 H2 => tb { E with nx := N, ct := N, bk := E.nx } σ2 H2))) := by
  rcases hv with hv | ⟨rfl, p, rfl, ek⟩
  rotate_left
  · exact ⟨p, rfl, .inr ⟨⟨[], ek.sq⟩, L2.for_tup (xs := []) (g := g) Pv h0 (fun i σ H' _ hp => ek.sq) (fun i x σ H' hx hp => by simp at hx) hd⟩⟩
  obtain ⟨a, xs, rfl, ua, ha, r⟩ := hv.seq hq
  refine ⟨a, rfl, ?_⟩
  have turn : ∀ i x σ H', xs[i]? = some x → Pv i σ H' → g x σ H' fun σ2 H2 => tb { E with nx := Pv (i + 1), ct := Pv (i + 1), bk := E.nx } σ2 H2 := fun i x σ H' hx hp => by
    obtain ⟨e, he, re⟩ := r.get hx
    exact hs i x e σ H' he (re.ex (hk i σ H' hp)) hp
  have fin : ∀ σ H', Pv xs.length σ H' → E.nx σ H' := fun σ H' hp => hd σ H' (by rw [r.len] at hp; exact hp)
  rcases ha with ha | ha
  · exact .inl ⟨⟨xs, sl_of ha⟩, L2.for_list (xs := xs) (g := g) Pv h0 (fun i σ H' _ hp => sl_of ((hk i σ H' hp).keep _ _ ua ha)) turn fin⟩
  · exact .inr ⟨⟨xs, st_of ha⟩, L2.for_tup (xs := xs) (g := g) Pv h0 (fun i σ H' _ hp => st_of ((hk i σ H' hp).keep _ _ ua ha)) turn fin⟩
end
def RowAt (h : Heap) (v : Value) (k : Str) : Prop := ∃ a o t r n, v = .ref a ∧ h.get? a = some o ∧ o.cls = .type "tuple" ∧ o.data = .seq (Value.str k t :: r).toArray n
theorem RowAt.keep {h h' : Heap} {v : Value} {k : Str} (x : RowAt h v k) (kp : ∀ b o, h.get? b = some o → h'.get? b = some o) : RowAt h' v k := by
  obtain ⟨a, o, t, r, n, e, ho, hc, hd⟩ := x
  exact ⟨a, o, t, r, n, e, kp _ _ ho, hc, hd⟩
section
open SrtO
variable {prog : Program} {w : World} {A : Around} {E : Value → Shared → Prop} {s : Shared}
theorem lex_self {b fin : Bool} {Q : Bool → Shared → Prop} : ∀ (l : List Value) (i : Nat), Q fin s → PySem.W.KatLex prog w A b fin Q (l.zip l) i s
  | [], i, h => PySem.W.kat_nil h
  | v :: l, i, h => PySem.W.kat_cons (SeqAt.EqAt.same v prog w _ _ (PySem.W.kat_yes (lex_self l (i + 1) h)))
theorem swo_key (f : Value → Str) : Swo fun v u => decide (ltS (f v) (f u)) := by
  refine ⟨fun x y h => decide_eq_false (ltS_asymm (of_decide_eq_true h)), fun x y z h1 h2 => ?_⟩
  have a := of_decide_eq_false h1
  have b := of_decide_eq_false h2
  exact decide_eq_false fun c => List.not_le.mpr c (List.le_trans (List.not_lt.mp a) (List.not_lt.mp b))
theorem row_cmp {vs : List Value} {f : Value → Str} (hp : ∀ v ∈ vs, RowAt s.heap v (f v)) (hi : ∀ u ∈ vs, ∀ v ∈ vs, f u = f v → u = v) : Cmp prog w A s (tuples' true) (fun p => p.1 ∈ vs) (lt2 fun v u => decide (ltS (f v) (f u))) := by
  intro p q hm hm'
  show wpAny (model prog w) A (keyLt' (tuples' true) p.1 q.1) (fun r s' => s' = s ∧ r = decide (ltS (f p.1) (f q.1))) (fun _ _ => False) s
  obtain ⟨a, o, t, r, n, e, ho, hc, hd⟩ := hp _ hm
  by_cases c : f p.1 = f q.1
  · have eq := hi _ hm _ hm' c
    rw [← eq, e]
    refine PySem.W.kat_lt ho hd ho hd ?_
    refine lex_self _ _ ⟨rfl, ?_⟩
    rw [decide_eq_false (Nat.lt_irrefl _)]
    exact (decide_eq_false (List.lt_irrefl _)).symm
  · obtain ⟨a', o', t', r', n', e', ho', hc', hd'⟩ := hp _ hm'
    generalize f p.1 = k at *
    generalize f q.1 = k' at *
    rw [e, e']
    refine PySem.W.kat_lt ho hd ho' hd' ?_
    refine PySem.W.kat_cons (eqBool_str ?_)
    have e1 : (k == k') = false := by simpa using c
    rw [e1]
    exact PySem.W.kat_no (oneLt_str ⟨rfl, rfl⟩)
theorem firsts_row {h : Heap} : ∀ {vs : List Value} {f : Value → Str}, (∀ v ∈ vs, RowAt h v (f v)) → ∃ fs, PySem.W.KatTups h vs fs ∧ fs.length = vs.length ∧ ∀ u ∈ fs, ∃ k t, u = Value.str k t
  | [], _, _ => ⟨[], .nil, rfl, by simp⟩
  | v :: vs, f, hp => by
    obtain ⟨fs, h1, h2, h3⟩ := firsts_row (vs := vs) (f := f) fun u hu => hp u (List.mem_cons_of_mem _ hu)
    obtain ⟨a, o, t, r, n, e, ho, hc, hd⟩ := hp v List.mem_cons_self
    rw [e]
    refine ⟨.str (f v) t :: fs, .cons ho hc hd (by simp) h1, by simp [h2], fun u hu => ?_⟩
    rcases List.mem_cons.mp hu with rfl | hu
    · exact ⟨_, _, rfl⟩
    · exact h3 u hu
theorem rows_sortable {a : Addr} {vs : List Value} {f : Value → Str} (h2 : 2 ≤ vs.length) (hp : ∀ v ∈ vs, RowAt s.heap v (f v)) (hi : ∀ u ∈ vs, ∀ v ∈ vs, f u = f v → u = v) (ha : ∀ o, s.heap.get? a = some o → o.cls ≠ .type "tuple") : SortableO prog w A s a vs fun v u => decide (ltS (f v) (f u)) := by
  intro h' keep
  have hp' : ∀ v ∈ vs, RowAt h' v (f v) := fun v hm => by
    obtain ⟨b, o, t, r, n, e, ho, hc, hd⟩ := hp v hm
    exact ⟨b, o, t, r, n, e, keep b o (fun z => by subst z; exact ha o ho hc) ho, hc, hd⟩
  obtain ⟨fs, h1, h2', h3⟩ := firsts_row hp'
  refine ⟨tuples' true, fun Q E hq => ?_, row_cmp hp' hi⟩
  refine PySem.W.kat_kind (T := .type "str") h1 (by omega) (fun f hm => ?_) (by rfl) ?_
  · obtain ⟨x, t, rfl⟩ := h3 f hm
    exact PySem.W.Looks.now
  · have e : (Value.type "str" != Value.type "tuple") = true := by first | decide +kernel | rfl | decide
    rw [e]
    exact hq
theorem sorted_seqH {it : Addr} {T : String} {o : Obj} {vs : List Value} {n : Nat} {ltv : Value → Value → Bool} {Q : Value → Shared → Prop} (O : Swo ltv) (hT : T = "list" ∨ T = "tuple") (ho : s.heap.get? it = some o) (hc : o.cls = .type T) (hd : o.data = .seq vs.toArray n) (hz : vs.length ≤ sizeLine)
    (hS : 2 ≤ vs.length → ∀ (h₁ : Heap) (a : Addr), (∀ b o, s.heap.get? b = some o → h₁.get? b = some o) → (∀ o, h₁.get? a = some o → o.cls = .type "list") → SortableO prog w A.in1.in1 { s with heap := h₁ } a vs ltv)
    (h : ∀ (out : List Value) (h' : Heap) (a : Addr) (e : Nat), Srtd ltv out → Stb ltv out vs → s.heap.get? a = none → (∀ b o, s.heap.get? b = some o → h'.get? b = some o) → h'.get? a = some (seqObj "list" out.toArray e) → Q (.ref a) { s with heap := h' }) :
    wpAny (model prog w) A (call (.builtin "sorted") [.ref it]) Q E s := by
  refine Calls.call_function_entry kind_sorted plain_sorted entry_sorted (args_sorted1 _) ?_
  unfold Builtin.«sorted»
  refine wpAny_bind (m := checkCount "sorted" 1 1 _) (wpAny_pure ?_)
  refine wpAny_bind (wpAny_collect_seq it hT ho hc hd (fun h1 k1 => ?_) (by rw [List.size_toArray]; exact hz))
  refine wpAny_bind (wpAny_newList ?_ hz)
  have hoL : (h1.push (seqObj "list" vs.toArray 0)).get? h1.objs.size = some (seqObj "list" vs.toArray 0) := Heap.get?_push_size _ rfl
  have fresh : s.heap.get? h1.objs.size = none := by
    cases e : s.heap.get? h1.objs.size with
    | none => rfl
    | some o => exact absurd (Heap.lt_size (k1 _ _ e)) (Nat.lt_irrefl _)
  show wpAny _ _ _ _ _ { s with heap := h1.push (seqObj "list" vs.toArray 0) }
  refine wpAny_bind (wpAny_holding (wpAny_call_entry slot_list_sort ⟨_, hoL, rfl⟩ entry_list_sort (list_sort_ord O hoL hz (fun h2 => hS h2 _ _ (fun b o e => Heap.get?_push_of_some _ (k1 _ _ e)) fun o e => by rw [hoL] at e; cases e; rfl) fun out hs hb => ⟨_, rfl, ?_⟩) (args_list_sort _)))
  obtain ⟨e, he⟩ := sortedHeap_at (vs := vs) (out := out.toArray) hoL
  refine wpAny_pure ⟨_, rfl, h out _ _ e hs hb fresh (fun b o q => ?_) he⟩
  have hlt : b < h1.objs.size := Heap.lt_size (k1 _ _ q)
  rw [sortedHeap_old (Nat.ne_of_lt hlt) (by rw [size_push']; exact Nat.lt_succ_of_lt hlt)]
  exact Heap.get?_push_of_some _ (k1 _ _ q)
end
/-- sorted(xs), xs a list or a tuple of rows; f: the first item of each -/
def rSortedR (K : PySem.W.Frag) : List V → Hp → VK → Prop := fun vs H Q => ∃ (a : Addr) (xs : List V) (f : V → Str), vs = [V.ref a] ∧ (H a = some (.lst xs) ∨ H a = some (.tup xs)) ∧ (∀ x ∈ xs, ∃ t r, x = V.ref t ∧ H t = some (.tup (.str (f x) :: r))) ∧ (∀ x ∈ xs, ∀ y ∈ xs, f x = f y → x = y) ∧
  ∀ (ys : List V) (p : Addr), ys.Perm xs → ys.Pairwise (fun x y => ¬ ltS (f y) (f x)) → H p = none → Q (.ref p) (upd H p (.lst ys))
section
variable {X : Cx}
theorem cr_sortedR {K : PySem.W.Frag} (hK : X.K = K) : CallR X (.builtin "sorted") (rSortedR K) := by
  subst hK
  intro pins s σ H vs us Q I r h
  obtain ⟨a, xs, f, rfl, hs, hx, hi, q⟩ := h
  have go : ∀ {its : List Value} {T : String} {o : Obj} {n : Nat}, Vals xs its → xs.length ≤ sizeLine → (T = "list" ∨ T = "tuple") → s.heap.get? a = some o → o.cls = .type T → o.data = .seq its.toArray n → wpAny (model X.prog X.w) X.A (call (.builtin "sorted") us) (EP X pins σ Q) X.xe s := fun {its T o n} rv hz hT ho hc hd => by
    rw [Vals.ref1 r]
    obtain ⟨e1, e2⟩ := refs_back rv fun x m => by
      obtain ⟨t, r, e, _⟩ := hx x m
      exact ⟨t, e⟩
    have hrow : ∀ v ∈ its, RowAt s.heap v (f (backV v)) := fun v hv => by
      obtain ⟨t, rfl⟩ := e2 v hv
      have hm : V.ref t ∈ xs := by rw [e1]; exact List.mem_map.mpr ⟨_, hv, rfl⟩
      obtain ⟨t', r', e, ht⟩ := hx _ hm
      cases e
      obtain ⟨_, its2, r2, o, ho, hc, n, hd⟩ := I.hok _ _ ht
      cases r2 with
      | cons rk rr =>
        obtain ⟨tk, rfl⟩ := rk
        exact ⟨t, o, tk, _, n, rfl, ho, hc, hd⟩
    have hinj : ∀ u ∈ its, ∀ v ∈ its, f (backV u) = f (backV v) → u = v := fun u hu v hv e => by
      obtain ⟨t, rfl⟩ := e2 u hu
      obtain ⟨t', rfl⟩ := e2 v hv
      have hm : V.ref t ∈ xs := by rw [e1]; exact List.mem_map.mpr ⟨_, hu, rfl⟩
      have hm' : V.ref t' ∈ xs := by rw [e1]; exact List.mem_map.mpr ⟨_, hv, rfl⟩
      have := hi _ hm _ hm' e
      cases this
      rfl
    refine sorted_seqH (swo_key fun v => f (backV v)) hT ho hc hd (by rw [← rv.length]; exact hz) (fun h2 h₁ a' kp ha => rows_sortable (s := { s with heap := h₁ }) h2 (fun v hv => (hrow v hv).keep kp) hinj fun o e c => by
      have := ha o e
      rw [this] at c
      injection c with c1
      exact absurd c1 (by decide)) fun out h' p e h1 h2 fr kp he => ?_
    have h3 : ∀ u ∈ out, ∃ a, u = Value.ref a := fun u hu => e2 u (h2.perm.mem_iff.mp hu)
    have hpm : (out.map backV).Perm xs := by
      rw [e1]
      exact h2.perm.map backV
    have hn : H p = none := by
      cases q : H p with
      | none => rfl
      | some x => obtain ⟨u, e⟩ := ok_there (I.hok _ _ q); rw [fr] at e; cases e
    have hsrt : (out.map backV).Pairwise (fun x y => ¬ ltS (f y) (f x)) := List.pairwise_map.mpr (h1.imp fun {x y} h => of_decide_eq_false h)
    exact ⟨.ref p, upd H p (.lst (out.map backV)), I.laidN (t' := s.toks) kp fr hn ⟨by rw [hpm.length_eq]; exact hz, out, e, vals_back h3, he⟩, rfl, q _ _ hpm hsrt hn⟩
  rcases hs with hs | hs
  · obtain ⟨its, rv, pl, hz⟩ := I.list (sl_of hs)
    obtain ⟨o, ho, hc, n, hd⟩ := pl.isList
    exact go rv hz (.inl rfl) ho hc hd
  · obtain ⟨its, rv, ⟨o, ho, hc, n, hd⟩, hz⟩ := I.tuple (st_of hs)
    exact go rv hz (.inr rfl) ho hc hd
end
/-- behind the statement the thing at d is frozen -/
def tFrz (t : TS) : TS := fun D σ H => t { D with nx := fun σ' H' => ∃ d u, H' d = some u ∧ Mut (some u) ∧ ∀ od, D.nx σ' (upd H' d (.frz od u)) } σ H
theorem ps_frz {X : Cx} {st : Stmt} {t : TS} (h : PS X st t) : PS X st (tFrz t) := by
  refine ⟨fun pins s σ H D I hw => ?_⟩
  refine thn (h.run pins s σ _ _ I hw) fun f s1 q => ?_
  cases f with
  | next =>
    obtain ⟨σ', H', I2, d, u, hd, mu, q⟩ := q
    obtain ⟨od, I3⟩ := I2.lock hd mu
    exact ⟨σ', _, I3, q od⟩
  | brk => exact q
  | cont => exact q
  | ret v => exact q
set_option maxHeartbeats 1000000
structure HasMt (P : Program) (w : World) (K : PySem.W.Frag) (mg : Str → Option Value) (base : Heap) (CX : CXT) (C : Addr) (m : Str) (k : Nat) (ps : List Str) (sp : Sp) : Prop where
  ex : ∃ f fd, FnOk P w K mg base CX k f fd ps sp ∧ Meth K C m f ∧ Binds K fd ps []
theorem HasMt.mono {P : Program} {w : World} {K : PySem.W.Frag} {mg : Str → Option Value} {base : Heap} {CX : CXT} {C : Addr} {m : Str} {j k : Nat} {ps : List Str} {sp : Sp} (h : HasMt P w K mg base CX C m j ps sp) (l : j ≤ k) : HasMt P w K mg base CX C m k ps sp := by
  obtain ⟨f, fd, F, r⟩ := h.ex
  exact ⟨f, fd, F.mono l, r⟩
structure HasMtN (P : Program) (w : World) (K : PySem.W.Frag) (mg : Str → Option Value) (base : Heap) (CX : CXT) (C : Addr) (m : Str) (k n : Nat) (ps ks : List Str) (gV : List V → List V → List V) (sp : Sp) : Prop where
  ex : ∃ f fd, FnOk P w K mg base CX k f fd ps sp ∧ Meth K C m f ∧ ∃ g, KBn K fd ps (n + 1) ks g gV
theorem HasMtN.mono {P : Program} {w : World} {K : PySem.W.Frag} {mg : Str → Option Value} {base : Heap} {CX : CXT} {C : Addr} {m : Str} {j k n : Nat} {ps ks : List Str} {gV : List V → List V → List V} {sp : Sp} (h : HasMtN P w K mg base CX C m j n ps ks gV sp) (l : j ≤ k) : HasMtN P w K mg base CX C m k n ps ks gV sp := by
  obtain ⟨f, fd, F, r⟩ := h.ex
  exact ⟨f, fd, F.mono l, r⟩
def tMt (C : Addr) (m : Str) (sp : Sp) (E : L2.St → XK) (ta : TE) (t : TA) : TE := fun σ H Q => ta σ H fun x H1 => ∃ a dx fs, x = .ref a ∧ H1 a = some (.ins C dx fs) ∧ fs.lookup m = none ∧ t σ H1 fun vs H2 => sp (.ref a :: vs) H2 Q (E σ)
def tMtN (C : Addr) (m : Str) (n j : Nat) (sp : Sp) (gV : List V → List V → List V) (E : L2.St → XK) (ta : TE) (t tk : TA) : TE := fun σ H Q => ta σ H fun x H1 => ∃ a dx fs, x = .ref a ∧ H1 a = some (.ins C dx fs) ∧ fs.lookup m = none ∧ t σ H1 fun vs H2 => tk σ H2 fun zs H3 => vs.length = n ∧ zs.length = j ∧ sp (gV (.ref a :: vs) zs) H3 Q (E σ)
section
variable {X : Cx} {CX : CXT} {C f : Addr} {x : Str} {k n : Nat} {ps ks : List Str} {gV : List V → List V → List V} {sp : Sp} {E : L2.St → XK} {p pos apos : Pos} {e o : Expr} {es : List Expr} {kws : List Keyword} {t tk : TA} {ta : TE} {m : Str} {pl : Sem Bool}
theorem pe_mt (h : HasMt X.prog X.w X.K X.mg X.base CX C m k ps sp) (c : Cls X.K C) (he : PE X o ta) (hr : Room k X.A) (hx : ∀ σ, PassesAt CX X σ (E σ)) (ha : PA X (e :: es) t)
    (hst : starEach (e :: es) X.env = (false, eval e X.env) :: starEach es X.env := by rfl) (hpl : (backTo pos (starEach es X.env)).any (·.1) = false := by rfl)
    (ht : eval (.Call (.Attribute o m apos) (e :: es) [] pos) X.env = (do
      let ov ← eval o X.env
      standAt apos.atName
      let (f, first) ← holding [ov] (getMethod ov m pl)
      callWith pos f first (backTo pos (starEach (e :: es) X.env)) (backToKw pos (keywordEach [] X.env))) := by rfl) :
    PE X (.Call (.Attribute o m apos) (e :: es) [] pos) (tMt C m sp E ta t) := by
  obtain ⟨f, fd, F, hm, hb⟩ := h.ex
  refine ⟨fun pins s σ H Q I h => ?_⟩
  refine PySem.W.methodCall_KW (pl := pl) (thn (he.run pins s σ H _ I h) fun u s1 ⟨x, H1, I1, rx, a, dx, fs, ex, ea, l, q⟩ => ?_) ht
  subst ex
  obtain rfl : u = Value.ref a := rx
  refine getmeth_ok I1 ea c hm l ?_
  refine PySem.W.callWith_K (first := [.ref a]) (h₀ := X.base) I.ok.mod.kin hm.kp (thn (ha.run pos pins s1 σ H1 _ I1 q) fun us s2 ⟨vs, H2, I2, r, q2⟩ => ⟨I2.kIn, ?_⟩) hst hpl
  exact run_fnS (us := .ref a :: us) (vs := .ref a :: vs) F hr hb (hx σ) I2 (.cons rfl r) q2
theorem pe_mtN (h : HasMtN X.prog X.w X.K X.mg X.base CX C m k n ps ks gV sp) (c : Cls X.K C) (he : PE X o ta) (hr : Room k X.A) (hx : ∀ σ, PassesAt CX X σ (E σ)) (ha : PA X (e :: es) t) (hkw : PK X kws tk)
    (hall : (backToKw pos (keywordEach kws X.env)).all (·.1.isSome) = true := by rfl) (hks : (backToKw pos (keywordEach kws X.env)).filterMap (·.1) = ks := by rfl)
    (hst : starEach (e :: es) X.env = (false, eval e X.env) :: starEach es X.env := by rfl)
    (hpl : ((backTo pos (starEach (e :: es) X.env)).any (·.1) || (backToKw pos (keywordEach kws X.env)).any (·.1.isNone)) = false := by rfl)
    (ht : eval (.Call (.Attribute o m apos) (e :: es) kws pos) X.env = (do
      let ov ← eval o X.env
      standAt apos.atName
      let (f, first) ← holding [ov] (getMethod ov m pl)
      callWith pos f first (backTo pos (starEach (e :: es) X.env)) (backToKw pos (keywordEach kws X.env))) := by rfl) :
    PE X (.Call (.Attribute o m apos) (e :: es) kws pos) (tMtN C m n ks.length sp gV E ta t tk) := by
  obtain ⟨f, fd, F, hm, g, hb⟩ := h.ex
  refine ⟨fun pins s σ H Q I h => ?_⟩
  refine PySem.W.methodCall_KW (pl := pl) (thn (he.run pins s σ H _ I h) fun u s1 ⟨x, H1, I1, rx, a, dx, fs, ex, ea, l, q⟩ => ?_) ht
  subst ex
  obtain rfl : u = Value.ref a := rx
  refine getmeth_ok I1 ea c hm l ?_
  refine PySem.W.callWith_KW (first := [.ref a]) (h₀ := X.base) I.ok.mod.kin hm.kp hall (thn (ha.run pos pins s1 σ H1 _ I1 q) fun us s2 ⟨vs, H2, I2, r, q2⟩ => ?_) hpl hst
  refine thn (hkw.run pos pins s2 σ H2 _ I2 q2) fun ws s3 ⟨zs, H3, I3, rz, l1, l2, q3⟩ => ⟨I3.kIn, ?_⟩
  rw [hks]
  have r2 := hb.rel (vs := .ref a :: vs) (us := .ref a :: us) (.cons rfl r) rz
  exact wpAny_call (code_fnS F hr (hb.to s3 (.ref a :: us) ws I3.kIn (by rw [List.length_cons, ← r.length, l1]) (rz.length.symm.trans l2)) (hx σ) I3 r2 q3)
theorem pe_mtK (h : HasMtN X.prog X.w X.K X.mg X.base CX C m k 0 ps ks gV sp) (c : Cls X.K C) (he : PE X o ta) (hr : Room k X.A) (hx : ∀ σ, PassesAt CX X σ (E σ)) (hkw : PK X kws tk)
    (hall : (backToKw pos (keywordEach kws X.env)).all (·.1.isSome) = true := by rfl) (hks : (backToKw pos (keywordEach kws X.env)).filterMap (·.1) = ks := by rfl)
    (hpl : ((backTo pos (starEach [] X.env)).any (·.1) || (backToKw pos (keywordEach kws X.env)).any (·.1.isNone)) = false := by rfl)
    (ht : eval (.Call (.Attribute o m apos) [] kws pos) X.env = (do
      let ov ← eval o X.env
      standAt apos.atName
      let (f, first) ← holding [ov] (getMethod ov m pl)
      callWith pos f first (backTo pos (starEach [] X.env)) (backToKw pos (keywordEach kws X.env))) := by rfl) :
    PE X (.Call (.Attribute o m apos) [] kws pos) (tMtN C m 0 ks.length sp gV E ta tNil tk) := by
  obtain ⟨f, fd, F, hm, g, hb⟩ := h.ex
  refine ⟨fun pins s σ H Q I h => ?_⟩
  refine PySem.W.methodCall_KW (pl := pl) (thn (he.run pins s σ H _ I h) fun u s1 ⟨x, H1, I1, rx, a, dx, fs, ex, ea, l, q⟩ => ?_) ht
  subst ex
  obtain rfl : u = Value.ref a := rx
  refine getmeth_ok I1 ea c hm l ?_
  refine PySem.W.callWith_KW0 (first := [.ref a]) (h₀ := X.base) I.ok.mod.kin hm.kp hall ?_ hpl
  refine thn (hkw.run pos pins s1 σ H1 _ I1 q) fun ws s3 ⟨zs, H3, I3, rz, l1, l2, q3⟩ => ⟨I3.kIn, ?_⟩
  rw [hks]
  have r2 := hb.rel (vs := [.ref a]) (us := [.ref a]) (.cons rfl .nil) rz
  exact wpAny_call (code_fnS F hr (hb.to s3 [.ref a] ws I3.kIn rfl (rz.length.symm.trans l2)) (hx σ) I3 r2 q3)
theorem rd_mt {σ : L2.St} {H : Hp} {Q : VK} (h : ta σ H fun x H1 => ∃ a dx fs, x = .ref a ∧ H1 a = some (.ins C dx fs) ∧ fs.lookup m = none ∧ t σ H1 fun vs H2 => sp (.ref a :: vs) H2 Q (E σ)) : tMt C m sp E ta t σ H Q := h
theorem rd_mtN {j : Nat} {σ : L2.St} {H : Hp} {Q : VK} (h : ta σ H fun x H1 => ∃ a dx fs, x = .ref a ∧ H1 a = some (.ins C dx fs) ∧ fs.lookup m = none ∧ t σ H1 fun vs H2 => tk σ H2 fun zs H3 => vs.length = n ∧ zs.length = j ∧ sp (gV (.ref a :: vs) zs) H3 Q (E σ)) : tMtN C m n j sp gV E ta t tk σ H Q := h
end
theorem rd_dget {td ty : TE} {σ : L2.St} {H : Hp} {Q : VK} (h : td σ H fun x H1 => ty σ H1 fun y H2 => ∃ a v, x = .ref a ∧ DGet H2 a y (some v) ∧ Q v H2) : tDGet td ty σ H Q := h
theorem rd_din {td ty : TE} {σ : L2.St} {H : Hp} {Q : VK} (h : ty σ H fun y H1 => td σ H1 fun x H2 => ∃ a o, x = .ref a ∧ DGet H2 a y o ∧ Q (.bl o.isSome) H2) : tDIn ty td σ H Q := h
theorem dget_rd {H : Hp} {a : Addr} {kvs : List (Key × V)} {z : Str} (h : Rd H a (.dK kvs)) : DGet H a (.str z) (valV kvs (.inr z)) := .inl ⟨kvs, .inr z, h, rfl, rfl⟩
theorem dict_of {X : Cx} {pins : List (Addr × Obj)} {σ : L2.St} {H : Hp} {s : Shared} {a : Addr} {kvs : List (Key × V)} (I : Inv X pins σ H s) (h : Rd H a (.dK kvs)) : kvs.length ≤ sizeLine ∧ (a == sysModules) = false ∧ ∃ vs, KV kvs vs ∧ s.heap.DictOf (mixKind X.prog X.w) a vs := by
  rcases h with h | ⟨o, h⟩
  · obtain ⟨z, hs, vs, kv, d⟩ := (show ObjOk X.prog X.w H s.heap a (.dK kvs) from I.hok a _ h)
    exact ⟨z, hs, vs, kv, d⟩
  · obtain ⟨_, z, hs, vs, kv, d⟩ := (show ObjOk X.prog X.w H s.heap a (.frz o (.dK kvs)) from I.hok a _ h)
    exact ⟨z, hs, vs, kv, d⟩
/-- list(d.items()), d frozen or not -/
def rItemsR : V → Hp → VK → Prop := fun x H Q => ∃ (d : Addr) (kvs : List (Key × V)), x = .ref d ∧ Rd H d (.dK kvs) ∧
  ∀ (H' : Hp) (p : Addr) (ts : List Addr), (∀ b o, H b = some o → H' b = some o) → H p = none → (∀ t ∈ ts, H t = none) → p ∉ ts → H' p = some (.lst (ts.map V.ref)) → Paired (fun (t : Addr) (q : Key × V) => H' t = some (.tup [kV q.1, q.2])) ts kvs → Q (.ref p) H'
def tListItemsR (te : TE) : TE := fun σ H Q => te σ H fun x H1 => rItemsR x H1 Q
theorem rd_li {te : TE} {σ : L2.St} {H : Hp} {Q : VK} (h : te σ H fun x H1 => rItemsR x H1 Q) : tListItemsR te σ H Q := h
section
variable {X : Cx} {e : Expr} {te : TE} {p apos cpos pos : Pos}
theorem pe_listItemsR (hc : X.calm = true) (he : PE X e te) (hg : Gl X "list") (hm : X.mg "list" = none) (hv : bootBuiltins "list" = some (.type "list")) (hbase : attributeBase e "items" X.env (eval e X.env) = eval e X.env := by rfl) (hline : (apos.endLine == cpos.line) = true := by rfl)
    (hs : starEach [.Call (.Attribute e "items" apos) [] [] cpos] X.env = (false, eval (.Call (.Attribute e "items" apos) [] [] cpos) X.env) :: starEach [] X.env := by rfl) :
    PE X (.Call (.Name "list" p) [.Call (.Attribute e "items" apos) [] [] cpos] [] pos) (tListItemsR te) := by
  refine ⟨fun pins s σ H Q I hq => ?_⟩
  refine wpAny_Call_Name_kw (ld_blt I hg hm hv ?_)
  refine PyProof.Rows.callWith_type1 ?_ hs rfl
  rw [hs]
  show wpAny _ _ (spliced ((false, eval (.Call (.Attribute e "items" apos) [] [] cpos) X.env) :: backTo pos (starEach [] X.env))) _ _ s
  refine Calls.spliced_cons ?_
  refine wpAny_Call_method (T := "dict") (id := "dict.items") hbase rfl hline F.plainAttrs_dict F.slot_dict_items F.type_dict_items (thn (he.run pins s σ H _ I hq) fun u s1 ⟨x, H1, I1, rx, d, kvs, ex, hd, q⟩ => ?_)
  subst ex
  obtain rfl : u = Value.ref d := rx
  obtain ⟨hz, hs0, vs, kv, hdo⟩ := dict_of I1 hd
  obtain ⟨ep, hat⟩ := hdo.dictAt
  have lk : kvs.length = vs.length := Paired.length kv
  have I2 : Inv X pins σ H1 { s1 with heap := s1.heap.push { cls := .type "dict_items", data := .fields #[.ref d] } } := I1.kept (t' := s1.toks) fun b ob q => Heap.get?_push_of_some _ q
  refine ⟨hdo.typeIs, hdo.mapOf.noDict, ?_⟩
  show wpAny _ _ (callWith cpos (.builtin "dict.items") [.ref d] [] []) _ X.xe s1
  refine method_meetsIn F.slot_dict_items F.entry_dict_items rfl (PySem.evalArgs_none ⟨rfl, hdo.typeIs, F.args_dict_items_1 _, _, meets_dict_items (mixKind X.prog X.w) d hs0, ⟨vs, hdo⟩, ?_⟩)
  refine Calls.spliced_nil ?_
  refine PySem.W.kdx_call (knd := mixKind X.prog X.w) (kvs := vs) (ep := ep) (I1.ok.hd hc) ⟨_, Heap.get?_push_size _ rfl, rfl, rfl⟩ (hat.push _) (by omega) fun h' tk acc c as hk hS hl hG hacc => ?_
  obtain ⟨H', k1, k2, k3, k4, k5, k6, J⟩ := LiI.items_laid (tk := tk) I2 hz kv hk hS hl hG hacc
  exact ⟨.ref _, H', J, rfl, q H' _ as k1 k2 k3 k4 k5 k6⟩
end
set_option maxHeartbeats 1000000
def ItK (o : Obj) (d it : Addr) : HO := .ext fun h => ∃ (es : Array DictEntry) (ep : Nat), o.data = .dict es ep ∧ h.IsKeyIter it d 0 es.size ep
def rIterD (n : Nat) : List V → Hp → VK → Prop := fun xs H Q => ∃ (d : Addr) (o : Obj) (kvs : List (Key × V)), xs = [.ref d] ∧ H d = some (.frz o (.dK kvs)) ∧ ∀ it, H it = none → n ≤ it → Q (.ref it) (upd H it (ItK o d it))
section
variable {X : Cx}
theorem call_iterD : CallR X (.builtin "iter") (rIterD X.s_0.heap.objs.size) := by
  intro pins s σ H xs us Q I r h
  obtain ⟨d, o, kvs, rfl, hd, q⟩ := h
  obtain ⟨u, rfl, ru⟩ := vals1 r
  cases ru
  obtain ⟨hs, hgd, hx, es, ep, vs, hdt, hsz, kv, hm⟩ := I.frzK hd
  refine Calls.call_function_entry (by decide +kernel) (by decide +kernel) PySem.W.kdk_entry_iter (PySem.W.kdk_args_iter _) ?_
  unfold Builtin.«iter»
  refine wpAny_bind (m := someArgs "iter" 1 2 _) (wpAny_of_eq (a := [Value.ref d]) (by first | rfl | kernel_rfl!) ?_)
  show wpAny _ _ (pyIter (.ref d) >>= _) _ _ _
  refine wpAny_bind (iter_keys hs hgd hx hdt ?_)
  refine wpAny_pure ⟨_, rfl, ?_⟩
  have hit : (s.heap.push { cls := .type "dict_keyiterator", data := .fields #[.ref d, .int 0 0, .int es.size 0, .int ep 0] }).IsKeyIter s.heap.objs.size d 0 es.size ep := ⟨_, Heap.get?_push_size _ rfl, rfl, rfl⟩
  refine ⟨.ref s.heap.objs.size, _, I.laid (t' := s.toks) (o := ItK o d s.heap.objs.size) (fun b u e => Heap.get?_push_of_some _ e) (Nat.le_refl _) ⟨⟨es, ep, hdt, hit⟩, ⟨_, Heap.get?_push_size _ rfl⟩, ?_⟩, rfl, q _ (I.hok.fresh (Nat.le_refl _)) I.sz⟩
  rintro h1 h2 ⟨es', ep', e1, e2⟩ k
  exact ⟨es', ep', e1, e2.at fun o e => k o e⟩
end
structure FnS (P : Program) (w : World) (K : PySem.W.Frag) (mg : Str → Option Value) (base : Heap) (CX : CXT) (k : Nat) (f : Addr) (fd : FuncData) (ps : List Str) (sp : Nat → Sp) : Prop where
  len : ∀ n vs H Q E, sp n vs H Q E → vs.length = ps.length
  run : ∀ (A : Around) (outer : List Env) (s : Shared) (H : Hp) (args : Args) (us : List Value) (vs : List V) (Q : VK) (E : XK), Room k A → Env0 P w K mg base A outer s H → BindsTo s fd args (ps.zip us) → Vals vs us → sp s.heap.objs.size vs H Q E →
    codeAny (model P w) A (.call (.ref f) args) (CR CX outer P w H s Q E) s
theorem FnS.mono {P : Program} {w : World} {K : PySem.W.Frag} {mg : Str → Option Value} {base : Heap} {CX : CXT} {j k : Nat} {f : Addr} {fd : FuncData} {ps : List Str} {sp : Nat → Sp} (F : FnS P w K mg base CX j f fd ps sp) (h : j ≤ k) :
    FnS P w K mg base CX k f fd ps sp := ⟨F.len, fun A outer s H args us vs Q E hr => F.run A outer s H args us vs Q E (hr.mono h)⟩
theorem fn_ofS {P : Program} {w : World} {K : PySem.W.Frag} {mg : Str → Option Value} {base : Heap} {k : Nat} {f : Addr} {fd : FuncData} {x qual : Str} {st : Stmt} {N ps : List Str} {sp : Nat → Sp} (F : Fun K x qual st f fd) (S : FnScope N ps (defScope st))
    (len : ∀ n vs H Q E, sp n vs H Q E → vs.length = ps.length)
    (hbody : ∀ (cdv : Value) (A : Around) (outer : List Env) (s : Shared) (H : Hp) (vs : List V) (Q : VK) (E : XK), Room k (A.deeper (envOfC qual (defScope st) s.heap.objs.size f cdv)) → sp s.heap.objs.size vs H Q E →
      ∃ t, PSs (cxOf CX0 P w K mg base N qual (defScope st) f cdv A outer s H E).nox (defBody st) t ∧ t { nx := fun _ H' => Q .non H', rt := Q } (start N vs) H) : FnS P w K mg base CX0 (k + 1) f fd ps sp := by
  obtain ⟨oc, od, kV, doc, pm, an, cdv, ct, osl, rfl, lk, hcd⟩ := F.ex
  refine ⟨len, fun A outer s H args us vs Q E hr e0 hb r hsp => ?_⟩
  have hl := len _ _ _ _ _ hsp
  have KX : K.In s.heap := e0.mod.kin.keeps fun b o e => (e0.bs b o e).1
  have lim : s.heap.NoLimit := e0.mod.nolimit.keeps fun b o e => (e0.bs b o e).1
  have hkind : ∀ y ∈ ps.zip us, (defScope st).names.lookup y.1 = some .local ∨ ((defScope st).names.lookup y.1 = some .cell ∧ ((cellsFrom (s.heap.objs.size + 1) (defScope st).names []).lookup y.1).isSome = true) := fun ⟨n, v⟩ hy => by
    rcases S.par n (List.of_mem_zip hy).1 with q | q
    · exact .inl q
    · exact .inr ⟨q, PySem.W.cellsFrom_some _ _ _ (.inl q)⟩
  refine codeAny_call_function hr.depth (KX _ _ lk) rfl S.co S.gen rfl (PySem.W.codeRec_of KX hcd) (hb _ _ _ _ ?_)
  refine wpAny_newFunctionEnv_cells S.kind hkind fun env he s1 x => ?_
  subst he
  refine ⟨lim.keeps x.toInCall.keep, codeAny_func ?_⟩
  obtain ⟨t, ht0, hq⟩ := hbody cdv A outer s H vs Q E (hr.deeper _) hsp
  have ht := ht0.nox
  have I : Inv (cxOf CX0 P w K mg base N qual (defScope st) f cdv A outer s H E) [] (start N vs) H s1 := inv_start S hr.hd e0 hl r x
  refine wpAny_mono (ht.run [] s1 (start N vs) H _ I hq) (fun fl s' hs => ?_) fun e s' hs => hs
  have fin : ∀ {σ' : L2.St} {H' : Hp} {v : V} {u : Value}, Inv (cxOf CX0 P w K mg base N qual (defScope st) f cdv A outer s H E) [] σ' H' s' → RelV v u → Q v H' → CE outer P w H s Q u s' :=
    fun {σ' H' v u} J rv q => ⟨v, H', J.os, J.bare, J.base, J.hok, rv, q⟩
  cases fl with
  | ret u =>
    obtain ⟨v, σ', H', J, rv, q⟩ := hs
    exact fin J rv q
  | next =>
    obtain ⟨σ', H', J, q⟩ := hs
    exact fin (v := V.non) (u := Value.none) J rfl q
  | brk =>
    obtain ⟨_, _, _, q⟩ := hs
    exact False.elim q
  | cont =>
    obtain ⟨_, _, _, q⟩ := hs
    exact False.elim q
def spIterF (C : Addr) (fld : Str) : Nat → Sp := fun n vs H Q _ => ∃ (a dx d : Addr) (fs : List (Str × V)) (o : Obj) (kvs : List (Key × V)), vs = [.ref a] ∧ H a = some (.ins C dx fs) ∧ fs.lookup fld = some (.ref d) ∧ H d = some (.frz o (.dK kvs)) ∧ ∀ it, H it = none → n ≤ it → Q (.ref it) (upd H it (ItK o d it))
structure HasIt (P : Program) (w : World) (K : PySem.W.Frag) (mg : Str → Option Value) (base : Heap) (C : Addr) (fld : Str) (k : Nat) : Prop where
  ex : ∃ f fd, FnS P w K mg base CX0 k f fd ["self"] (spIterF C fld) ∧ PySem.W.findIn K (.ref C) "__iter__" = some (some (.ref f)) ∧ PySem.W.isFn K (.ref f) = true ∧ Binds K fd ["self"] []
  nolen : PySem.W.findIn K (.ref C) "__len__" = some none
  nohint : PySem.W.findIn K (.ref C) "__length_hint__" = some none
theorem HasIt.mono {P : Program} {w : World} {K : PySem.W.Frag} {mg : Str → Option Value} {base : Heap} {C : Addr} {fld : Str} {j k : Nat} (h : HasIt P w K mg base C fld j) (l : j ≤ k) : HasIt P w K mg base C fld k := by
  obtain ⟨f, fd, F, r⟩ := h.ex
  exact ⟨⟨f, fd, F.mono l, r⟩, h.nolen, h.nohint⟩
/-- what is walked: the keys of the dict in the field -/
def Walked (C : Addr) (fld : Str) (H : Hp) (x : V) (R : Addr → Obj → List (Key × V) → Prop) : Prop := ∃ (a dx d : Addr) (fs : List (Str × V)) (o : Obj) (kvs : List (Key × V)), x = .ref a ∧ H a = some (.ins C dx fs) ∧ fs.lookup fld = some (.ref d) ∧ H d = some (.frz o (.dK kvs)) ∧ R d o kvs
def iOwn (C : Addr) (fld : Str) (te : TE) : TI := fun σ H R => te σ H fun x H1 => Walked C fld H1 x fun d o kvs => R (Itk d o kvs) H1
section
variable {X : Cx} {C : Addr} {fld : Str} {k : Nat}
theorem it_called {pins : List (Addr × Obj)} {σ : L2.St} {H : Hp} {s : Shared} {a dx d : Addr} {fs : List (Str × V)} {o : Obj} {kvs : List (Key × V)} {A1 : Around} {E : Value → Shared → Prop} {f : Addr} {fd : FuncData} {Q : Value → Shared → Prop}
    (F : FnS X.prog X.w X.K X.mg X.base CX0 k f fd ["self"] (spIterF C fld)) (hb : Binds X.K fd ["self"] []) (sb : Sub X k A1) (I : Inv X pins σ H s) (ha : H a = some (.ins C dx fs)) (hf : fs.lookup fld = some (.ref d)) (hd : H d = some (.frz o (.dK kvs)))
    (h : ∀ (it : Addr) (s' : Shared) (es : Array DictEntry) (ep : Nat), s.heap.objs.size ≤ it → Inv X pins σ H s' → FpOk X pins H it → o.data = .dict es ep → s'.heap.IsKeyIter it d 0 es.size ep → Q (.ref it) s') :
    wpAny (model X.prog X.w) A1 (call (.ref f) [.ref a]) Q E s := by
  have e0 : Env0 X.prog X.w X.K X.mg X.base A1 X.stack s H := by
    have e := I.env0
    exact ⟨by rw [sb.fr]; exact e.frames, e.mod, e.bs, e.bsz, e.funs, e.frf, e.hok, e.bare⟩
  have hsp : spIterF C fld s.heap.objs.size [.ref a] H (fun v H' => ∃ it, v = .ref it ∧ s.heap.objs.size ≤ it ∧ H it = none ∧ H' = upd H it (ItK o d it)) (fun _ _ _ => False) := ⟨a, dx, d, fs, o, kvs, rfl, ha, hf, hd, fun it n l => ⟨it, rfl, l, n, rfl⟩⟩
  have r2 : Vals [V.ref a] [Value.ref a] := .cons rfl .nil
  have bb := hb s [.ref a] I.kIn rfl
  rw [List.append_nil] at bb
  refine wpAny_call (codeAny_mono (F.run A1 X.stack s H ⟨[.ref a], []⟩ [.ref a] [.ref a] _ _ sb.room e0 bb r2 hsp) fun r s' hq => ?_)
  cases r with
  | error e => exact False.elim hq
  | ok fl =>
    cases fl with
    | next => exact False.elim hq
    | brk => exact False.elim hq
    | cont => exact False.elim hq
    | ret u =>
      obtain ⟨v, H', I', rv, it, ev, hl, hn, eH⟩ := I.after hq
      subst ev
      cases rv
      have hit : H' it = some (ItK o d it) := by rw [eH, upd_same]
      obtain ⟨⟨es, ep, e1, e2⟩, _⟩ := (show ObjOk X.prog X.w H' s'.heap it (ItK o d it) from I'.hok it _ hit)
      have I2 := ItX.inv_drop I' hit
      have fp := ItX.inv_fp I' hit (Nat.le_trans I.sz hl)
      rw [eH, ItX.dropH_upd hn] at I2 fp
      exact h it s' es ep hl I2 fp e1 e2
theorem pi_own {tg e : Expr} {te : TE} (hI : HasIt X.prog X.w X.K X.mg X.base C fld k) (hr : Room k X.A) (he : PE X e te) : PI X tg e (iOwn C fld te) := by
  obtain ⟨f, fd, F, hs, hfn, hb⟩ := hI.ex
  refine ⟨fun pins s σ H R I h => ?_⟩
  refine thn (he.run pins s σ H _ I h) fun v s1 ⟨x, H1, I1, r1, a, dx, d, fs, o, kvs, ex, ha, hf, hd, q⟩ => ?_
  subst ex
  cases r1
  obtain ⟨mA, J, _⟩ := ins_get I1.hok ha
  obtain ⟨od, J, _⟩ := J.look
  obtain ⟨m, hF⟩ := I1.fr
  refine PySem.W.owit_iter hF I1.ok.mod.kin J hs hfn (it_called F hb ⟨hr, rfl⟩ I1 ha hf hd fun it s2 es ep hl I2 fp hdt hit => ?_)
  unfold PySem.W.OwitIt
  refine wpAny_specialOf (name := Str.ofString "__next__") hit.typeIs PySem.F.slot_dict_keyiterator_next.lookup ?_
  obtain ⟨hs', hgd, hx, es', ep', vs, hdt', hsz, kv, hm⟩ := I2.frzK hd
  obtain ⟨rfl, rfl⟩ := dict_ep hdt hdt'
  refine ⟨it, [it], _, _, H1, rfl, I2, turn_keys it hdt', ?_, fun b hb => ?_, q⟩
  · rw [hsz] at hit; exact hit
  · have e : b = it := by simpa using hb
    rw [e]; exact fp
def rListIt (C : Addr) (fld : Str) : List V → Hp → VK → Prop := fun xs H Q => ∃ x, xs = [x] ∧ Walked C fld H x fun _ _ kvs => ∀ q, H q = none → Q (.ref q) (upd H q (.lst (kvs.map fun kv => kV kv.1)))
theorem own_hint' {M : Model} {A : Around} {E : Value → Shared → Prop} {s : Shared} {a : Addr} {Q : Bool → Shared → Prop} {K : PySem.W.Frag} {ox : Obj} {od : Option Obj} (nl : PySem.W.findIn K (.ref C) "__len__" = some none) (nh : PySem.W.findIn K (.ref C) "__length_hint__" = some none) (hK : K.In s.heap) (J : PySem.W.InstAt s.heap a ox C od) (h : Q true s) :
    wpAny M A (Builtin.List.listLengthHint (.ref a)) Q E s := by
  unfold Builtin.List.listLengthHint
  refine wpAny_bind (wpAny_bind (J.type.here ((PySem.W.looks_findIn hK nl).here ?_)))
  refine PySem.W.KFB.if_not rfl ?_
  refine PySem.W.KFB.if_not rfl ?_
  refine wpAny_bind (wpAny_bind (J.type.here ((PySem.W.looks_findIn hK nh).here ?_)))
  exact wpAny_pure h
theorem call_listIt (hI : HasIt X.prog X.w X.K X.mg X.base C fld k) (hr : Room (k + 2) X.A) (hc : X.calm = true) : CallR X (.type "list") (rListIt C fld) := by
  obtain ⟨f, fd, F, hs, hfn, hb⟩ := hI.ex
  intro pins s σ H xs us Q I rv h
  obtain ⟨x, rfl, a, dx, d, fs, o, kvs, rfl, ha, hf, hd, hq⟩ := h
  obtain ⟨u, rfl, ru⟩ := rv.one
  cases ru
  have sb : Sub X k X.A.in1.in1 := (Sub.in1 (Sub.in1 (⟨hr, rfl⟩ : Sub X (k + 2) X.A)))
  refine callType_codes (Q₁ := fun obj s₁ => obj = .ref s.heap.objs.size ∧ s₁ = { s with heap := s.heap.push { cls := .type "list", data := .seq #[] } }) PySem.F.called_list (PySem.F.typeCall_list_1 _) PySem.F.entry_list_init
    (code_list_new _ ⟨rfl, rfl⟩) fun obj s₁ h₁ => ?_
  obtain ⟨rfl, rfl⟩ := h₁
  have hS : (s.heap.push { cls := .type "list", data := .seq #[] }).get? s.heap.objs.size = some { cls := .type "list", data := .seq #[] } := Heap.get?_push_size _ rfl
  refine ⟨⟨_, hS, rfl⟩, PySem.F.args_list_init_2 _ _, ?_⟩
  have fr : H s.heap.objs.size = none := I.hok.fresh (Nat.le_refl _)
  have I1 : Inv X pins σ (upd H s.heap.objs.size (.lst [])) { s with heap := s.heap.push { cls := .type "list", data := .seq #[] } } := I.lnew (its := []) (t' := s.toks) .nil (Nat.zero_le _)
  generalize hq0 : s.heap.objs.size = S at *
  show wpAny _ _ (do let old ← Builtin.List.listItems (.ref S); Builtin.List.listUpdate (.ref S) (fun _ => #[]); letGo old.toList.reverse; Builtin.List.listExtendWith (.ref S) (.ref a) .none) _ _ _
  refine wpAny_bind ?_
  unfold Builtin.List.listItems
  refine wpAny_bind (wpAny_seqItems hS rfl (wpAny_pure ?_))
  show wpAny _ _ (updateSeq S (fun _ => #[]) >>= fun _ => letGo (#[] : Array Value).toList.reverse >>= fun _ => Builtin.List.listExtendWith (.ref S) (.ref a) .none) _ _ _
  refine wpAny_bind (wpAny_updateSeq hS rfl ?_)
  have I2 := I1.lset (f := fun _ => #[]) (its := []) (its' := []) (ys := []) (t' := s.toks) upd_same hS rfl .nil (Nat.zero_le _)
  rw [upd_upd] at I2
  refine wpAny_bind (wpAny_letGo ?_)
  have sm := same_new (o := .lst []) fr
  have ha2 := sm _ _ ha
  have hd2 := sm _ _ hd
  generalize hH2 : upd H S (.lst []) = H2 at *
  have hS2 : H2 S = some (.lst []) := by rw [← hH2, upd_same]
  generalize hs2 : ({ s with heap := (s.heap.push { cls := .type "list", data := .seq #[] }).update S (Obj.mapSeq fun _ => #[]), toks := s.toks } : Shared) = s2 at I2
  have hne : S ≠ a := ne_of hS2 ha2 (fun z => nomatch z)
  have hnd : S ≠ d := ne_of hS2 hd2 (fun z => nomatch z)
  obtain ⟨mA, J, _⟩ := ins_get I2.hok ha2
  obtain ⟨od, J, _⟩ := J.look
  obtain ⟨m0, hF⟩ := I2.fr
  unfold Builtin.List.listExtendWith
  refine wpAny_bind (J.type.here ?_)
  have h1 : Builtin.List.listSameRef (.ref S) (.ref a) = false := by simp [Builtin.List.listSameRef, hne]
  have h2 : (Value.ref C == Value.type "list") = false := rfl
  have h3 : (Value.ref C == Value.type "tuple") = false := rfl
  simp only [h1, h2, h3, Bool.or_false, Bool.false_eq_true, if_false]
  refine wpAny_bind (PySem.W.owit_iter hF I2.ok.mod.kin J hs hfn (it_called F hb sb I2 ha2 hf hd2 fun it s3 es ep hl I3 fp hdt hit => ?_))
  unfold PySem.W.OwitIt
  refine wpAny_specialOf (name := Str.ofString "__next__") hit.typeIs PySem.F.slot_dict_keyiterator_next.lookup ?_
  obtain ⟨mA3, J3, _⟩ := ins_get I3.hok ha2
  obtain ⟨od3, J3, _⟩ := J3.look
  refine wpAny_bind (wpAny_holding (own_hint' hI.nolen hI.nohint I3.kIn J3 ?_))
  -- the loop, from a state whose list is empty
  have loop : ∀ s4 : Shared, Inv X pins σ H2 s4 → FpOk X pins H2 it → s4.heap.IsKeyIter it d 0 es.size ep → codeAny (model X.prog X.w) X.A.in1 (.builtin "list.extend.loop" ⟨[.ref S, .ref it, .none], []⟩) (wants (fun r s₂ => r = .none ∧ EP X pins σ Q (.ref S) s₂) X.xe) s4 := fun s4 I4 fp4 hit4 => by
    obtain ⟨hs', hgd, hx, es', ep', vs, hdt', hsz, kv, hm⟩ := I4.frzK hd2
    obtain ⟨e1, e2⟩ := dict_ep hdt hdt'
    rw [e1] at hsz
    obtain ⟨z, its, kk, r3, hl3, e3⟩ := I4.lstM hS2
    cases r3
    have hSit : S ≠ it := fun q => by have := fp4.1; rw [← q, hS2] at this; cases this
    have hitd : d ≠ it := fun q => by have := fp4.1; rw [← q, hd2] at this; cases this
    have hh : X.A.in1.in1.handled = none := I.ok.hd hc
    have hlk : kvs.length = vs.length := Paired.length kv
    rw [hsz, hlk, ← e2] at hit4
    refine codeAny_extend_loopS (Walks.dictKeys (knd := mixKind X.prog X.w) hh it d hitd vs ep').toS (by
      have := (dict_of I4 (.inr ⟨_, hd2⟩)).1
      omega) S (by simp [hSit, hnd]) .none _ 0 s4 _ kk rfl (Nat.zero_le _) ⟨hit4, hm⟩ e3 (ItemsOf.nil _) fun s5 acc' c' hm5 hS5 hacc => ?_
    have hv : Vals (kvs.map fun kv => kV kv.1) acc'.toList := by
      have ek : (kvs.map fun kv => kV kv.1) = vs.map fun p => kV p.1 := by
        have e := congrArg (List.map kV) kv.keys
        rw [List.map_map, List.map_map] at e
        exact e
      rw [ek]
      exact keys_at (by rw [Array.length_toList]; exact hacc.1) fun j v e => hacc.2 j v (by rw [← Array.getElem?_toList]; exact e)
    have hzl := (dict_of I4 (.inr ⟨_, hd2⟩)).1
    obtain ⟨f0, f1, f2, f3, f4, f5⟩ := fp4
    have hmv : ∀ b o, b ≠ S → b ≠ it → s4.heap.get? b = some o → s5.heap.get? b = some o := fun b o n1 n2 e => hm5.heap b o (by simp [n1, n2]) e
    have gens : s5.gens = s4.gens := hm5.gens
    refine ⟨rfl, .ref S, upd H2 S (.lst (kvs.map fun kv => kV kv.1)), ?_, rfl, ?_⟩
    · refine I4.call' (ch := [it]) hm5.os ⟨fun b o e n _ hx => hmv b o (fun q => by rw [q, hS2] at n; cases n) (fun q => hx (by simp [q])) e, fun b o e n _ hx => ⟨o.slots, hmv b o (fun q => by rw [q, hS2] at n; cases n) (fun q => hx (by simp [q])) e⟩, fun b o e n hx => ?_, fun b o e hx => ?_, fun b xs e => ?_, fun b o u e => ?_, fun b ps e => ⟨#[], ?_⟩⟩ (fun b u e => ?_) (by rw [gens]; exact I4.bare) (fun b hb => ?_)
      · rw [upd_ne (fun q => by rw [q, hS2] at n; cases n)]; exact n
      · by_cases c : b = S
        · rw [c]; exact ⟨_, hS5⟩
        · exact ⟨o, hmv b o c (fun q => hx (by simp [q])) e⟩
      · rw [upd_ne (ne_of e hS2 (fun z => nomatch z))]; exact e
      · rw [upd_ne (ne_of e hS2 (fun z => nomatch z))]; exact e
      · rw [upd_ne (ne_of e hS2 (fun z => nomatch z)), e]; simp
      · by_cases c : b = S
        · rw [c, upd_same] at e
          cases e
          rw [c]
          exact ⟨by rw [List.length_map]; exact hzl, acc'.toList, c', hv, by rw [Array.toArray_toList]; exact hS5⟩
        · rw [upd_ne c] at e
          refine (I4.hok b u e).stay (fun b' v hc' q => hmv b' v ?_ ?_ q) (fun b' q => ?_) fun b' xs q => ?_
          · rcases hc' with z | z
            · rw [z]; exact c
            · intro z2; rw [z2, hS2] at z; cases z
          · rcases hc' with z | z
            · intro z2; rw [← z, z2, f0] at e; cases e
            · intro z2; rw [z2, f0] at z; cases z
          · rw [upd_ne (ne_of q hS2 (fun z => nomatch z))]; exact q
          · rw [upd_ne (ne_of q hS2 (fun z => nomatch z))]; exact q
      · have eb : b = it := by simpa using hb
        rw [eb]
        exact ⟨f3, f1, f4, f5⟩
    · rw [← hH2, upd_upd]; exact hq S fr
  obtain ⟨z, its, kk, r3, hl3, e3⟩ := I3.lstM hS2
  cases r3
  refine wpAny_ite_split (fun _ => ?_) (fun _ => wpAny_pure ⟨plainId_quiet PySem.F.plain_extend_loop _, loop s3 I3 fp hit⟩)
  refine wpAny_bind (wpAny_rule ?_)
  refine wpAny_bind ?_
  show wpAny _ _ (updateSeq S (·.push .none) >>= fun _ => updateSeq S (·.pop)) _ _ _
  refine wpAny_bind (wpAny_updateSeq e3 rfl ?_)
  have I4 := I3.lset (f := (·.push Value.none)) (its' := [Value.none]) (ys := [.non]) (t' := s3.toks) hS2 e3 (by simp) (.cons rfl .nil) (by rw [List.length_singleton, sizeLine_eq]; decide)
  obtain ⟨z4, its4, k4, r4, hl4, e4⟩ := I4.lstM upd_same
  obtain ⟨u4, rfl, ru4⟩ := r4.one
  refine wpAny_updateSeq e4 rfl ?_ (by show 1 ≤ sizeLine; rw [sizeLine_eq]; decide) (by show 0 ≤ sizeLine + 1; exact Nat.zero_le _)
  have hSit : S ≠ it := fun q => by have := fp.1; rw [← q, hS2] at this; cases this
  have I5 := I4.lset (f := (·.pop)) (its := [u4]) (its' := []) (ys := []) (t' := s3.toks) upd_same e4 (by rfl) .nil (Nat.zero_le _)
  rw [upd_upd] at I5
  have hH : upd H2 S (.lst []) = H2 := upd_id hS2
  rw [hH] at I5
  refine wpAny_pure ⟨plainId_quiet PySem.F.plain_extend_loop _, loop _ I5 fp (hit.at fun o e => ?_)⟩
  exact (Heap.get?_update_other _ _ hSit).trans ((Heap.get?_update_other _ _ hSit).trans e)
end
set_option maxHeartbeats 1000000
def SN (v : V) : Prop := v = .non ∨ ∃ i, v = .int i
instance : DecidableEq (Option V) := inferInstance
def eqFl (ls : List (Key × V)) (ks : List (Key × V)) : Bool := ks.all fun p => decide (valV ls p.1 = some p.2)
def rEqDS : R2 := fun x y H Q => ∃ a b ks ls, x = .ref a ∧ y = .ref b ∧ Rd H a (.dK ks) ∧ Rd H b (.dK ls) ∧ (∀ p ∈ ks, SN p.2) ∧ (∀ p ∈ ls, SN p.2) ∧ Q (.bl (decide (ks.length = ls.length) && eqFl ls ks)) H
theorem eq_sn {A : Around} {s : Shared} {v u : V} {x y : Value} (hv : SN v) (hu : SN u) (rv : RelV v x) (ru : RelV u y) : SeqAt.EqAt A s x y (decide (v = u)) := by
  rcases hv with rfl | ⟨i, rfl⟩ <;> rcases hu with rfl | ⟨j, rfl⟩
  · cases rv; cases ru
    exact SeqAt.EqAt.same _
  · cases rv; obtain ⟨t, rfl⟩ := ru
    rw [decide_eq_false (fun e => nomatch e)]; exact SeqAt.EqAt.none_int j t
  · cases ru; obtain ⟨t, rfl⟩ := rv
    rw [decide_eq_false (fun e => nomatch e)]; exact SeqAt.EqAt.int_none i t
  · obtain ⟨t, rfl⟩ := rv; obtain ⟨t', rfl⟩ := ru
    have e : decide (V.int i = V.int j) = (i == j) := by
      by_cases c : i = j <;> simp [c]
    rw [e]; exact SeqAt.EqAt.int_int i t j t'
theorem hits_sn {A : Around} {s : Shared} {kvs : List (Key × V)} {vb : List (Key × Value)} (rb : KV kvs vb) (hb : ∀ p ∈ kvs, SN p.2) {ks : List (Key × V)} {va : List (Key × Value)} (ra : KV ks va) :
    (∀ p ∈ ks, SN p.2) → ∃ r, PySem.W.KeqHits A s vb va r ∧ r = eqFl kvs ks := by
  unfold KV at ra
  induction ra with
  | nil => intro _; exact ⟨true, .nil, rfl⟩
  | @cons p q ps qs h t ih =>
    intro hp
    obtain ⟨h1, h2⟩ := h
    obtain ⟨r, hr, er⟩ := ih fun p' hm => hp p' (List.mem_cons_of_mem _ hm)
    have rv := rb.val p.1
    obtain ⟨k, v⟩ := q
    have h1' : p.1 = k := h1
    have e0 : eqFl kvs (p :: ps) = (decide (valV kvs p.1 = some p.2) && eqFl kvs ps) := rfl
    cases hl : valV kvs p.1 with
    | none =>
      rw [hl] at rv
      have hn := RelO.none_of rv
      rw [h1'] at hn
      refine ⟨false, .miss hn, ?_⟩
      rw [e0, hl, decide_eq_false (fun e => nomatch e)]; rfl
    | some u =>
      rw [hl] at rv
      obtain ⟨y, hy, ry⟩ := rv.some_of
      rw [h1'] at hy
      have su : SN u := by
        have hm : (p.1, u) ∈ kvs := by
          unfold valV at hl
          cases hf : kvs.find? fun kv => decide (kv.1 = p.1) with
          | none => rw [hf] at hl; cases hl
          | some z =>
            rw [hf] at hl
            have e1 : z.2 = u := Option.some.inj hl
            have e2 : z.1 = p.1 := by have := List.find?_some hf; simpa using this
            have e3 := List.mem_of_find?_eq_some hf
            rw [← e1, ← e2]; exact e3
        exact hb _ hm
      refine ⟨decide (p.2 = u) && r, .hit hy (eq_sn (hp p List.mem_cons_self) su h2 ry) hr, ?_⟩
      rw [e0, hl, er]
      congr 1
      by_cases c : p.2 = u
      · rw [c, decide_eq_true rfl, decide_eq_true rfl]
      · rw [decide_eq_false c, decide_eq_false (fun e => c (Option.some.inj e).symm)]
theorem op_eqDS {X : Cx} (hu : X.A.units < cLine) : OpR X (compareOp .Eq) rEqDS := by
  intro pins s σ H x y v u Q I rx ry h
  obtain ⟨a, b, ks, ls, rfl, rfl, ea, eb, ha, hb, q⟩ := h
  obtain rfl : v = Value.ref a := rx
  obtain rfl : u = Value.ref b := ry
  obtain ⟨_, ya, va, ra, da⟩ := dict_of I ea
  obtain ⟨_, yb, vb, rb, db⟩ := dict_of I eb
  obtain ⟨r, hr, er⟩ := hits_sn (A := X.A.in1) (s := s) rb hb ra ha
  refine PySem.W.keq_eq (knd := mixKind X.prog X.w) (r := r) ya yb da db hu (fun _ => hr) (fin_bl I q ?_)
  rw [er, ← ra.length, ← rb.length]
  by_cases c : ks.length = ls.length <;> simp [c]
theorem rd_iItems {td : TE} {σ : L2.St} {H : Hp} {R : It → Hp → Prop} (h : td σ H fun x H1 => ∃ d o kvs, x = .ref d ∧ H1 d = some (.frz o (.dK kvs)) ∧ R (Iti d o kvs) H1) : iItems td σ H R := h
theorem rd_iOwn {C : Addr} {fld : Str} {te : TE} {σ : L2.St} {H : Hp} {R : It → Hp → Prop} (h : te σ H fun x H1 => Walked C fld H1 x fun d o kvs => R (Itk d o kvs) H1) : iOwn C fld te σ H R := h
theorem lc_items {d : Addr} {o : Obj} {kvs : List (Key × V)} {g : TG} {tt : TT} {te : TE} {vs : List Nat} {σ : L2.St} {H1 : Hp} {D : Addr} {Qd : Hp → Prop} (Pv : Nat → Hp → Prop) (h0 : Pv 0 (upd H1 D (.lst []))) (hl : ∀ i H, Pv i H → H d = some (.frz o (.dK kvs)))
    (hs : ∀ i k v T H, kvs[i]? = some (k, v) → H T = none → Pv i H → g (.ref T) (wipe σ vs) (upd H T (.tup [kV k, v])) fun σ2 H2 => wipe σ2 vs = wipe σ vs ∧ tt σ2 H2 fun b H3 =>
      if b = true then te σ2 H3 fun y H4 => ∃ acc, H4 D = some (.lst acc) ∧ acc.length < sizeLine ∧ Pv (i + 1) (upd H4 D (.lst (acc ++ [y]))) else Pv (i + 1) H3) (hd : ∀ H, Pv kvs.length H → Qd H) :
    ∃ W : Nat → Nat → Hp → Prop, (∃ m, W 0 m (upd H1 D (.lst []))) ∧ ∀ i m H, W i m H →
      ((Iti d o kvs).stop i H ∧ Qd H) ∨ ((Iti d o kvs).go i H ∧ ∃ Nx : Hp → Prop, (∀ H', Nx H' → ∃ m', m' < m ∧ W (i + 1) m' H') ∧ ∀ x H', (Iti d o kvs).yld i H x H' → g x (wipe σ vs) H' fun σ2 H2 => wipe σ2 vs = wipe σ vs ∧ tt σ2 H2 fun b H3 =>
        if b = true then te σ2 H3 fun y H4 => ∃ acc, H4 D = some (.lst acc) ∧ acc.length < sizeLine ∧ Nx (upd H4 D (.lst (acc ++ [y]))) else Nx H3) := by
  refine ⟨fun i m H => m = kvs.length - i ∧ i ≤ kvs.length ∧ Pv i H, ⟨kvs.length, by simp, Nat.zero_le _, h0⟩, ?_⟩
  rintro i m H ⟨rfl, hi, p⟩
  have q := hl i H p
  by_cases hlt : i < kvs.length
  · refine .inr ⟨⟨q, hlt⟩, Pv (i + 1), fun H' p' => ⟨kvs.length - (i + 1), by omega, rfl, hlt, p'⟩, ?_⟩
    rintro x H' ⟨T, k, v, e, rfl, hT, rfl⟩
    exact hs i k v T H e hT p
  · have e : i = kvs.length := by omega
    subst e
    exact .inl ⟨⟨q, Nat.le_refl _⟩, hd H p⟩
theorem for_keys {d : Addr} {o : Obj} {kvs : List (Key × V)} {g : TG} {tb : TS} {σ : L2.St} {H1 : Hp} {E : Ends} (Pv : Nat → L2.St → Hp → Prop) (h0 : Pv 0 σ H1) (hl : ∀ i σ H, Pv i σ H → H d = some (.frz o (.dK kvs)))
    (hs : ∀ i k v σ H, kvs[i]? = some (k, v) → Pv i σ H → g (kV k) σ H fun σ2 H2 => tb { E with nx := Pv (i + 1), ct := Pv (i + 1), bk := E.nx } σ2 H2) (hd : ∀ σ H, Pv kvs.length σ H → E.nx σ H) :
    ∃ W : Nat → Nat → L2.St → Hp → Prop, (∃ m, W 0 m σ H1) ∧ ∀ i m σ H, W i m σ H →
      ((Itk d o kvs).stop i H ∧ E.nx σ H) ∨ ((Itk d o kvs).go i H ∧ ∃ N : L2.St → Hp → Prop, (∀ σ' H', N σ' H' → ∃ m', m' < m ∧ W (i + 1) m' σ' H') ∧ ∀ x H', (Itk d o kvs).yld i H x H' → g x σ H' fun σ2 H2 => tb { E with nx := N, ct := N, bk := E.nx } σ2 H2) := by
  refine ⟨fun i m σ H => m = kvs.length - i ∧ i ≤ kvs.length ∧ Pv i σ H, ⟨kvs.length, by simp, Nat.zero_le _, h0⟩, ?_⟩
  rintro i m σ H ⟨rfl, hi, p⟩
  have q := hl i σ H p
  by_cases hlt : i < kvs.length
  · refine .inr ⟨⟨q, hlt⟩, Pv (i + 1), fun σ' H' p' => ⟨kvs.length - (i + 1), by omega, rfl, hlt, p'⟩, ?_⟩
    rintro x H' ⟨rfl, k, v, e, rfl⟩
    exact hs i k v σ _ e p
  · have e : i = kvs.length := by omega
    subst e
    exact .inl ⟨⟨q, Nat.le_refl _⟩, hd σ H p⟩
theorem rd_dc {wi : TI} {g : TG} {tt : TT} {tk tv : TE} {vs : List Nat} {σ : L2.St} {H : Hp} {Q : VK} (h : wi σ H fun J H1 => ∀ D, H1 D = none → ∃ W : Nat → Nat → Hp → Prop, (∃ m, W 0 m (upd H1 D (.dK []))) ∧ ∀ i m H, W i m H →
  (J.stop i H ∧ Q (.ref D) H) ∨ (J.go i H ∧ ∃ Nx : Hp → Prop, (∀ H', Nx H' → ∃ m', m' < m ∧ W (i + 1) m' H') ∧ ∀ x H', J.yld i H x H' → g x (wipe σ vs) H' fun σ2 H2 => wipe σ2 vs = wipe σ vs ∧ tt σ2 H2 fun b H3 =>
    if b = true then tk σ2 H3 fun y H4 => tv σ2 H4 fun z H5 => ∃ kvs k, y = kV k ∧ H5 D = some (.dK kvs) ∧ kvs.length < sizeLine ∧ Nx (upd H5 D (.dK (putK kvs k z))) else Nx H3)) : tDc wi g tt tk tv vs σ H Q := h
theorem dc_list {K : PySem.W.Frag} {a : Addr} {xs : List V} {g : TG} {tt : TT} {tk tv : TE} {vs : List Nat} {σ : L2.St} {H1 : Hp} {D : Addr} {Qd : Hp → Prop} (Pv : Nat → Hp → Prop) (h0 : Pv 0 (upd H1 D (.dK []))) (hl : ∀ i H, i ≤ xs.length → Pv i H → SqL K H a xs)
    (hs : ∀ i x H, xs[i]? = some x → Pv i H → g x (wipe σ vs) H fun σ2 H2 => wipe σ2 vs = wipe σ vs ∧ tt σ2 H2 fun b H3 =>
      if b = true then tk σ2 H3 fun y H4 => tv σ2 H4 fun z H5 => ∃ kvs k, y = kV k ∧ H5 D = some (.dK kvs) ∧ kvs.length < sizeLine ∧ Pv (i + 1) (upd H5 D (.dK (putK kvs k z))) else Pv (i + 1) H3) (hd : ∀ H, Pv xs.length H → Qd H) :
    ∃ W : Nat → Nat → Hp → Prop, (∃ m, W 0 m (upd H1 D (.dK []))) ∧ ∀ i m H, W i m H →
      ((Itl K a).stop i H ∧ Qd H) ∨ ((Itl K a).go i H ∧ ∃ Nx : Hp → Prop, (∀ H', Nx H' → ∃ m', m' < m ∧ W (i + 1) m' H') ∧ ∀ x H', (Itl K a).yld i H x H' → g x (wipe σ vs) H' fun σ2 H2 => wipe σ2 vs = wipe σ vs ∧ tt σ2 H2 fun b H3 =>
        if b = true then tk σ2 H3 fun y H4 => tv σ2 H4 fun z H5 => ∃ kvs k, y = kV k ∧ H5 D = some (.dK kvs) ∧ kvs.length < sizeLine ∧ Nx (upd H5 D (.dK (putK kvs k z))) else Nx H3) := by
  refine ⟨fun i m H => m = xs.length - i ∧ i ≤ xs.length ∧ Pv i H, ⟨xs.length, by simp, Nat.zero_le _, h0⟩, ?_⟩
  rintro i m H ⟨rfl, hi, p⟩
  have q := hl i H hi p
  by_cases hlt : i < xs.length
  · refine .inr ⟨⟨xs, xs[i], q, by simp [hlt]⟩, Pv (i + 1), fun H' p' => ⟨xs.length - (i + 1), by omega, rfl, hlt, p'⟩, fun x H' y => ?_⟩
    obtain ⟨e, y⟩ := y
    subst e
    exact hs i x _ (y xs q) p
  · have e : i = xs.length := by omega
    subst e
    exact .inl ⟨⟨xs, q, Nat.le_refl _⟩, hd H p⟩
set_option maxHeartbeats 1000000
theorem ix_seqR {X : Cx} {K : PySem.W.Frag} (e : X.K = K) : IxR X (rIx K) := e ▸ ix_seq
theorem call_isiR {X : Cx} {K : PySem.W.Frag} (e : X.K = K) : CallR X (.builtin "isinstance") (rIsi K) := e ▸ call_isi
theorem call_isiTR {X : Cx} {K : PySem.W.Frag} (e : X.K = K) : CallR X (.builtin "isinstance") (rIsiT K) := e ▸ call_isiT
theorem op_in_seqR {X : Cx} {K : PySem.W.Frag} (e : X.K = K) : OpR X (compareOp .In) (rIn K false) := e ▸ op_in_seq
theorem op_notin_seqR {X : Cx} {K : PySem.W.Frag} (e : X.K = K) : OpR X (compareOp .NotIn) (rIn K true) := e ▸ op_notIn_seq
theorem rd_gNm {i : Nat} {v : V} {σ : L2.St} {H : Hp} {Q : L2.St → Hp → Prop} (h : Q (σ.set i (some v)) H) : gName i v σ H Q := h
theorem rd_frz {t : TS} {D : Ends} {σ : L2.St} {H : Hp} (h : t { D with nx := fun σ' H' => ∃ d u, H' d = some u ∧ Mut (some u) ∧ ∀ od, D.nx σ' (upd H' d (.frz od u)) } σ H) : tFrz t D σ H := h
set_option maxHeartbeats 1000000
def strOf : Nat → Str → Str → Str
  | 0, a, _ => a
  | _, _, b => b
section
variable {prog : Program} {w : World} {A : Around} {E : Value → Shared → Prop} {s : Shared}
theorem two_at {a b : Str} {t u : Tok} {i : Nat} {v : Value} (h : (#[Value.str a t, Value.str b u])[i]? = some v) : ∃ t, v = .str (strOf i a b) t := by
  match i with
  | 0 => simp at h; exact ⟨t, h.symm⟩
  | 1 => simp at h; exact ⟨u, h.symm⟩
  | i + 2 => simp at h
theorem cmp_strs_lt {a b : Str} {t u : Tok} : CmpOf prog w A .Lt (fun i v => (#[Value.str a t, Value.str b u])[i]? = some v) (fun i j => decide ((strOf i a b).cps.toList < (strOf j a b).cps.toList)) := fun i j vi vj s Q E hi hj h => by
  obtain ⟨t1, rfl⟩ := two_at hi
  obtain ⟨t2, rfl⟩ := two_at hj
  exact lt_str h
theorem cmp_strs_gt {a b : Str} {t u : Tok} : CmpOf prog w A .Gt (fun i v => (#[Value.str a t, Value.str b u])[i]? = some v) (fun i j => decide ((strOf j a b).cps.toList < (strOf i a b).cps.toList)) := fun i j vi vj s Q E hi hj h => by
  obtain ⟨t1, rfl⟩ := two_at hi
  obtain ⟨t2, rfl⟩ := two_at hj
  exact PySem.P.gt_str h
theorem min_two_strs {a b : Str} {t u : Tok} {Q : Value → Shared → Prop} (hh : A.handled = none)
    (h : ∀ h' tk, (∀ c o, s.heap.get? c = some o → h'.get? c = some o) → Q (if ltS b a then .str b u else .str a t) { s with heap := h', toks := tk }) :
    wpAny (model prog w) A (call (.builtin "min") [.str a t, .str b u]) Q E s := by
  have hT : (s.heap.push { cls := .type "tuple", data := .seq #[.str a t, .str b u] }).IsTuple s.heap.objs.size #[.str a t, .str b u] := ⟨_, Heap.get?_push_size _ rfl, rfl, 0, rfl⟩
  refine call_min_two (wpAny_pyIter_tuple hT ?_)
  have hsz : (s.heap.push { cls := .type "tuple", data := .seq #[.str a t, .str b u] }).objs.size = s.heap.objs.size + 1 := Heap.size_push ..
  refine ⟨_, [_, s.heap.objs.size], [_], _, _, _, _, rfl, Walks.tuple (A := A.in1) hh _ s.heap.objs.size (by rw [hsz]; exact Nat.ne_of_lt (Nat.lt_succ_self _)) #[.str a t, .str b u],
    ⟨⟨_, Heap.get?_push_size _ rfl, rfl, rfl⟩, hT.push _⟩, fun c hc => ?_, by simp, cmp_strs_lt, fun v h' tk hP hk => ?_⟩
  · show c < ((s.heap.push _).push _).objs.size
    rw [Heap.size_push, hsz]
    rcases List.mem_cons.mp hc with rfl | hc
    · rw [hsz]; exact Nat.lt_succ_self _
    · rcases List.mem_cons.mp hc with rfl | hc
      · exact Nat.lt_succ_of_lt (Nat.lt_succ_self _)
      · cases hc
  · have hold : ∀ c o, s.heap.get? c = some o → h'.get? c = some o := fun c o e => by
      refine hk c o (fun hm => ?_) (Heap.get?_push_of_some _ (Heap.get?_push_of_some _ e))
      rcases List.mem_cons.mp hm with e1 | hm
      · have := Heap.lt_size e; rw [e1, hsz] at this; exact Nat.lt_irrefl _ (Nat.lt_of_succ_lt this)
      · cases hm
    have := h h' tk hold
    have hv : v = if ltS b a then Value.str b u else Value.str a t := by
      have hP' : (#[Value.str a t, Value.str b u])[argBest (fun i j => decide ((strOf i a b).cps.toList < (strOf j a b).cps.toList)) 1]? = some v := hP
      by_cases hba : ltS b a
      · have e : argBest (fun i j => decide ((strOf i a b).cps.toList < (strOf j a b).cps.toList)) 1 = 1 := by unfold ltS at hba; simp [argBest, strOf, hba]
        rw [e] at hP'
        simpa [hba] using hP'.symm
      · have e : argBest (fun i j => decide ((strOf i a b).cps.toList < (strOf j a b).cps.toList)) 1 = 0 := by unfold ltS at hba; simp [argBest, strOf, hba]
        rw [e] at hP'
        simpa [hba] using hP'.symm
    rw [hv]; exact this
theorem max_two_strs {a b : Str} {t u : Tok} {Q : Value → Shared → Prop} (hh : A.handled = none)
    (h : ∀ h' tk, (∀ c o, s.heap.get? c = some o → h'.get? c = some o) → Q (if ltS a b then .str b u else .str a t) { s with heap := h', toks := tk }) :
    wpAny (model prog w) A (call (.builtin "max") [.str a t, .str b u]) Q E s := by
  have hT : (s.heap.push { cls := .type "tuple", data := .seq #[.str a t, .str b u] }).IsTuple s.heap.objs.size #[.str a t, .str b u] := ⟨_, Heap.get?_push_size _ rfl, rfl, 0, rfl⟩
  refine call_max_two (wpAny_pyIter_tuple hT ?_)
  have hsz : (s.heap.push { cls := .type "tuple", data := .seq #[.str a t, .str b u] }).objs.size = s.heap.objs.size + 1 := Heap.size_push ..
  refine ⟨_, [_, s.heap.objs.size], [_], _, _, _, _, rfl, Walks.tuple (A := A.in1) hh _ s.heap.objs.size (by rw [hsz]; exact Nat.ne_of_lt (Nat.lt_succ_self _)) #[.str a t, .str b u],
    ⟨⟨_, Heap.get?_push_size _ rfl, rfl, rfl⟩, hT.push _⟩, fun c hc => ?_, by simp, cmp_strs_gt, fun v h' tk hP hk => ?_⟩
  · show c < ((s.heap.push _).push _).objs.size
    rw [Heap.size_push, hsz]
    rcases List.mem_cons.mp hc with rfl | hc
    · rw [hsz]; exact Nat.lt_succ_self _
    · rcases List.mem_cons.mp hc with rfl | hc
      · exact Nat.lt_succ_of_lt (Nat.lt_succ_self _)
      · cases hc
  · have hold : ∀ c o, s.heap.get? c = some o → h'.get? c = some o := fun c o e => by
      refine hk c o (fun hm => ?_) (Heap.get?_push_of_some _ (Heap.get?_push_of_some _ e))
      rcases List.mem_cons.mp hm with e1 | hm
      · have := Heap.lt_size e; rw [e1, hsz] at this; exact Nat.lt_irrefl _ (Nat.lt_of_succ_lt this)
      · cases hm
    have := h h' tk hold
    have hv : v = if ltS a b then Value.str b u else Value.str a t := by
      have hP' : (#[Value.str a t, Value.str b u])[argBest (fun i j => decide ((strOf j a b).cps.toList < (strOf i a b).cps.toList)) 1]? = some v := hP
      by_cases hba : ltS a b
      · have e : argBest (fun i j => decide ((strOf j a b).cps.toList < (strOf i a b).cps.toList)) 1 = 1 := by unfold ltS at hba; simp [argBest, strOf, hba]
        rw [e] at hP'
        simpa [hba] using hP'.symm
      · have e : argBest (fun i j => decide ((strOf j a b).cps.toList < (strOf i a b).cps.toList)) 1 = 0 := by unfold ltS at hba; simp [argBest, strOf, hba]
        rw [e] at hP'
        simpa [hba] using hP'.symm
    rw [hv]; exact this
end
def minS (a b : Str) : Str := if ltS b a then b else a
def maxS (a b : Str) : Str := if ltS a b then b else a
section
variable {X : Cx}
theorem call_minS (hc : X.calm = true) : CallR X (.builtin "min") (fun xs H Q => ∃ i j, xs = [.str i, .str j] ∧ Q (.str (minS i j)) H) := by
  intro pins s σ H xs us Q I r h
  obtain ⟨i, j, rfl, q⟩ := h
  obtain ⟨u, w', rfl, ⟨t, rfl⟩, ⟨t', rfl⟩⟩ := vals2 r
  refine min_two_strs (I.ok.hd hc) fun h' tk k => ⟨_, H, I.kept k, ?_, q⟩
  unfold minS
  by_cases hj : ltS j i
  · rw [if_pos hj, if_pos hj]; exact ⟨_, rfl⟩
  · rw [if_neg hj, if_neg hj]; exact ⟨_, rfl⟩
theorem call_maxS (hc : X.calm = true) : CallR X (.builtin "max") (fun xs H Q => ∃ i j, xs = [.str i, .str j] ∧ Q (.str (maxS i j)) H) := by
  intro pins s σ H xs us Q I r h
  obtain ⟨i, j, rfl, q⟩ := h
  obtain ⟨u, w', rfl, ⟨t, rfl⟩, ⟨t', rfl⟩⟩ := vals2 r
  refine max_two_strs (I.ok.hd hc) fun h' tk k => ⟨_, H, I.kept k, ?_, q⟩
  unfold maxS
  by_cases hj : ltS i j
  · rw [if_pos hj, if_pos hj]; exact ⟨_, rfl⟩
  · rw [if_neg hj, if_neg hj]; exact ⟨_, rfl⟩
end
set_option maxHeartbeats 1000000
section
variable {α β : Type} {f : α → Str}
def srtBy (f : α → Str) (l : List α) : List α := l.mergeSort fun a b => !decide (ltS (f b) (f a))
def Asc (f : α → Str) (l : List α) : Prop := l.Pairwise fun x y => ¬ ltS (f y) (f x)
theorem srt_perm (l : List α) : (srtBy f l).Perm l := List.mergeSort_perm l _
theorem srt_asc (l : List α) : Asc f (srtBy f l) := by
  have h := List.pairwise_mergeSort (le := fun a b => !decide (ltS (f b) (f a))) (fun a b c h1 h2 => by
    simp only [Bool.not_eq_true', decide_eq_false_iff_not] at *
    exact fun c1 => List.not_le.mpr c1 (List.le_trans (List.not_lt.mp h1) (List.not_lt.mp h2))) (fun a b => by
    by_cases c : ltS (f b) (f a)
    · simp [c, ltS_asymm c]
    · simp [c]) l
  exact h.imp fun {x y} q => by simpa using q
theorem asc_uniq : ∀ {xs ys : List α}, xs.Perm ys → Asc f xs → Asc f ys → (xs.map f).Nodup → xs = ys
  | [], ys, h, _, _, _ => (List.nil_perm.mp h).symm
  | x :: xs, [], h, _, _, _ => absurd (List.perm_nil.mp h) (by simp)
  | x :: xs, y :: ys, h, hx, hy, nd => by
    obtain ⟨x1, x2⟩ := List.pairwise_cons.mp hx
    obtain ⟨y1, y2⟩ := List.pairwise_cons.mp hy
    have e : x = y := by
      rcases List.mem_cons.mp (h.mem_iff.mp List.mem_cons_self) with e | hm
      · exact e
      · rcases List.mem_cons.mp (h.mem_iff.mpr (List.mem_cons_self (a := y))) with e | hm2
        · exact e.symm
        · have ef : f x = f y := ltS_tri (fun q => y1 _ hm q) (fun q => x1 _ hm2 q)
          have : f x ∈ xs.map f := by rw [ef]; exact List.mem_map_of_mem hm2
          rw [List.map_cons] at nd
          exact absurd this (List.nodup_cons.mp nd).1
    subst e
    rw [List.map_cons] at nd
    rw [asc_uniq ((List.perm_cons x).mp h) x2 y2 (List.nodup_cons.mp nd).2]
theorem srt_eq {xs l : List α} (h : xs.Perm l) (a : Asc f xs) (nd : (l.map f).Nodup) : xs = srtBy f l :=
  asc_uniq (h.trans (srt_perm l).symm) a (srt_asc l) ((h.map f).nodup_iff.mpr nd)
theorem srt_of_perm {xs l : List α} (h : xs.Perm l) (nd : (l.map f).Nodup) : srtBy f xs = srtBy f l :=
  srt_eq ((srt_perm xs).trans h) (srt_asc xs) nd
theorem srt_id {l : List α} (a : Asc f l) (nd : (l.map f).Nodup) : srtBy f l = l := (srt_eq (List.Perm.refl l) a nd).symm
theorem srt_mem {l : List α} {x : α} : x ∈ srtBy f l ↔ x ∈ l := (srt_perm l).mem_iff
theorem srt_len {l : List α} : (srtBy f l).length = l.length := (srt_perm l).length_eq
theorem srt_nd {l : List α} (nd : (l.map f).Nodup) : ((srtBy f l).map f).Nodup := ((srt_perm l).map f).nodup_iff.mpr nd
theorem map_asc {g : β → α} {l : List β} (h : Asc (fun b => f (g b)) l) : Asc f (l.map g) := List.pairwise_map.mpr h
theorem srt_map {g : β → α} {l : List β} (nd : (l.map fun b => f (g b)).Nodup) : srtBy f (l.map g) = (srtBy (fun b => f (g b)) l).map g := by
  refine (srt_eq (((srt_perm l).map g)) (map_asc (srt_asc l)) ?_).symm
  rw [List.map_map]; exact nd
end
section
variable {α β : Type} {F G : α → β → Prop}
theorem paired_perm {xs ys : List α} (h : xs.Perm ys) : ∀ {l : List β}, Paired F xs l → ∃ m, m.Perm l ∧ Paired F ys m := by
  induction h with
  | nil => intro l p; cases p; exact ⟨[], .refl _, .nil⟩
  | cons x _ ih =>
    intro l p
    cases p with
    | cons a r =>
      obtain ⟨m, h1, h2⟩ := ih r
      exact ⟨_ :: m, h1.cons _, .cons a h2⟩
  | swap x y l' =>
    intro l p
    cases p with
    | cons a r => cases r with
      | cons b r => exact ⟨_, List.Perm.swap .., .cons b (.cons a r)⟩
  | trans _ _ ih1 ih2 =>
    intro l p
    obtain ⟨m, h1, h2⟩ := ih1 p
    obtain ⟨m', h3, h4⟩ := ih2 h2
    exact ⟨m', h3.trans h1, h4⟩
theorem paired_mem {xs : List α} {l : List β} (p : Paired F xs l) : ∀ x ∈ xs, ∃ b ∈ l, F x b := by
  induction p with
  | nil => intro x h; cases h
  | cons a r ih =>
    intro x h
    rcases List.mem_cons.mp h with rfl | h
    · exact ⟨_, List.mem_cons_self, a⟩
    · obtain ⟨b, hb, q⟩ := ih x h
      exact ⟨b, List.mem_cons_of_mem _ hb, q⟩
theorem paired_imp {xs : List α} {l : List β} (p : Paired F xs l) (h : ∀ x b, x ∈ xs → b ∈ l → F x b → G x b) : Paired G xs l := by
  induction p with
  | nil => exact .nil
  | cons a r ih => exact .cons (h _ _ List.mem_cons_self List.mem_cons_self a) (ih fun x b hx hb q => h x b (List.mem_cons_of_mem _ hx) (List.mem_cons_of_mem _ hb) q)
theorem paired_map {γ : Type} {f : α → γ} {g : β → γ} {xs : List α} {l : List β} (p : Paired (fun x b => f x = g b) xs l) : xs.map f = l.map g := by
  induction p with
  | nil => rfl
  | cons a r ih => rw [List.map_cons, List.map_cons, a, ih]
end
section
variable {α : Type} {U : Addr → Prop} {H : Hp} {g : α → PyData}
theorem RepL.paired : ∀ {vs : List V} {l : List α}, RepL U H vs (l.map g) → Paired (fun v a => Rep U H v (g a)) vs l
  | _, [], .nil => .nil
  | _, _ :: _, .cons a r => .cons a r.paired
theorem RepL.ofPaired : ∀ {vs : List V} {l : List α}, Paired (fun v a => Rep U H v (g a)) vs l → RepL U H vs (l.map g)
  | _, _, .nil => .nil
  | _, _, .cons a r => .cons a (RepL.ofPaired r)
end
def nameAt (H : Hp) : V → Str
  | .ref t => match H t with
    | some (.tup (.str n :: _)) => n
    | _ => Str.empty
  | _ => Str.empty
/-- sorted(xs), told of its data -/
theorem sorted_rows {α : Type} {U : Addr → Prop} {H : Hp} {K : PySem.W.Frag} {xs : List V} {l : List α} {n : α → Str} {r : α → List PyData} {a : Addr} {Q : VK}
    (ha : H a = some (.lst xs) ∨ H a = some (.tup xs)) (hr : RepL U H xs (l.map fun z => .tuple (.str (n z) :: r z))) (nd : (l.map n).Nodup)
    (q : ∀ p ys, ys.Perm xs → RepL U H ys ((srtBy n l).map fun z => .tuple (.str (n z) :: r z)) → H p = none → Q (.ref p) (upd H p (.lst ys))) : rSortedR K [.ref a] H Q := by
  have pr := hr.paired
  have key : Paired (fun v z => (∃ t rs, v = V.ref t ∧ H t = some (.tup (.str (n z) :: rs))) ∧ Rep U H v (.tuple (.str (n z) :: r z))) xs l := paired_imp pr fun v z _ _ h => by
    refine ⟨?_, h⟩
    obtain ⟨p, ys, rfl, _, hp, hr⟩ := h.tupI
    cases hr with
    | cons h1 h2 => rw [h1.strI] at hp; exact ⟨p, _, rfl, hp⟩
  have kname : ∀ {v z}, (∃ t rs, v = V.ref t ∧ H t = some (.tup (.str (n z) :: rs))) → nameAt H v = n z := fun {v z} ⟨t, rs, e, ht⟩ => by
    rw [e]; unfold nameAt; simp only [ht]
  have nde : (xs.map (nameAt H)) = l.map n := paired_map (paired_imp key fun v z _ _ h => kname h.1)
  have ndx : (xs.map (nameAt H)).Nodup := by rw [nde]; exact nd
  refine ⟨a, xs, nameAt H, rfl, ha, fun x hx => ?_, fun x hx y hy e => ?_, fun ys p hp hs hn => ?_⟩
  · obtain ⟨z, _, ⟨t, rs, e, ht⟩, _⟩ := paired_mem key x hx
    refine ⟨t, rs, e, ?_⟩
    rw [kname ⟨t, rs, e, ht⟩]; exact ht
  · obtain ⟨i, hi, ei⟩ := List.mem_iff_getElem.mp hx
    obtain ⟨j, hj, ej⟩ := List.mem_iff_getElem.mp hy
    have ij : i = j := by
      refine nodup_getS (l := xs.map (nameAt H)) ndx (by simpa using hi) (by simpa using hj) ?_
      rw [List.getElem_map, List.getElem_map, ei, ej]; exact e
    subst ij
    rw [← ei, ← ej]
  · obtain ⟨m, hm, pm⟩ := paired_perm hp.symm key
    have am : Asc n m := by
      have e1 : ys.map (nameAt H) = m.map n := paired_map (paired_imp pm fun v z _ _ h => kname h.1)
      have h1 : (ys.map (nameAt H)).Pairwise fun x y => ¬ ltS y x := List.pairwise_map.mpr hs
      rw [e1] at h1
      exact List.pairwise_map.mp h1
    have em := srt_eq hm am nd
    refine q p ys hp ?_ hn
    rw [← em]
    exact RepL.ofPaired (paired_imp pm fun v z _ _ h => h.2)
where
  nodup_getS {l : List Str} (h : l.Nodup) {i j : Nat} (hi : i < l.length) (hj : j < l.length) (e : l[i] = l[j]) : i = j := by
    have p := List.pairwise_iff_getElem.mp (List.nodup_iff_pairwise_ne.mp h)
    rcases Nat.lt_trichotomy i j with q | q | q
    · exact absurd e (p i j hi hj q)
    · exact q
    · exact absurd e.symm (p j i hj hi q)
section
variable {U U' : Addr → Prop} {H H' : Hp}
mutual
theorem Rep.to' (hh : ∀ p xs, U p → (H p = some (.lst xs) → U' p ∧ H' p = some (.lst xs)) ∧ (H p = some (.tup xs) → U' p ∧ H' p = some (.tup xs))) : ∀ {v : V} {d : D}, Rep U H v d → Rep U' H' v d
  | _, _, .non => .non
  | _, _, .bl b => .bl b
  | _, _, .int i => .int i
  | _, _, .str x => .str x
  | _, _, .lst u h r => .lst ((hh _ _ u).1 h).1 ((hh _ _ u).1 h).2 (RepL.to' hh r)
  | _, _, .tup u h r => .tup ((hh _ _ u).2 h).1 ((hh _ _ u).2 h).2 (RepL.to' hh r)
theorem RepL.to' (hh : ∀ p xs, U p → (H p = some (.lst xs) → U' p ∧ H' p = some (.lst xs)) ∧ (H p = some (.tup xs) → U' p ∧ H' p = some (.tup xs))) : ∀ {vs : List V} {ds : List D}, RepL U H vs ds → RepL U' H' vs ds
  | _, _, .nil => .nil
  | _, _, .cons a b => .cons (Rep.to' hh a) (RepL.to' hh b)
end
theorem RepQ.to' {K : PySem.W.Frag} {v : V} {d : PyData} (h : RepQ K U H v d) (hh : ∀ p xs, U p → (H p = some (.lst xs) → U' p ∧ H' p = some (.lst xs)) ∧ (H p = some (.tup xs) → U' p ∧ H' p = some (.tup xs))) : RepQ K U' H' v d := h.elim (fun h => .inl (h.to' hh)) .inr
end
theorem valV_fresh {kvs : List (Key × V)} {k : Key} (h : k ∉ kvs.map (·.1)) : valV kvs k = none := by
  induction kvs with
  | nil => rfl
  | cons p r ih =>
    rw [List.map_cons, List.mem_cons, not_or] at h
    rw [valV_neg (fun e => h.1 e.symm)]
    exact ih h.2
theorem merge_new : ∀ (more kvs : List (Key × V)), ((kvs ++ more).map (·.1)).Nodup → mergeK kvs more = kvs ++ more
  | [], kvs, _ => by simp [mergeK]
  | p :: r, kvs, h => by
    have e : mergeK kvs (p :: r) = mergeK (putK kvs p.1 p.2) r := rfl
    have hn : valV kvs p.1 = none := valV_fresh fun c => by
      rw [List.map_append, List.nodup_append] at h
      exact h.2.2 _ c _ (by simp) rfl
    rw [e, putK_new _ hn, merge_new r (kvs ++ [(p.1, p.2)]) (by simpa using h)]
    simp
theorem valV_at {α : Type} {n : α → Str} {g : α → V} : ∀ {l : List α}, (l.map n).Nodup → ∀ z ∈ l, valV (l.map fun r => ((Sum.inr (n r) : Key), g r)) (.inr (n z)) = some (g z)
  | [], _, _, h => by cases h
  | y :: l, nd, z, h => by
    rw [List.map_cons] at nd
    obtain ⟨n1, n2⟩ := List.nodup_cons.mp nd
    by_cases c : n y = n z
    · rcases List.mem_cons.mp h with rfl | hm
      · exact valV_pos rfl
      · exact absurd (c ▸ List.mem_map_of_mem hm) n1
    · rcases List.mem_cons.mp h with rfl | hm
      · exact absurd rfl c
      · rw [List.map_cons, valV_neg (fun e => c (Sum.inr.inj e))]
        exact valV_at n2 z hm
theorem valV_none {α : Type} {n : α → Str} {g : α → V} {l : List α} {z : Str} (h : z ∉ l.map n) : valV (l.map fun r => ((Sum.inr (n r) : Key), g r)) (.inr z) = none := valV_fresh fun c => by
  rw [List.map_map] at c
  obtain ⟨r, hr, e⟩ := List.mem_map.mp c
  exact h (by rw [← Sum.inr.inj e]; exact List.mem_map_of_mem hr)
open PySem PySem.Spec L2
theorem wipe_set {σ : L2.St} {i : Nat} {x : Option V} {vs : List Nat} (h : i ∈ vs) : wipe (σ.set i x) vs = wipe σ vs := by
  induction vs with
  | nil => cases h
  | cons v vs ih =>
    show (wipe (σ.set i x) vs).set v none = (wipe σ vs).set v none
    by_cases hi : i ∈ vs
    · rw [ih hi]
    · have e : i = v := by rcases List.mem_cons.mp h with h | h; exact h; exact absurd h hi
      subst e
      apply List.ext_getElem?
      intro j
      rw [List.getElem?_set, List.getElem?_set, wipe_length, wipe_length, List.length_set]
      by_cases c : i = j
      · simp [c]
      · simp only [c, if_false]
        by_cases hj : j ∈ vs
        · have two : ∀ σ : L2.St, ∀ us : List Nat, j ∈ us → (wipe σ us)[j]? = if j < σ.length then some none else none := by
            intro σ us hu
            induction us with
            | nil => cases hu
            | cons u us iu =>
              show ((wipe σ us).set u none)[j]? = _
              rw [List.getElem?_set, wipe_length]
              by_cases eu : u = j
              · simp [eu]
              · rw [if_neg eu]
                rcases List.mem_cons.mp hu with h | h
                · exact absurd h.symm eu
                · exact iu h
          rw [two _ _ hj, two _ _ hj, List.length_set]
        · rw [wipe_out hj, wipe_out hj, List.getElem?_set_ne c]
theorem wipe_wipe {σ : L2.St} {vs : List Nat} : wipe (wipe σ vs) vs = wipe σ vs := by
  have key : ∀ (us : List Nat), (∀ i ∈ us, i ∈ vs) → wipe (wipe σ us) vs = wipe σ vs := by
    intro us
    induction us with
    | nil => intro _; rfl
    | cons u us ih =>
      intro h
      show wipe ((wipe σ us).set u none) vs = _
      rw [wipe_set (h u List.mem_cons_self), ih fun i hi => h i (List.mem_cons_of_mem _ hi)]
  exact key vs fun _ h => h
/-- a text in a list or tuple of texts -/
theorem rd_inRep {K : PySem.W.Frag} {U : Addr → Prop} {H : Hp} {v : V} {d : PyData} {ns : List Str} {z : Str} {Q : VK} (h : Rep U H v d) (hs : isSeq d = true) (hk : kids d = ns.map PyData.str) (q : Q (.bl (decide (z ∈ ns))) H) : rIn K false (.str z) v H Q := by
  obtain ⟨p, xs, rfl, _, hp, r⟩ := h.seq hs
  rw [hk] at r
  obtain rfl := r.strsI
  refine ⟨p, ns.map V.str, rfl, ?_, rfl, flat_strs _, ?_⟩
  · rcases hp with hp | hp
    · exact .inl (sl_of hp)
    · exact .inr (st_of hp)
  · show Q (.bl (inV (.str z) (ns.map V.str))) H
    rw [inV_strs]; exact q
theorem rd_ninRep {K : PySem.W.Frag} {U : Addr → Prop} {H : Hp} {v : V} {d : PyData} {ns : List Str} {z : Str} {Q : VK} (h : Rep U H v d) (hs : isSeq d = true) (hk : kids d = ns.map PyData.str) (q : Q (.bl (!decide (z ∈ ns))) H) : rIn K true (.str z) v H Q := by
  obtain ⟨p, xs, rfl, _, hp, r⟩ := h.seq hs
  rw [hk] at r
  obtain rfl := r.strsI
  refine ⟨p, ns.map V.str, rfl, ?_, rfl, flat_strs _, ?_⟩
  · rcases hp with hp | hp
    · exact .inl (sl_of hp)
    · exact .inr (st_of hp)
  · show Q (.bl (!inV (.str z) (ns.map V.str))) H
    rw [inV_strs]; exact q
set_option maxHeartbeats 1000000
def Shp (n : Nat) (d : PyData) : Prop := d.canLay0 = true ∧ d.depth ≤ n
theorem Shp.none {n : Nat} : Shp n .none := ⟨rfl, Nat.zero_le _⟩
theorem Shp.int {n : Nat} {i : Int} : Shp n (.int i) := ⟨rfl, Nat.zero_le _⟩
theorem Shp.bool {n : Nat} {b : Bool} : Shp n (.bool b) := ⟨rfl, Nat.zero_le _⟩
theorem Shp.str {n m : Nat} {z : Str} (h : OkS m z) : Shp n (.str z) := ⟨by
  show z.cps.all (· < 0x110000) = true
  rw [← Array.all_toList, List.all_eq_true]
  exact fun c hc => decide_eq_true (Nat.lt_trans ((okS_iff.mp h).2 c hc) (by decide)), Nat.zero_le _⟩
theorem Shp.ni {n : Nat} {v : V} (h : SN v) : Shp n (vD v) := by
  rcases h with rfl | ⟨i, rfl⟩
  · exact .none
  · exact .int
theorem Shp.all {n : Nat} : ∀ {ds : List PyData}, (∀ e ∈ ds, Shp n e) → PyData.canLayAll0 ds = true ∧ PyData.depthAll ds ≤ n
  | [], _ => ⟨rfl, Nat.zero_le _⟩
  | d :: ds, h => by
    obtain ⟨a, b⟩ := h d List.mem_cons_self
    obtain ⟨a', b'⟩ := Shp.all fun e he => h e (List.mem_cons_of_mem _ he)
    exact ⟨by simp only [PyData.canLayAll0, a, a', Bool.and_self], by simp only [PyData.depthAll]; omega⟩
theorem Shp.list {n : Nat} {ds : List PyData} (h : ∀ e ∈ ds, Shp n e) : Shp (n + 1) (.list ds) := by
  obtain ⟨a, b⟩ := Shp.all h
  exact ⟨by simp only [PyData.canLay0, a], by simp only [PyData.depth]; omega⟩
theorem Shp.tuple {n : Nat} {ds : List PyData} (h : ∀ e ∈ ds, Shp n e) : Shp (n + 1) (.tuple ds) := by
  obtain ⟨a, b⟩ := Shp.all h
  exact ⟨by simp only [PyData.canLay0, a], by simp only [PyData.depth]; omega⟩
theorem Shp.shaped {n : Nat} {d : PyData} (h : Shp n d) (hn : n ≤ 64) : SeqAt.shaped d = true := by
  unfold SeqAt.shaped
  rw [h.1, decide_eq_true (Nat.le_trans h.2 hn)]; rfl
theorem Shp.mono {m n : Nat} {d : PyData} (h : Shp m d) (l : m ≤ n) : Shp n d := ⟨h.1, Nat.le_trans h.2 l⟩
mutual
def nb : PyData → Bool
  | .none => true
  | .int _ => true
  | .str _ => true
  | .list xs => nbAll xs
  | .tuple xs => nbAll xs
  | _ => false
def nbAll : List PyData → Bool
  | [] => true
  | x :: xs => nb x && nbAll xs
end
mutual
theorem eqv_iff : ∀ (d e : PyData), nb d = true → nb e = true → (PyData.eqv d e = true ↔ d = e)
  | .none, e, _, he => by cases e <;> simp [PyData.eqv, nb] at *
  | .int i, e, _, he => by cases e <;> simp [PyData.eqv, nb] at *
  | .str i, e, _, he => by cases e <;> simp [PyData.eqv, nb] at *
  | .bool _, e, h, _ => by simp [nb] at h
  | .dict _, e, h, _ => by simp [nb] at h
  | .list xs, e, h, he => by
    cases e with
    | list ys =>
      simp only [nb] at h he
      simp only [PyData.eqv, PyData.list.injEq]
      exact eqvAll_iff xs ys h he
    | _ => simp [PyData.eqv]
  | .tuple xs, e, h, he => by
    cases e with
    | tuple ys =>
      simp only [nb] at h he
      simp only [PyData.eqv, PyData.tuple.injEq]
      exact eqvAll_iff xs ys h he
    | _ => simp [PyData.eqv]
theorem eqvAll_iff : ∀ (xs ys : List PyData), nbAll xs = true → nbAll ys = true → (PyData.eqvAll xs ys = true ↔ xs = ys)
  | [], [], _, _ => by simp [PyData.eqvAll]
  | [], _ :: _, _, _ => by simp [PyData.eqvAll]
  | _ :: _, [], _, _ => by simp [PyData.eqvAll]
  | x :: xs, y :: ys, h, he => by
    simp only [nbAll, Bool.and_eq_true] at h he
    simp only [PyData.eqvAll, Bool.and_eq_true, List.cons.injEq, eqv_iff x y h.1 he.1, eqvAll_iff xs ys h.2 he.2]
end
theorem nb_all {ds : List PyData} (h : ∀ e ∈ ds, nb e = true) : nbAll ds = true := by
  induction ds with
  | nil => rfl
  | cons d ds ih =>
    simp only [nbAll, Bool.and_eq_true]
    exact ⟨h d List.mem_cons_self, ih fun e he => h e (List.mem_cons_of_mem _ he)⟩
theorem nb_list {ds : List PyData} (h : ∀ e ∈ ds, nb e = true) : nb (.list ds) = true := by simp only [nb]; exact nb_all h
theorem nb_tuple {ds : List PyData} (h : ∀ e ∈ ds, nb e = true) : nb (.tuple ds) = true := by simp only [nb]; exact nb_all h
theorem nb_ni {v : V} (h : SN v) : nb (vD v) = true := by
  rcases h with rfl | ⟨i, rfl⟩ <;> rfl
theorem vD_inj {u v : V} (hu : Sc u) (hv : Sc v) (e : vD u = vD v) : u = v := by
  cases u <;> cases v <;> first | exact hu.elim | exact hv.elim | rfl | (injection e with e; rw [e]) | cases e
theorem perm_of_sub {α : Type} [DecidableEq α] : ∀ {xs ys : List α}, xs.Nodup → xs.length = ys.length → (∀ x ∈ xs, x ∈ ys) → xs.Perm ys
  | [], [], _, _, _ => .refl _
  | x :: xs, ys, nd, hl, h => by
    obtain ⟨n1, n2⟩ := List.nodup_cons.mp nd
    have hx := h x List.mem_cons_self
    refine .trans (.cons x (perm_of_sub n2 ?_ fun y hy => ?_)) (List.perm_cons_erase hx).symm
    · rw [List.length_erase_of_mem hx]; simp at hl; omega
    · exact (List.mem_erase_of_ne fun e => n1 (by rw [← e]; exact hy)).mpr (h y (List.mem_cons_of_mem _ hy))
set_option maxHeartbeats 1000000
structure HasMkN (P : Program) (w : World) (K : PySem.W.Frag) (mg : Str → Option Value) (base : Heap) (CX : CXT) (C : Addr) (x : Str) (k : Nat) (ps ks : List Str) (gV : List V → List V → List V) (sp : Sp) : Prop where
  ex : ∃ f fd g, FnOk P w K mg base CX k f fd ps sp ∧ Mk K C f ∧ mg x = some (.ref C) ∧ KBn K fd ps 1 ks g gV
theorem HasMkN.mono {P : Program} {w : World} {K : PySem.W.Frag} {mg : Str → Option Value} {base : Heap} {CX : CXT} {C : Addr} {x : Str} {j k : Nat} {ps ks : List Str} {gV : List V → List V → List V} {sp : Sp} (h : HasMkN P w K mg base CX C x j ps ks gV sp) (l : j ≤ k) : HasMkN P w K mg base CX C x k ps ks gV sp := by
  obtain ⟨f, fd, g, F, r⟩ := h.ex
  exact ⟨f, fd, g, F.mono l, r⟩
theorem pe_makeHK {X : Cx} {CX : CXT} {C : Addr} {x : Str} {k : Nat} {ps ks : List Str} {gV : List V → List V → List V} {sp : Sp} {E : XK} {p pos : Pos} {kws : List Keyword} {tk : TA} (h : HasMkN X.prog X.w X.K X.mg X.base CX C x k ps ks gV sp) (hr : Room (k + 1) X.A) (hg : Gl X x) (hx : Passes CX X E) (hkw : PK X kws tk)
    (hall : (backToKw pos (keywordEach kws X.env)).all (·.1.isSome) = true := by rfl) (hks : (backToKw pos (keywordEach kws X.env)).filterMap (·.1) = ks := by rfl) (hdb : (x == ("__debug__" : Str)) = false := by decide)
    (hpl : ((backTo pos (starEach [] X.env)).any (·.1) || (backToKw pos (keywordEach kws X.env)).any (·.1.isNone)) = false := by rfl) :
    PE X (.Call (.Name x p) [] kws pos) (tMakeK C 0 ks.length sp gV E tNil tk) := by
  obtain ⟨f, fd, g, F, M, hm, hb⟩ := h.ex
  exact pe_makeK0 M F hr hg hm hb hx hkw hall hks hdb hpl
theorem rd_makeK {C : Addr} {n m : Nat} {sp : Sp} {gV : List V → List V → List V} {E : XK} {t tk : TA} {σ : L2.St} {H : Hp} {Q : VK} (h : t σ H fun vs H1 => tk σ H1 fun zs H2 => vs.length = n ∧ zs.length = m ∧ ∀ x dx, H2 x = none → H2 dx = none → dx ≠ x → sp (gV (.ref x :: vs) zs) (upd (upd H2 dx (.own x)) x (.ins C dx [])) (fun v H3 => v = .non ∧ Q (.ref x) H3) E) : tMakeK C n m sp gV E t tk σ H Q := h
theorem rd_bm0 {K : PySem.W.Frag} {T : String} {r : V → List V → Hp → VK → Prop} {te : TE} {σ : L2.St} {H : Hp} {Q : VK} (h : te σ H fun x H1 => tyV K T x H1 ∧ r x [] H1 Q) : tBM0 K T r te σ H Q := h
/-- list(x) of a list or a tuple, the model named -/
def rListK (K : PySem.W.Frag) : List V → Hp → VK → Prop := fun xs H Q => ∃ p ys, xs = [V.ref p] ∧ (SqL K H p ys ∨ SqT K H p ys) ∧ ∀ l, H l = none → Q (V.ref l) (upd H l (.lst ys))
theorem call_list_ofR {X : Cx} {K : PySem.W.Frag} (e : X.K = K) : CallR X (.type "list") (rListK K) := by subst e; exact call_list_of
def topS (i : Nat) : Stmt := PySem.Challenge.pw_outshiners_k06_webs_keep_name_order.main.body.getD i (.Pass ⟨0, 0, 0, 0⟩)
structure Blt (mg : Str → Option Value) : Prop where
  ValueError : mg "ValueError" = none
  all : mg "all" = none
  bool : mg "bool" = none
  dict : mg "dict" = none
  int : mg "int" = none
  isinstance : mg "isinstance" = none
  iter : mg "iter" = none
  len : mg "len" = none
  list' : mg "list" = none
  max : mg "max" = none
  min : mg "min" = none
  range : mg "range" = none
  set : mg "set" = none
  sorted : mg "sorted" = none
  str : mg "str" = none
  tuple : mg "tuple" = none
  g_LIMIT : ∃ t, mg "LIMIT" = some (.int 1000000000000 t)
  g_LETTERS : ∃ t, mg "LETTERS" = some (.str "abcdefghijklmnopqrstuvwxyz" t)
  g_LETTERS_AND_DIGITS : ∃ t, mg "LETTERS_AND_DIGITS" = some (.str "abcdefghijklmnopqrstuvwxyz0123456789" t)
  g_LONGEST_NAME : ∃ t, mg "LONGEST_NAME" = some (.int 8 t)
  g_MOST_LAMPS : ∃ t, mg "MOST_LAMPS" = some (.int 10 t)
  g_MOST_BONDS : ∃ t, mg "MOST_BONDS" = some (.int 16 t)
local macro_rules | `(tactic| walk_at "sideB") => `(tactic| first | assumption | exact Z.sl_of (by assumption) | exact upd_same | (show (0 : Int) < _; omega) | exact Or.inl ⟨by omega, by omega⟩ | exact Or.inr ⟨by omega, by omega⟩)
local macro_rules | `(tactic| walk_at "tyofB") => `(tactic| first | exact TyOf.int _ | exact TyOf.bl _ | exact TyOf.non | exact TyOf.str _ | (apply TyOf.lst; assumption) | (apply TyOf.tup; assumption))
local macro_rules | `(tactic| walk_at "rd1B") => `(tactic| ((with_reducible refine rd_ixL (xs := ?xs) (v := ?v) ?hh ?he ?_); (case hh => first | exact upd_same | assumption); (case he => exact rfl)))
local macro_rules | `(tactic| walk_at "rd1B") => `(tactic| ((with_reducible refine rd_I ?hc ?_); (case hc => walk_at "sideB")))
local macro_rules | `(tactic| walk_at "rd1B") => `(tactic| ((with_reducible refine rd_isiT (b := ?b) (by assumption) ?k ?_); (case k => with_reducible first | exact kb_tuple_int | exact kb_tuple_bool | exact kb_tuple_str | exact kb_tuple_dict | exact kb_tuple_list | exact kb_tuple_tuple)))
local macro_rules | `(tactic| walk_at "rd1B") => `(tactic| ((with_reducible refine rd_isiL (b := ?b) (by assumption) ?k ?_); (case k => with_reducible first | exact kb_list_int | exact kb_list_bool | exact kb_list_str | exact kb_list_dict | exact kb_list_list | exact kb_list_tuple)))
local macro_rules | `(tactic| walk_at "rd1B") => `(tactic| ((with_reducible refine rd_isi (a := ?a) (b := ?b) ?ty ?k ?_); (case ty => first | exact TyOf.int _ | exact TyOf.bl _ | exact TyOf.non | exact TyOf.str _); (case k => with_reducible first | exact kb_int_int | exact kb_int_bool | exact kb_int_str | exact kb_int_dict | exact kb_int_list | exact kb_int_tuple | exact kb_bool_int | exact kb_bool_bool | exact kb_bool_str | exact kb_bool_dict | exact kb_bool_list | exact kb_bool_tuple | exact kb_NoneType_int | exact kb_NoneType_bool | exact kb_NoneType_str | exact kb_NoneType_dict | exact kb_NoneType_list | exact kb_NoneType_tuple | exact kb_str_int | exact kb_str_bool | exact kb_str_str | exact kb_str_dict | exact kb_str_list | exact kb_str_tuple)))
local macro_rules | `(tactic| walk_at "rd1B") => `(tactic| ((with_reducible refine rd_setS (j := ?j) ?he ?_); (case he => exact rfl)))
local macro_rules | `(tactic| walk_at "rd1B") => `(tactic| ((with_reducible refine rd_var (v := ?v) ?hv ?_); (case hv => exact rfl)))
local macro_rules | `(tactic| walk_at "rd1B") => `(tactic| with_reducible refine rd_iStr ?_)
local macro_rules | `(tactic| walk_at "rd1B") => `(tactic| with_reducible refine rd_si ?_)
local macro_rules | `(tactic| walk_at "rd1B") => `(tactic| with_reducible refine rd_ii ?_)
local macro_rules | `(tactic| walk_at "rd1B") => `(tactic| with_reducible refine rd_callSD ?_)
local macro_rules | `(tactic| walk_at "rd1B") => `(tactic| with_reducible refine rd_callNS ?_)
local macro_rules | `(tactic| walk_at "rd1B") => `(tactic| with_reducible refine rd_yes ?_)
local macro_rules | `(tactic| walk_at "rd1B") => `(tactic| with_reducible refine rd_dnotin ?_)
local macro_rules | `(tactic| walk_at "rd1B") => `(tactic| with_reducible refine rd_dput ?_)
local macro_rules | `(tactic| walk_at "rd1B") => `(tactic| with_reducible refine rd_dnewK ?_)
local macro_rules | `(tactic| walk_at "rd1B") => `(tactic| with_reducible refine rd_lrv ?_)
local macro_rules | `(tactic| walk_at "rd1B") => `(tactic| with_reducible refine rd_make ?_)
local macro_rules | `(tactic| walk_at "rd1B") => `(tactic| with_reducible refine rd_sfld ?_)
local macro_rules | `(tactic| walk_at "rd1B") => `(tactic| with_reducible refine rd_fld ?_)
local macro_rules | `(tactic| walk_at "rd1B") => `(tactic| with_reducible refine rd_i1 ?_)
local macro_rules | `(tactic| walk_at "rd1B") => `(tactic| with_reducible refine rd_s1 ?_)
local macro_rules | `(tactic| walk_at "rd1B") => `(tactic| with_reducible refine rd_ss ?_)
local macro_rules | `(tactic| walk_at "rd1B") => `(tactic| with_reducible refine rd_p40 ?_)
local macro_rules | `(tactic| walk_at "rd1B") => `(tactic| with_reducible refine rd_p30 ?_)
local macro_rules | `(tactic| walk_at "rd1B") => `(tactic| with_reducible refine rd_p18 ?_)
local macro_rules | `(tactic| walk_at "rd1B") => `(tactic| with_reducible refine rd_p13 ?_)
local macro_rules | `(tactic| walk_at "rd1B") => `(tactic| with_reducible refine rd_p12 ?_)
local macro_rules | `(tactic| walk_at "rd1B") => `(tactic| with_reducible refine rd_p11 ?_)
local macro_rules | `(tactic| walk_at "rd1B") => `(tactic| with_reducible refine rd_p9 ?_)
local macro_rules | `(tactic| walk_at "rd1B") => `(tactic| with_reducible refine rd_xf ?_)
local macro_rules | `(tactic| walk_at "rd1B") => `(tactic| with_reducible refine rd_ckw ?_)
local macro_rules | `(tactic| walk_at "rd1B") => `(tactic| with_reducible refine rd_mkO ?_)
local macro_rules | `(tactic| walk_at "rd1B") => `(tactic| with_reducible refine rd_callKS ?_)
local macro_rules | `(tactic| walk_at "rd1B") => `(tactic| with_reducible refine rd_callS ?_)
local macro_rules | `(tactic| walk_at "rd1B") => `(tactic| with_reducible refine rd_lc ?_)
local macro_rules | `(tactic| walk_at "rd1B") => `(tactic| with_reducible refine rd_iTup ?_)
local macro_rules | `(tactic| walk_at "rd1B") => `(tactic| with_reducible refine rd_iList ?_)
local macro_rules | `(tactic| walk_at "rd1B") => `(tactic| with_reducible refine rd_iRng1 ?_)
local macro_rules | `(tactic| walk_at "rd1B") => `(tactic| with_reducible refine rd_for ?_)
local macro_rules | `(tactic| walk_at "rd1B") => `(tactic| with_reducible refine rd_nopart ?_)
local macro_rules | `(tactic| walk_at "rd1B") => `(tactic| with_reducible refine rd_part ?_)
local macro_rules | `(tactic| walk_at "rd1B") => `(tactic| with_reducible refine rd_neB ?_)
local macro_rules | `(tactic| walk_at "rd1B") => `(tactic| with_reducible refine rd_eqS ?_)
local macro_rules | `(tactic| walk_at "rd1B") => `(tactic| with_reducible refine rd_eqB ?_)
local macro_rules | `(tactic| walk_at "rd1B") => `(tactic| with_reducible refine if_nN_ref ?_)
local macro_rules | `(tactic| walk_at "rd1B") => `(tactic| with_reducible refine if_nN_str ?_)
local macro_rules | `(tactic| walk_at "rd1B") => `(tactic| with_reducible refine if_nN_bl ?_)
local macro_rules | `(tactic| walk_at "rd1B") => `(tactic| with_reducible refine if_nN_int ?_)
local macro_rules | `(tactic| walk_at "rd1B") => `(tactic| with_reducible refine if_n_ref ?_)
local macro_rules | `(tactic| walk_at "rd1B") => `(tactic| with_reducible refine if_n_str ?_)
local macro_rules | `(tactic| walk_at "rd1B") => `(tactic| with_reducible refine if_n_bl ?_)
local macro_rules | `(tactic| walk_at "rd1B") => `(tactic| with_reducible refine if_n_int ?_)
local macro_rules | `(tactic| walk_at "rd1B") => `(tactic| with_reducible refine if_nnN ?_)
local macro_rules | `(tactic| walk_at "rd1B") => `(tactic| with_reducible refine if_nt ?_)
local macro_rules | `(tactic| walk_at "rd1B") => `(tactic| with_reducible refine if_nf ?_)
local macro_rules | `(tactic| walk_at "rd1B") => `(tactic| with_reducible refine if_nn ?_)
local macro_rules | `(tactic| walk_at "rd1B") => `(tactic| with_reducible refine iteF ?_)
local macro_rules | `(tactic| walk_at "rd1B") => `(tactic| with_reducible refine iteT ?_)
local macro_rules | `(tactic| walk_at "rd1B") => `(tactic| with_reducible refine rd_asgS ?_)
local macro_rules | `(tactic| walk_at "rd1B") => `(tactic| with_reducible refine rd_chain ?_)
local macro_rules | `(tactic| walk_at "rd1B") => `(tactic| with_reducible refine rd_bm ?_)
local macro_rules | `(tactic| walk_at "rd1B") => `(tactic| with_reducible refine rd_sl ?_)
local macro_rules | `(tactic| walk_at "rd1B") => `(tactic| with_reducible refine rd_tup ?_)
local macro_rules | `(tactic| walk_at "rd1B") => `(tactic| with_reducible refine rd_lst ?_)
local macro_rules | `(tactic| walk_at "rd1B") => `(tactic| with_reducible refine rd_neI ?_)
local macro_rules | `(tactic| walk_at "rd1B") => `(tactic| with_reducible refine rd_if ?_)
local macro_rules | `(tactic| walk_at "rd1B") => `(tactic| with_reducible refine rd_notV ?_)
local macro_rules | `(tactic| walk_at "rd1B") => `(tactic| with_reducible refine rd_orV ?_)
local macro_rules | `(tactic| walk_at "rd1B") => `(tactic| with_reducible refine rd_andV ?_)
local macro_rules | `(tactic| walk_at "rd1B") => `(tactic| with_reducible refine rd_drop ?_)
local macro_rules | `(tactic| walk_at "rd1B") => `(tactic| with_reducible refine rd_next ?_)
local macro_rules | `(tactic| walk_at "rd1B") => `(tactic| with_reducible refine rd_U ?_)
local macro_rules | `(tactic| walk_at "rd1B") => `(tactic| with_reducible refine rd_un ?_)
local macro_rules | `(tactic| walk_at "rd1B") => `(tactic| with_reducible refine rd_or ?_)
local macro_rules | `(tactic| walk_at "rd1B") => `(tactic| with_reducible refine rd_and ?_)
local macro_rules | `(tactic| walk_at "rd1B") => `(tactic| with_reducible refine rd_not ?_)
local macro_rules | `(tactic| walk_at "rd1B") => `(tactic| with_reducible refine rd_tB ?_)
local macro_rules | `(tactic| walk_at "rd1B") => `(tactic| with_reducible refine rd_test ?_)
local macro_rules | `(tactic| walk_at "rd1B") => `(tactic| with_reducible refine rd_ifS ?_)
local macro_rules | `(tactic| walk_at "rd1B") => `(tactic| with_reducible refine rd_ret ?_)
local macro_rules | `(tactic| walk_at "rd1B") => `(tactic| with_reducible refine rd_min2 ?_)
local macro_rules | `(tactic| walk_at "rd1B") => `(tactic| with_reducible refine rd_max2 ?_)
local macro_rules | `(tactic| walk_at "rd1B") => `(tactic| with_reducible refine rd_int1 ?_)
local macro_rules | `(tactic| walk_at "rd1B") => `(tactic| with_reducible refine rd_nn ?_)
local macro_rules | `(tactic| walk_at "rd1B") => `(tactic| with_reducible refine rd_bx ?_)
local macro_rules | `(tactic| walk_at "rd1B") => `(tactic| with_reducible refine rd_eqI ?_)
local macro_rules | `(tactic| walk_at "rd1B") => `(tactic| with_reducible refine rd_I0 ?_)
local macro_rules | `(tactic| walk_at "rd1B") => `(tactic| with_reducible refine rd_call ?_)
local macro_rules | `(tactic| walk_at "rd1B") => `(tactic| with_reducible refine rd_cb ?_)
local macro_rules | `(tactic| walk_at "rd1B") => `(tactic| with_reducible refine rd_nil ?_)
local macro_rules | `(tactic| walk_at "rd1B") => `(tactic| with_reducible refine rd_cons ?_)
local macro_rules | `(tactic| walk_at "rd1B") => `(tactic| with_reducible refine rd_op ?_)
local macro_rules | `(tactic| walk_at "rd1B") => `(tactic| with_reducible refine rd_c ?_)
local macro_rules | `(tactic| walk_at "rd1B") => `(tactic| with_reducible refine rd_asg ?_)
local macro_rules | `(tactic| walk_at "rd1B") => `(tactic| with_reducible refine rd_seq ?_)
local macro_rules | `(tactic| walk_at "rdB") => `(tactic| repeat walk_at "rd1B")
abbrev s_law_store : Stmt := topS 43
theorem sc_law_store : FnScope ["script"] ["script"] (defScope s_law_store) := ⟨rfl, rfl, rfl, by decide +kernel, rfl, by decide +kernel, by decide +kernel⟩
section
variable {P : Program} {w : World} {K : PySem.W.Frag} {mg : Str → Option Value} {base : Heap}
def spStore (K : PySem.W.Frag) : Sp := fun vs H Q _ => ∃ a, ∃ ns : List Int, vs = [.ref a] ∧ SqL K H a (ns.map V.int) ∧ ∀ (S : Sto) H', StoreOk S H' → Same H H' → Q (.ref S.1) H'
theorem ok_store {k : Nat} {f : Addr} {fd : FuncData} (F : Fun K "_law_store" "_law_store" s_law_store f fd) (T : Blt mg) : FnOk P w K mg base CX0 (k + 1) f fd ["script"] (spStore K) := by
  refine F.ok sc_law_store (fun vs H Q E h => ?_) (fun cdv A outer s H vs Q E hr h => ?_)
  · obtain ⟨a, ns, rfl, _⟩ := h; rfl
  · obtain ⟨a, ns, rfl, hL, q⟩ := h
    refine ⟨_, (pss_one (ps_ret (pe_lst (pa_cons (pe_callTy call_list_of (by rfl) T.list' (by decide +kernel) (pa_cons (pv 0) pa_nil)) (pa_cons pe_int (pa_cons pe_int (pa_cons pe_int (pa_cons pe_int (pa_cons pe_int (pa_cons pe_int pa_nil)))))))))), ?_⟩
    walk_at "rdB"
    refine ⟨a, _, rfl, .inl hL, fun q0 nq0 => ?_⟩
    walk_at "rdB"
    refine ⟨sz (by simp), fun S nS => ?_⟩
    have n2 : q0 ≠ S := fun e => by rw [← e, upd_same] at nS; cases nS
    refine q (S, q0) _ ⟨ns, 0, 0, 0, 0, 1, 1, n2, upd_same, by rw [upd_ne n2, upd_same], by omega, by omega, by omega, by omega, by omega⟩ ((same_new nq0).trans (same_new nS))
end
abbrev s_law_stir : Stmt := topS 44
theorem sc_law_stir : FnScope ["store", "cell", "one", "two"] ["store", "cell"] (defScope s_law_stir) := ⟨rfl, rfl, rfl, by decide +kernel, rfl, by decide +kernel, by decide +kernel⟩
section
variable {P : Program} {w : World} {K : PySem.W.Frag} {mg : Str → Option Value} {base : Heap}
def spStir : Sp := fun vs H Q _ => ∃ S n q a b c d e f, vs = [.ref S, .int n] ∧ H S = some (.lst [.ref q, .int a, .int b, .int c, .int d, .int e, .int f]) ∧ 0 ≤ e ∧ e < 2147483647 ∧ 0 ≤ f ∧ f < 2147483647 ∧ 
  ∀ d' e' f', 0 ≤ e' → e' < 2147483647 → 0 ≤ f' → f' < 2147483647 → Q .non (upd H S (.lst [.ref q, .int a, .int b, .int c, .int d', .int e', .int f']))
theorem ok_stir {k : Nat} {f : Addr} {fd : FuncData} (F : Fun K "_law_stir" "_law_stir" s_law_stir f fd) (T : Blt mg) : FnOk P w K mg base CX0 (k + 1) f fd ["store", "cell"] spStir := by
  refine F.ok sc_law_stir (fun vs H Q E h => ?_) (fun cdv A outer s H vs Q E hr h => ?_)
  · obtain ⟨S, n, q, a, b, c, d, e, f, rfl, _⟩ := h; rfl
  · obtain ⟨S, n, q, a, b, c, d, e, f', rfl, hs, h1, h2, h3, h4, h⟩ := h
    refine ⟨_, (pss_cons (ps_asg (pe_op op_add (pe_callTy call_int1 (by rfl) T.int (by decide +kernel) (pa_cons (pe_ix ix_list (pv 0) pe_int (fun _ _ => rfl)) pa_nil)) pe_int) (pg_sub (pv 0) pe_int set_list))
 (pss_cons (ps_set (i := 2) sc_law_stir.nd rfl (.inl rfl) (pe_op op_add (pe_op op_add (pe_op op_mul (pe_callTy call_int1 (by rfl) T.int (by decide +kernel) (pa_cons (pe_ix ix_list (pv 0) pe_int (fun _ _ => rfl)) pa_nil)) pe_int) (pe_op op_mod (pe_callTy call_int1 (by rfl) T.int (by decide +kernel) (pa_cons (pv 1) pa_nil)) pe_int)) (pe_callTy call_int1 (by rfl) T.int (by decide +kernel) (pa_cons (pe_ix ix_list (pv 0) pe_int (fun _ _ => rfl)) pa_nil))))
 (pss_cons (ps_asg (pe_op op_mod (pe_callTy call_int1 (by rfl) T.int (by decide +kernel) (pa_cons (pv 2) pa_nil)) pe_int) (pg_sub (pv 0) pe_int set_list))
 (pss_cons (ps_set (i := 3) sc_law_stir.nd rfl (.inl rfl) (pe_op op_add (pe_op op_add (pe_op op_add (pe_op op_mul (pe_callTy call_int1 (by rfl) T.int (by decide +kernel) (pa_cons (pe_ix ix_list (pv 0) pe_int (fun _ _ => rfl)) pa_nil)) pe_int) (pe_op op_mul (pe_callTy call_int1 (by rfl) T.int (by decide +kernel) (pa_cons (pe_ix ix_list (pv 0) pe_int (fun _ _ => rfl)) pa_nil)) pe_int)) (pe_op op_mod (pe_callTy call_int1 (by rfl) T.int (by decide +kernel) (pa_cons (pv 1) pa_nil)) pe_int)) (pe_callTy call_int1 (by rfl) T.int (by decide +kernel) (pa_cons (pe_ix ix_list (pv 0) pe_int (fun _ _ => rfl)) pa_nil))))
 (pss_one (ps_asg (pe_op op_mod (pe_callTy call_int1 (by rfl) T.int (by decide +kernel) (pa_cons (pv 3) pa_nil)) pe_int) (pg_sub (pv 0) pe_int set_list))))))), ?_⟩
    rw [← upd_id hs]
    walk_at "rdB"
    refine h _ _ _ ?_ ?_ ?_ ?_ <;> omega
end
abbrev s_law_take : Stmt := topS 45
theorem sc_law_take : FnScope ["store", "many", "cells", "cell", "rest"] ["store", "many"] (defScope s_law_take) := ⟨rfl, rfl, rfl, by decide +kernel, rfl, by decide +kernel, by decide +kernel⟩
section
variable {P : Program} {w : World} {K : PySem.W.Frag} {mg : Str → Option Value} {base : Heap}
def spTake : Sp := fun vs H Q _ => ∃ (S : Sto), ∃ m, vs = [.ref S.1, .int m] ∧ m < 2 ^ 200 ∧ StoreOk S H ∧ ∀ r H', 0 ≤ r → r < max 1 m → StoreOk S H' → ExS S H H' → Q (.int r) H'
theorem ok_take {k : Nat} {f : Addr} {fd : FuncData} (F : Fun K "_law_take" "_law_take" s_law_take f fd) (T : Blt mg) (H_law_stir : Has P w K mg base "_law_stir" k ["store", "cell"] spStir) : FnOk P w K mg base CX0 (k + 1) f fd ["store", "many"] spTake := by
  refine F.ok sc_law_take (fun vs H Q E h => ?_) (fun cdv A outer s H vs Q E hr h => ?_)
  · obtain ⟨S, m, rfl, _⟩ := h; rfl
  · obtain ⟨S, m, rfl, hm, hS, h⟩ := h
    refine ⟨_, (pss_cons (ps_set (i := 1) sc_law_take.nd rfl (.inl rfl) (pe_callB (call_max2 rfl) (by rfl) T.max (by decide +kernel) (pa_cons pe_int (pa_cons (pe_callTy call_int1 (by rfl) T.int (by decide +kernel) (pa_cons (pv 1) pa_nil)) pa_nil))))
 (pss_cons (ps_set (i := 2) sc_law_take.nd rfl (.inl rfl) (pe_ix ix_list (pv 0) pe_int (fun _ _ => rfl)))
 (C8.pss_cut (ps_if (PW.pt (pw_and (pt_cmpR op_eq (pe_callTy call_int1 (by rfl) T.int (by decide +kernel) (pa_cons (pe_ix ix_list (pv 0) pe_int (fun _ _ => rfl)) pa_nil)) pe_int (nomark _)) (pw_and (pt_cmpR op_eq (pe_callTy call_int1 (by rfl) T.int (by decide +kernel) (pa_cons (pe_ix ix_list (pv 0) pe_int (fun _ _ => rfl)) pa_nil)) pe_int (nomark _)) (pw_and1 (pt_cmpR op_lt (pe_callTy call_int1 (by rfl) T.int (by decide +kernel) (pa_cons (pe_ix ix_list (pv 0) pe_int (fun _ _ => rfl)) pa_nil)) (pe_callB call_len_seq (by rfl) T.len (by decide +kernel) (pa_cons (pv 2) pa_nil)) (nomark _)))))) (pss_cons (ps_set (i := 3) sc_law_take.nd rfl (.inl rfl) (pe_callTy call_int1 (by rfl) T.int (by decide +kernel) (pa_cons (pe_ix ix_list (pv 2) (pe_callTy call_int1 (by rfl) T.int (by decide +kernel) (pa_cons (pe_ix ix_list (pv 0) pe_int (fun _ _ => rfl)) pa_nil)) (fun _ _ => rfl)) pa_nil)))
 (pss_cons (ps_asg (pe_op op_add (pe_callTy call_int1 (by rfl) T.int (by decide +kernel) (pa_cons (pe_ix ix_list (pv 0) pe_int (fun _ _ => rfl)) pa_nil)) pe_int) (pg_sub (pv 0) pe_int set_list))
 (pss_cons (ps_asg pe_int (pg_sub (pv 0) pe_int set_list))
 (pss_cons (ps_expr (pe_callH H_law_stir hr (by rfl) (pa_cons (pv 0) (pa_cons (pv 3) pa_nil))))
 (pss_one (ps_if (pt_cmpR op_ge (pv 3) (pe_op op_pow pe_int pe_int) (nomark _)) (pss_cons (ps_asg (pv 3) (pg_sub (pv 0) pe_int set_list))
 (pss_one (ps_asg pe_int (pg_sub (pv 0) pe_int set_list)))) pss_nil)))))) pss_nil)
 (pss_cons (ps_set (i := 4) sc_law_take.nd rfl (.inl rfl) (pe_callTy call_int1 (by rfl) T.int (by decide +kernel) (pa_cons (pe_ix ix_list (pv 0) pe_int (fun _ _ => rfl)) pa_nil)))
 (pss_cons (ps_if (pt_cmpR op_gt (pv 4) pe_int (nomark _)) (pss_cons (ps_asg (pe_op op_fdivW (pv 4) (pv 1)) (pg_sub (pv 0) pe_int set_list))
 (pss_one (ps_ret (pe_op op_mod (pe_callTy call_int1 (by rfl) T.int (by decide +kernel) (pa_cons (pv 4) pa_nil)) (pv 1))))) pss_nil)
 (pss_cons (ps_expr (pe_callH H_law_stir hr (by rfl) (pa_cons (pv 0) (pa_cons pe_int pa_nil))))
 (pss_cons (ps_asg (pe_callB (call_max2 rfl) (by rfl) T.max (by decide +kernel) (pa_cons pe_int (pa_cons (pe_op op_sub (pe_callTy call_int1 (by rfl) T.int (by decide +kernel) (pa_cons (pe_ix ix_list (pv 0) pe_int (fun _ _ => rfl)) pa_nil)) pe_int) pa_nil))) (pg_sub (pv 0) pe_int set_list))
 (pss_one (ps_ret (pe_op op_mod (pe_callTy call_int1 (by rfl) T.int (by decide +kernel) (pa_cons (pe_op op_add (pe_op op_mul (pe_callTy call_int1 (by rfl) T.int (by decide +kernel) (pa_cons (pe_ix ix_list (pv 0) pe_int (fun _ _ => rfl)) pa_nil)) pe_int) (pe_callTy call_int1 (by rfl) T.int (by decide +kernel) (pa_cons (pe_ix ix_list (pv 0) pe_int (fun _ _ => rfl)) pa_nil))) pa_nil)) (pv 1))))))))))), ?_⟩
    obtain ⟨S, q⟩ := S
    obtain ⟨cells, a, b, c, d, e, f', nq, hs, hq, h0, h1, h2, h3, h4⟩ := hS
    dsimp only at nq hs hq ⊢
    rw [← upd_id hs]
    walk_at "rdB"
    obtain ⟨M, hM⟩ : ∃ M, M = (if m > 1 then m else 1) := ⟨_, rfl⟩
    rw [← hM]
    have hM1 : 1 ≤ M := by rw [hM]; split <;> omega
    have hM2 : M = max 1 m := by rw [hM]; split <;> omega
    have hM3 : M < 2 ^ 200 := by rw [hM]; split <;> omega
    clear hM
    refine rd_cut (fun σ' H' => ∃ a b c d e f y, σ' = [some (.ref S), some (.int M), some (.ref q), y, none] ∧ H' = upd H S (.lst [.ref q, .int a, .int b, .int c, .int d, .int e, .int f]) ∧ 0 ≤ a ∧ 0 ≤ e ∧ e < 2147483647 ∧ 0 ≤ f ∧ f < 2147483647) ?_ ?_
    · walk_at "rdB"
      refine if_dec (fun hb => ?_) (fun hb => ?_)
      · walk_at "rdB"
        refine if_dec (fun hc => ?_) (fun hc => ?_)
        · walk_at "rdB"
          refine rd_seqL (by rw [upd_ne nq]; exact hq) ?_
          walk_at "rdB"
          refine if_dec (fun hl => ?_) (fun hl => ?_)
          · obtain ⟨n, _, _, en⟩ := atI_ints h0 (by simpa using hl)
            walk_at "rdB"
            refine rd_ixL (by rw [upd_ne nq]; exact hq) en ?_
            walk_at "rdB"
            refine ⟨S, n, q, a + 1, b, 3, d, e, f', rfl, upd_same, h1, h2, h3, h4, fun d' e' f'' g1 g2 g3 g4 => ?_⟩
            rw [upd_upd]
            walk_at "rdB"
            refine if_dec (fun hn => ?_) (fun hn => ?_)
            · walk_at "rdB"
              exact ⟨_, _, _, _, _, _, _, rfl, rfl, by omega, g1, g2, g3, g4⟩
            · walk_at "rdB"
              exact ⟨_, _, _, _, _, _, _, rfl, rfl, by omega, g1, g2, g3, g4⟩
          · walk_at "rdB"
            exact ⟨_, _, _, _, _, _, _, rfl, rfl, h0, h1, h2, h3, h4⟩
        · walk_at "rdB"
          exact ⟨_, _, _, _, _, _, _, rfl, rfl, h0, h1, h2, h3, h4⟩
      · walk_at "rdB"
        exact ⟨_, _, _, _, _, _, _, rfl, rfl, h0, h1, h2, h3, h4⟩
    · rintro σ' H' ⟨a, b, c, d, e, f, y, rfl, rfl, h0, h1, h2, h3, h4⟩
      have fin : ∀ (r a b c d e f : Int), 0 ≤ r → r < M → 0 ≤ a → 0 ≤ e → e < 2147483647 → 0 ≤ f → f < 2147483647 → Q (.int r) (upd H S (.lst [.ref q, .int a, .int b, .int c, .int d, .int e, .int f])) := fun r a b c d e f r0 r1 h0 h1 h2 h3 h4 =>
        h r _ r0 (by omega) ⟨cells, a, b, c, d, e, f, nq, upd_same, by rw [upd_ne nq]; exact hq, h0, h1, h2, h3, h4⟩ (ExS.updS (S := (S, q)))
      walk_at "rdB"
      refine if_dec (fun hb => ?_) (fun hb => ?_)
      · walk_at "rdB"
        refine rd_I (wide_div (b := 200) (by omega) (by omega) (by omega) (by omega)) ?_
        walk_at "rdB"
        exact fin _ _ _ _ _ _ _ (Int.emod_nonneg _ (by omega)) (Int.emod_lt_of_pos _ (by omega)) h0 h1 h2 h3 h4
      · walk_at "rdB"
        refine ⟨S, 0, q, a, b, c, d, e, f, rfl, upd_same, h1, h2, h3, h4, fun d' e' f'' g1 g2 g3 g4 => ?_⟩
        rw [upd_upd]
        walk_at "rdB"
        exact fin _ _ _ _ _ _ _ (Int.emod_nonneg _ (by omega)) (Int.emod_lt_of_pos _ (by omega)) h0 g1 g2 g3 g4
end
abbrev s_law_pick : Stmt := topS 46
theorem sc_law_pick : FnScope ["store", "items"] ["store", "items"] (defScope s_law_pick) := ⟨rfl, rfl, rfl, by decide +kernel, rfl, by decide +kernel, by decide +kernel⟩
section
variable {P : Program} {w : World} {K : PySem.W.Frag} {mg : Str → Option Value} {base : Heap}
def spPick : Sp := fun vs H Q _ => ∃ (S : Sto), ∃ x, vs = [.ref S.1, x] ∧ StoreOk S H ∧
  ((∃ a xs, x = .ref a ∧ At S H a (.lst xs) ∧ 0 < xs.length ∧ xs.length < 1000000 ∧ ∀ v H', v ∈ xs → StoreOk S H' → ExS S H H' → Q v H') ∨
   (∃ z : Str, x = .str z ∧ 0 < z.length ∧ z.length < 100000 ∧ ∀ c H', c ∈ z.cps.toList → StoreOk S H' → ExS S H H' → Q (.str ⟨#[c]⟩) H'))
theorem ok_pick {k : Nat} {f : Addr} {fd : FuncData} (F : Fun K "_law_pick" "_law_pick" s_law_pick f fd) (T : Blt mg) (H_law_take : Has P w K mg base "_law_take" k ["store", "many"] spTake) : FnOk P w K mg base CX0 (k + 1) f fd ["store", "items"] spPick := by
  refine F.ok sc_law_pick (fun vs H Q E h => ?_) (fun cdv A outer s H vs Q E hr h => ?_)
  · obtain ⟨S, x, rfl, _⟩ := h; rfl
  · obtain ⟨S, x, rfl, hS, h⟩ := h
    refine ⟨_, (pss_one (ps_ret (pe_ix ix_seq (pv 1) (pe_callH H_law_take hr (by rfl) (pa_cons (pv 0) (pa_cons (pe_callB (call_len_seq.or call_len_str) (by rfl) T.len (by decide +kernel) (pa_cons (pv 1) pa_nil)) pa_nil))) (fun _ _ => rfl)))), ?_⟩
    rcases h with ⟨a, xs, rfl, hA, l0, l1, h⟩ | ⟨z, rfl, l0, l1, h⟩
    · walk_at "rdB"
      refine .inl (rd_seqL hA.2 ?_)
      walk_at "rdB"
      refine ⟨S, _, rfl, by omega, hS, fun r H' r0 r1 hS' he => ?_⟩
      obtain ⟨hb, e⟩ := atI_get (xs := xs) (i := r) r0 (by omega)
      exact .inl (rd_ixL (he _ _ hA.1 hA.2) e (h _ _ (List.getElem_mem hb) hS' he))
    · walk_at "rdB"
      refine .inr ⟨z, rfl, sz (by omega), ?_⟩
      walk_at "rdB"
      refine ⟨S, _, rfl, by omega, hS, fun r H' r0 r1 hS' he => ?_⟩
      obtain ⟨c, hc, _, e⟩ := atI_nats (l := z.cps.toList) (i := r) r0 (by rw [len_l]; omega)
      exact .inr (.inr (rd_ixS (by omega) e (h _ _ hc hS' he)))
end
abbrev s_law_shuffled : Stmt := topS 47
theorem sc_law_shuffled : FnScope ["store", "items", "mixed", "k", "j", "held"] ["store", "items"] (defScope s_law_shuffled) := ⟨rfl, rfl, rfl, by decide +kernel, rfl, by decide +kernel, by decide +kernel⟩
section
variable {P : Program} {w : World} {K : PySem.W.Frag} {mg : Str → Option Value} {base : Heap}
def spShuffled : Sp := fun vs H Q _ => ∃ (S : Sto), ∃ a xs, vs = [.ref S.1, .ref a] ∧ StoreOk S H ∧ At S H a (.lst xs) ∧ xs.length < 1000000 ∧ ∀ p ys H', ys.Perm xs → H p = none → At S H' p (.lst ys) → StoreOk S H' → ExS S H H' → Q (.ref p) H'
theorem ok_shuffled {k : Nat} {f : Addr} {fd : FuncData} (F : Fun K "_law_shuffled" "_law_shuffled" s_law_shuffled f fd) (T : Blt mg) (H_law_take : Has P w K mg base "_law_take" k ["store", "many"] spTake) : FnOk P w K mg base CX0 (k + 1) f fd ["store", "items"] spShuffled := by
  refine F.ok sc_law_shuffled (fun vs H Q E h => ?_) (fun cdv A outer s H vs Q E hr h => ?_)
  · obtain ⟨S, a, xs, rfl, _⟩ := h; rfl
  · obtain ⟨S, a, xs, rfl, hS, hA, l1, h⟩ := h
    refine ⟨_, (pss_cons (ps_set (i := 2) sc_law_shuffled.nd rfl (.inl rfl) (pe_callTy call_list_of (by rfl) T.list' (by decide +kernel) (pa_cons (pv 1) pa_nil)))
 (pss_cons (ps_for PassesOwn.never rfl (pi_range1 rfl T.range (pa_cons (pe_callB call_len_seq (by rfl) T.len (by decide +kernel) (pa_cons (pv 2) pa_nil)) pa_nil)) (pg_name (i := 3) sc_law_shuffled.nd rfl (.inl rfl)) (pss_cons (ps_set (i := 4) sc_law_shuffled.nd rfl (.inl rfl) (pe_op op_add (pv 3) (pe_callH H_law_take hr (by rfl) (pa_cons (pv 0) (pa_cons (pe_op op_sub (pe_callB call_len_seq (by rfl) T.len (by decide +kernel) (pa_cons (pv 2) pa_nil)) (pv 3)) pa_nil)))))
 (pss_cons (ps_set (i := 5) sc_law_shuffled.nd rfl (.inl rfl) (pe_ix ix_list (pv 2) (pv 3) (fun _ _ => rfl)))
 (pss_cons (ps_asg (pe_ix ix_list (pv 2) (pv 4) (fun _ _ => rfl)) (pg_sub (pv 2) (pv 3) set_list))
 (pss_one (ps_asg (pv 5) (pg_sub (pv 2) (pv 4) set_list)))))))
 (pss_one (ps_ret (pv 2))))), ?_⟩
    walk_at "rdB"
    refine rd_seqL hA.2 fun p np => ?_
    walk_at "rdB"
    refine rd_seqL upd_same ?_
    walk_at "rdB"
    have pS : p ≠ S.1 := hS.ne1 np
    have pS2 : p ≠ S.2 := hS.ne2 np
    refine ⟨by omega, by omega, for_rng (fun i σ H' => ∃ ys y3 y4 y5, σ = [some (.ref S.1), some (.ref a), some (.ref p), y3, y4, y5] ∧ ys.Perm xs ∧ H' p = some (.lst ys) ∧ StoreOk S H' ∧ ExS S H H') ⟨xs, _, _, _, rfl, .refl _, upd_same, hS.new np, .new np⟩ ?_ ?_⟩
    · rintro i σ H' hi ⟨ys, y3, y4, y5, rfl, hp, eH, hS', hE⟩
      have hl : ys.length = xs.length := hp.length_eq
      have hi' : i < xs.length := by simpa using hi
      walk_at "rdB"
      refine rd_seqL eH ?_
      walk_at "rdB"
      refine ⟨S, _, rfl, by omega, hS', fun r H2 r0 r1 hS2 hE2 => ?_⟩
      have eH2 := hE2 _ _ pS eH
      walk_at "rdB"
      obtain ⟨hb, e⟩ := atI_get (xs := ys) (i := (i : Int)) (by omega) (by omega)
      refine rd_ixL eH2 e ?_
      walk_at "rdB"
      obtain ⟨hb2, e2⟩ := atI_get (xs := ys) (i := (i : Int) + r) (by omega) (by omega)
      refine rd_ixL eH2 e2 ?_
      walk_at "rdB"
      refine rd_setL eH2 (ixN_nat (by omega) (by omega)) ?_
      walk_at "rdB"
      refine rd_setL upd_same (ixN_nat (by omega) (by rw [List.length_set]; omega)) ?_
      rw [upd_upd]
      walk_at "rdB"
      refine ⟨_, _, _, _, rfl, (swap_perm hb hb2).trans hp, upd_same, store_upd hS2 pS pS2, (hE.trans hE2).mut np⟩
    · rintro σ H' ⟨ys, y3, y4, y5, rfl, hp, eH, hS', hE⟩
      walk_at "rdB"
      exact h p ys H' hp np ⟨pS, eH⟩ hS' hE
end
local macro_rules | `(tactic| walk_at "sideA") => `(tactic| first | assumption | exact Z.sl_of (by assumption) | exact upd_same | (show (0 : Int) < _; omega) | exact Or.inl ⟨by omega, by omega⟩ | exact Or.inr ⟨by omega, by omega⟩)
local macro_rules | `(tactic| walk_at "tyofA") => `(tactic| first | exact TyOf.int _ | exact TyOf.bl _ | exact TyOf.non | exact TyOf.str _ | (apply TyOf.lst; assumption) | (apply TyOf.tup; assumption))
local macro_rules | `(tactic| walk_at "rd1A") => `(tactic| ((with_reducible refine rd_ixL (xs := ?xs) (v := ?v) ?hh ?he ?_); (case hh => first | exact upd_same | assumption); (case he => exact rfl)))
local macro_rules | `(tactic| walk_at "rd1A") => `(tactic| ((with_reducible refine rd_I ?hc ?_); (case hc => walk_at "sideA")))
local macro_rules | `(tactic| walk_at "rd1A") => `(tactic| ((with_reducible refine rd_isiT (b := ?b) (by assumption) ?k ?_); (case k => with_reducible first | exact kb_tuple_int | exact kb_tuple_bool | exact kb_tuple_str | exact kb_tuple_dict | exact kb_tuple_list | exact kb_tuple_tuple)))
local macro_rules | `(tactic| walk_at "rd1A") => `(tactic| ((with_reducible refine rd_isiL (b := ?b) (by assumption) ?k ?_); (case k => with_reducible first | exact kb_list_int | exact kb_list_bool | exact kb_list_str | exact kb_list_dict | exact kb_list_list | exact kb_list_tuple)))
local macro_rules | `(tactic| walk_at "rd1A") => `(tactic| ((with_reducible refine rd_isi (a := ?a) (b := ?b) ?ty ?k ?_); (case ty => first | exact TyOf.int _ | exact TyOf.bl _ | exact TyOf.non | exact TyOf.str _); (case k => with_reducible first | exact kb_int_int | exact kb_int_bool | exact kb_int_str | exact kb_int_dict | exact kb_int_list | exact kb_int_tuple | exact kb_bool_int | exact kb_bool_bool | exact kb_bool_str | exact kb_bool_dict | exact kb_bool_list | exact kb_bool_tuple | exact kb_NoneType_int | exact kb_NoneType_bool | exact kb_NoneType_str | exact kb_NoneType_dict | exact kb_NoneType_list | exact kb_NoneType_tuple | exact kb_str_int | exact kb_str_bool | exact kb_str_str | exact kb_str_dict | exact kb_str_list | exact kb_str_tuple)))
local macro_rules | `(tactic| walk_at "rd1A") => `(tactic| ((with_reducible refine rd_setS (j := ?j) ?he ?_); (case he => exact rfl)))
local macro_rules | `(tactic| walk_at "rd1A") => `(tactic| ((with_reducible refine rd_var (v := ?v) ?hv ?_); (case hv => exact rfl)))
local macro_rules | `(tactic| walk_at "rd1A") => `(tactic| with_reducible refine rd_p40 ?_)
local macro_rules | `(tactic| walk_at "rd1A") => `(tactic| with_reducible refine rd_p30 ?_)
local macro_rules | `(tactic| walk_at "rd1A") => `(tactic| with_reducible refine rd_p18 ?_)
local macro_rules | `(tactic| walk_at "rd1A") => `(tactic| with_reducible refine rd_p13 ?_)
local macro_rules | `(tactic| walk_at "rd1A") => `(tactic| with_reducible refine rd_p12 ?_)
local macro_rules | `(tactic| walk_at "rd1A") => `(tactic| with_reducible refine rd_p11 ?_)
local macro_rules | `(tactic| walk_at "rd1A") => `(tactic| with_reducible refine rd_p9 ?_)
local macro_rules | `(tactic| walk_at "rd1A") => `(tactic| with_reducible refine rd_xf ?_)
local macro_rules | `(tactic| walk_at "rd1A") => `(tactic| with_reducible refine rd_ckw ?_)
local macro_rules | `(tactic| walk_at "rd1A") => `(tactic| with_reducible refine rd_mkO ?_)
local macro_rules | `(tactic| walk_at "rd1A") => `(tactic| with_reducible refine rd_callKS ?_)
local macro_rules | `(tactic| walk_at "rd1A") => `(tactic| with_reducible refine rd_callS ?_)
local macro_rules | `(tactic| walk_at "rd1A") => `(tactic| with_reducible refine rd_lc ?_)
local macro_rules | `(tactic| walk_at "rd1A") => `(tactic| with_reducible refine rd_iTup ?_)
local macro_rules | `(tactic| walk_at "rd1A") => `(tactic| with_reducible refine rd_iList ?_)
local macro_rules | `(tactic| walk_at "rd1A") => `(tactic| with_reducible refine rd_iRng1 ?_)
local macro_rules | `(tactic| walk_at "rd1A") => `(tactic| with_reducible refine rd_for ?_)
local macro_rules | `(tactic| walk_at "rd1A") => `(tactic| with_reducible refine rd_nopart ?_)
local macro_rules | `(tactic| walk_at "rd1A") => `(tactic| with_reducible refine rd_part ?_)
local macro_rules | `(tactic| walk_at "rd1A") => `(tactic| with_reducible refine rd_neB ?_)
local macro_rules | `(tactic| walk_at "rd1A") => `(tactic| with_reducible refine rd_eqS ?_)
local macro_rules | `(tactic| walk_at "rd1A") => `(tactic| with_reducible refine rd_eqB ?_)
local macro_rules | `(tactic| walk_at "rd1A") => `(tactic| with_reducible refine if_nN_ref ?_)
local macro_rules | `(tactic| walk_at "rd1A") => `(tactic| with_reducible refine if_nN_str ?_)
local macro_rules | `(tactic| walk_at "rd1A") => `(tactic| with_reducible refine if_nN_bl ?_)
local macro_rules | `(tactic| walk_at "rd1A") => `(tactic| with_reducible refine if_nN_int ?_)
local macro_rules | `(tactic| walk_at "rd1A") => `(tactic| with_reducible refine if_n_ref ?_)
local macro_rules | `(tactic| walk_at "rd1A") => `(tactic| with_reducible refine if_n_str ?_)
local macro_rules | `(tactic| walk_at "rd1A") => `(tactic| with_reducible refine if_n_bl ?_)
local macro_rules | `(tactic| walk_at "rd1A") => `(tactic| with_reducible refine if_n_int ?_)
local macro_rules | `(tactic| walk_at "rd1A") => `(tactic| with_reducible refine if_nnN ?_)
local macro_rules | `(tactic| walk_at "rd1A") => `(tactic| with_reducible refine if_nt ?_)
local macro_rules | `(tactic| walk_at "rd1A") => `(tactic| with_reducible refine if_nf ?_)
local macro_rules | `(tactic| walk_at "rd1A") => `(tactic| with_reducible refine if_nn ?_)
local macro_rules | `(tactic| walk_at "rd1A") => `(tactic| with_reducible refine iteF ?_)
local macro_rules | `(tactic| walk_at "rd1A") => `(tactic| with_reducible refine iteT ?_)
local macro_rules | `(tactic| walk_at "rd1A") => `(tactic| with_reducible refine rd_asgS ?_)
local macro_rules | `(tactic| walk_at "rd1A") => `(tactic| with_reducible refine rd_chain ?_)
local macro_rules | `(tactic| walk_at "rd1A") => `(tactic| with_reducible refine rd_bm ?_)
local macro_rules | `(tactic| walk_at "rd1A") => `(tactic| with_reducible refine rd_sl ?_)
local macro_rules | `(tactic| walk_at "rd1A") => `(tactic| with_reducible refine rd_tup ?_)
local macro_rules | `(tactic| walk_at "rd1A") => `(tactic| with_reducible refine rd_lst ?_)
local macro_rules | `(tactic| walk_at "rd1A") => `(tactic| with_reducible refine rd_neI ?_)
local macro_rules | `(tactic| walk_at "rd1A") => `(tactic| with_reducible refine rd_if ?_)
local macro_rules | `(tactic| walk_at "rd1A") => `(tactic| with_reducible refine rd_notV ?_)
local macro_rules | `(tactic| walk_at "rd1A") => `(tactic| with_reducible refine rd_orV ?_)
local macro_rules | `(tactic| walk_at "rd1A") => `(tactic| with_reducible refine rd_andV ?_)
local macro_rules | `(tactic| walk_at "rd1A") => `(tactic| with_reducible refine rd_drop ?_)
local macro_rules | `(tactic| walk_at "rd1A") => `(tactic| with_reducible refine rd_next ?_)
local macro_rules | `(tactic| walk_at "rd1A") => `(tactic| with_reducible refine rd_U ?_)
local macro_rules | `(tactic| walk_at "rd1A") => `(tactic| with_reducible refine rd_un ?_)
local macro_rules | `(tactic| walk_at "rd1A") => `(tactic| with_reducible refine rd_or ?_)
local macro_rules | `(tactic| walk_at "rd1A") => `(tactic| with_reducible refine rd_and ?_)
local macro_rules | `(tactic| walk_at "rd1A") => `(tactic| with_reducible refine rd_not ?_)
local macro_rules | `(tactic| walk_at "rd1A") => `(tactic| with_reducible refine rd_tB ?_)
local macro_rules | `(tactic| walk_at "rd1A") => `(tactic| with_reducible refine rd_test ?_)
local macro_rules | `(tactic| walk_at "rd1A") => `(tactic| with_reducible refine rd_ifS ?_)
local macro_rules | `(tactic| walk_at "rd1A") => `(tactic| with_reducible refine rd_ret ?_)
local macro_rules | `(tactic| walk_at "rd1A") => `(tactic| with_reducible refine rd_min2 ?_)
local macro_rules | `(tactic| walk_at "rd1A") => `(tactic| with_reducible refine rd_max2 ?_)
local macro_rules | `(tactic| walk_at "rd1A") => `(tactic| with_reducible refine rd_int1 ?_)
local macro_rules | `(tactic| walk_at "rd1A") => `(tactic| with_reducible refine rd_nn ?_)
local macro_rules | `(tactic| walk_at "rd1A") => `(tactic| with_reducible refine rd_bx ?_)
local macro_rules | `(tactic| walk_at "rd1A") => `(tactic| with_reducible refine rd_eqI ?_)
local macro_rules | `(tactic| walk_at "rd1A") => `(tactic| with_reducible refine rd_I0 ?_)
local macro_rules | `(tactic| walk_at "rd1A") => `(tactic| with_reducible refine rd_call ?_)
local macro_rules | `(tactic| walk_at "rd1A") => `(tactic| with_reducible refine rd_cb ?_)
local macro_rules | `(tactic| walk_at "rd1A") => `(tactic| with_reducible refine rd_nil ?_)
local macro_rules | `(tactic| walk_at "rd1A") => `(tactic| with_reducible refine rd_cons ?_)
local macro_rules | `(tactic| walk_at "rd1A") => `(tactic| with_reducible refine rd_op ?_)
local macro_rules | `(tactic| walk_at "rd1A") => `(tactic| with_reducible refine rd_c ?_)
local macro_rules | `(tactic| walk_at "rd1A") => `(tactic| with_reducible refine rd_asg ?_)
local macro_rules | `(tactic| walk_at "rd1A") => `(tactic| with_reducible refine rd_seq ?_)
local macro_rules | `(tactic| walk_at "rdA") => `(tactic| repeat walk_at "rd1A")
abbrev s_law_pool : Stmt := topS 48
theorem sc_law_pool : FnScope ["store", "many", "kind", "ends", "start", "step", "numbers", "k"] ["store"] (defScope s_law_pool) := ⟨rfl, rfl, rfl, by decide +kernel, rfl, by decide +kernel, by decide +kernel⟩
section
variable {P : Program} {w : World} {K : PySem.W.Frag} {mg : Str → Option Value} {base : Heap}
def spPool : Sp := fun vs H Q _ => ∃ S : Sto, vs = [.ref S.1] ∧ StoreOk S H ∧ ∀ p, ∀ ns : List Int, ∀ H', (∀ n ∈ ns, InR n) → ns.Pairwise (· < ·) → 2 ≤ ns.length → ns.length ≤ 6 → At S H' p (.lst (ns.map V.int)) → StoreOk S H' → ExS S H H' → Q (.ref p) H'
theorem ok_pool {k : Nat} {f : Addr} {fd : FuncData} (F : Fun K "_law_pool" "_law_pool" s_law_pool f fd) (T : Blt mg) (H_law_take : Has P w K mg base "_law_take" k ["store", "many"] spTake) (H_law_shuffled : Has P w K mg base "_law_shuffled" k ["store", "items"] spShuffled) : FnOk P w K mg base CX0 (k + 1) f fd ["store"] spPool := by
  refine F.ok sc_law_pool (fun vs H Q E h => ?_) (fun cdv A outer s H vs Q E hr h => ?_)
  · obtain ⟨S, rfl, _⟩ := h; rfl
  · obtain ⟨S, rfl, hS, h⟩ := h
    refine ⟨_, (pss_cons (ps_set (i := 1) sc_law_pool.nd rfl (.inl rfl) (pe_op op_add pe_int (pe_callH H_law_take hr (by rfl) (pa_cons (pv 0) (pa_cons pe_int pa_nil)))))
 (pss_cons (ps_set (i := 2) sc_law_pool.nd rfl (.inl rfl) (pe_callH H_law_take hr (by rfl) (pa_cons (pv 0) (pa_cons pe_int pa_nil))))
 (pss_cons (ps_if (pt_cmpR op_eq (pv 2) pe_int (nomark _)) (pss_cons (ps_set (i := 3) sc_law_pool.nd rfl (.inl rfl) (pe_lst (pa_cons (pe_un un_neg (pe_op op_pow pe_int pe_int)) (pa_cons (pe_op op_sub pe_int (pe_op op_pow pe_int pe_int)) (pa_cons (pe_un un_neg pe_int) (pa_cons pe_int (pa_cons (pe_op op_sub (pe_op op_pow pe_int pe_int) pe_int) (pa_cons (pe_op op_pow pe_int pe_int) pa_nil))))))))
 (pss_one (ps_ret (pe_callB cr_sortedI (by rfl) T.sorted (by decide +kernel) (pa_cons (pe_slice sl_list (pe_callH H_law_shuffled hr (by rfl) (pa_cons (pv 0) (pa_cons (pv 3) pa_nil))) po_none (po_some (pv 1))) pa_nil))))) pss_nil)
 (pss_cons (ps_set (i := 4) sc_law_pool.nd rfl (.inl rfl) (pe_op op_sub (pe_callH H_law_take hr (by rfl) (pa_cons (pv 0) (pa_cons pe_int pa_nil))) pe_int))
 (pss_cons (ps_set (i := 5) sc_law_pool.nd rfl (.inl rfl) pe_int)
 (C8.pss_cut (ps_if (pt_cmpR op_eq (pv 2) pe_int (nomark _)) (pss_cons (ps_set (i := 4) sc_law_pool.nd rfl (.inl rfl) (pe_op op_sub (pe_callH H_law_take hr (by rfl) (pa_cons (pv 0) (pa_cons pe_int pa_nil))) pe_int))
 (pss_one (ps_set (i := 5) sc_law_pool.nd rfl (.inl rfl) pe_int))) pss_nil)
 (C8.pss_cut (ps_if (pt_cmpR op_eq (pv 2) pe_int (nomark _)) (pss_cons (ps_set (i := 4) sc_law_pool.nd rfl (.inl rfl) (pe_op op_sub (pe_callH H_law_take hr (by rfl) (pa_cons (pv 0) (pa_cons (pe_op op_pow pe_int pe_int) pa_nil))) (pe_op op_pow pe_int pe_int)))
 (pss_one (ps_set (i := 5) sc_law_pool.nd rfl (.inl rfl) (pe_op op_mul pe_int (pe_op op_pow pe_int pe_int))))) pss_nil)
 (pss_cons (ps_set (i := 6) sc_law_pool.nd rfl (.inl rfl) (pe_lst (pa_cons (pv 4) pa_nil)))
 (pss_cons (ps_for PassesOwn.never rfl (pi_range1 rfl T.range (pa_cons (pe_op op_sub (pv 1) pe_int) pa_nil)) (pg_name (i := 7) sc_law_pool.nd rfl (.inl rfl)) (pss_one (ps_expr (pe_bm PySem.F.plainAttrs_list PySem.F.slot_list_append PySem.F.type_list_append mt_append (pv 6) (pa_cons (pe_op op_add (pe_op op_add (pe_ix ix_list (pv 6) (pv 7) (fun _ _ => rfl)) pe_int) (pe_callH H_law_take hr (by rfl) (pa_cons (pv 0) (pa_cons (pv 5) pa_nil)))) pa_nil)))))
 (pss_one (ps_ret (pv 6)))))))))))), ?_⟩
    walk_at "rdA"
    refine ⟨S, 5, rfl, by omega, hS, fun m H1 m0 m1 hS1 e1 => ?_⟩
    walk_at "rdA"
    refine ⟨S, 4, rfl, by omega, hS1, fun kd H2 k0 k1 hS2 e2 => ?_⟩
    have e2 := e1.trans e2
    walk_at "rdA"
    refine if_dec (fun hk => ?_) (fun hk => ?_)
    · walk_at "rdA"
      refine ⟨sz (by simp), fun p np => ?_⟩
      walk_at "rdA"
      refine ⟨S, p, _, rfl, hS2.new np, .new hS2 np, by simp, fun p2 ys H3 hp _ hA3 hS3 e3 => ?_⟩
      walk_at "rdA"
      refine ⟨_, rfl, p2, ys, rfl, sl_of hA3.2, fun p3 np3 => ?_⟩
      walk_at "rdA"
      obtain ⟨M, hM⟩ : ∃ M : Nat, (M : Int) = 2 + m := ⟨(2 + m).toNat, by omega⟩
      obtain ⟨ms, em, hm⟩ := ints_of (ns := [-1000000000000, 1 - 1000000000000, -1, 0, 1000000000000 - 1, 1000000000000]) (ys := ys.take M) (fun y hy => by
        have := hp.mem_iff.mp (List.mem_of_mem_take hy)
        simpa using this)
      have l6 : ys.length = 6 := by rw [hp.length_eq]; rfl
      have lm : ms.length = M := by
        have := congrArg List.length em
        rw [List.length_take, List.length_map, l6] at this
        omega
      rw [← hM, cut_to, em]
      refine ⟨p3, ms, rfl, sl_of upd_same, fun ns' p4 hp4 hs4 np4 => ?_⟩
      have hS4 := (hS3.new (o := .lst (ms.map V.int)) np3)
      have ndy : ys.Nodup := hp.nodup_iff.mpr (by decide)
      have ndm : ms.Nodup := by
        have h1 : (ms.map V.int).Nodup := by rw [← em]; exact ndy.sublist (List.take_sublist _ _)
        rw [List.nodup_iff_pairwise_ne] at h1 ⊢
        exact (List.pairwise_map.mp h1).imp fun hab e => hab (by rw [e])
      have ndn : ns'.Nodup := hp4.nodup_iff.mpr ndm
      have pw : ns'.Pairwise (· < ·) := by
        rw [List.nodup_iff_pairwise_ne] at ndn
        exact (hs4.and ndn).imp fun ⟨a, b⟩ => by omega
      refine h p4 ns' _ (fun n hn => ?_) pw (by rw [hp4.length_eq]; omega) (by rw [hp4.length_eq]; omega) (.new hS4 np4) (hS4.new np4) (((e2.trans (.new np)).trans e3).trans ((ExS.new np3).trans (.new np4)))
      have := hm n (hp4.mem_iff.mp hn)
      simp only [List.mem_cons, List.not_mem_nil, or_false] at this
      unfold InR
      omega
    · walk_at "rdA"
      refine ⟨S, 5, rfl, by omega, hS2, fun s0 H3 s00 s01 hS3 e3 => ?_⟩
      have e3 := e2.trans e3
      walk_at "rdA"
      refine rd_cut (fun σ' H' => ∃ s0 st : Int, σ' = [some (.ref S.1), some (.int (2 + m)), some (.int kd), none, some (.int s0), some (.int st), none, none] ∧ -1000000000000 ≤ s0 ∧ 1 ≤ st ∧ st ≤ 300000000000 ∧ s0 + 5 * st ≤ 1000000000000 ∧ StoreOk S H' ∧ ExS S H H') ?_ ?_
      · walk_at "rdA"
        refine if_dec (fun hk => ?_) (fun hk => ?_)
        · walk_at "rdA"
          refine ⟨S, 100, rfl, by omega, hS3, fun s1 H4 s10 s11 hS4 e4 => ?_⟩
          walk_at "rdA"
          exact ⟨_, _, rfl, by omega, by omega, by omega, by omega, hS4, e3.trans e4⟩
        · walk_at "rdA"
          exact ⟨_, _, rfl, by omega, by omega, by omega, by omega, hS3, e3⟩
      · rintro σ' H4 ⟨s0, st, rfl, a0, a1, a2, a3, hS4, e4⟩
        refine rd_cut (fun σ' H' => ∃ s0 st : Int, σ' = [some (.ref S.1), some (.int (2 + m)), some (.int kd), none, some (.int s0), some (.int st), none, none] ∧ -1000000000000 ≤ s0 ∧ 1 ≤ st ∧ st ≤ 300000000000 ∧ s0 + 5 * st ≤ 1000000000000 ∧ StoreOk S H' ∧ ExS S H H') ?_ ?_
        · walk_at "rdA"
          refine if_dec (fun hk => ?_) (fun hk => ?_)
          · walk_at "rdA"
            refine ⟨S, _, rfl, by omega, hS4, fun s1 H5 s10 s11 hS5 e5 => ?_⟩
            walk_at "rdA"
            exact ⟨_, _, rfl, by omega, by omega, by omega, by omega, hS5, e4.trans e5⟩
          · walk_at "rdA"
            exact ⟨_, _, rfl, a0, a1, a2, a3, hS4, e4⟩
        · rintro σ' H5 ⟨s0, st, rfl, a0, a1, a2, a3, hS5, e5⟩
          walk_at "rdA"
          refine ⟨sz (by simp), fun p np => ?_⟩
          have pS := hS5.ne1 np
          have pS2 := hS5.ne2 np
          walk_at "rdA"
          refine ⟨_, rfl, by omega, by omega, for_rng (fun i σ H' => ∃ ms : List Int, ∃ y, σ = [some (.ref S.1), some (.int (2 + m)), some (.int kd), none, some (.int s0), some (.int st), some (.ref p), y] ∧ ms.length = i + 1 ∧ (∀ n ∈ ms, -1000000000000 ≤ n ∧ n ≤ s0 + i * st) ∧ (ms.Pairwise (· < ·) ∧ ∀ n ∈ ms, ∀ z, ms[i]? = some z → n ≤ z) ∧ H' p = some (.lst (ms.map V.int)) ∧ StoreOk S H' ∧ ExS S H5 H') ⟨[s0], _, rfl, rfl, by simp; omega, ⟨by simp, by simp⟩, upd_same, hS5.new np, .new np⟩ ?_ ?_⟩
          · rintro i σ H6 hi ⟨ms, y, rfl, hl, hb, ⟨pw, top⟩, eH, hS6, e6⟩
            walk_at "rdA"
            obtain ⟨n, hn, gn, en⟩ := atI_ints (xs := ms) (i := (i : Int)) (by omega) (by omega)
            have top' : ∀ x ∈ ms, x ≤ n := fun x hx => top x hx n (by simpa using gn)
            refine ⟨.inl ⟨rfl, _, .inl (.inl eH)⟩, ?_⟩
            walk_at "rdA"
            refine rd_ixL eH en ?_
            walk_at "rdA"
            refine ⟨S, _, rfl, by omega, hS6, fun r H7 r0 r1 hS7 e7 => ?_⟩
            walk_at "rdA"
            have eH7 := e7 _ _ pS eH
            have hn' := hb n hn
            refine ⟨p, _, _, rfl, rfl, eH7, ?_, ?_⟩
            · rw [List.length_map]; exact Nat.lt_of_lt_of_le (by omega : ms.length < 100000) (by decide)
            · walk_at "rdA"
              have em : ((i + 1 : Nat) : Int) * st = i * st + st := by rw [Int.natCast_add, Int.add_mul]; simp
              have e0 : 0 ≤ (i : Int) * st := Int.mul_nonneg (by omega) (by omega)
              refine ⟨ms ++ [n + 1 + r], _, rfl, by rw [List.length_append, hl]; rfl, ?_, ⟨?_, ?_⟩, ?_, store_upd hS7 pS pS2, (e6.trans e7).mut np⟩
              · intro x hx
                rcases List.mem_append.mp hx with h1 | h1
                · have := hb x h1; omega
                · have := List.mem_singleton.mp h1; omega
              · refine List.pairwise_append.mpr ⟨pw, by simp, fun x hx y hy => ?_⟩
                have := top' x hx
                have := List.mem_singleton.mp hy
                omega
              · intro x hx z hz
                rw [List.getElem?_append_right (by omega), hl] at hz
                have ez : n + 1 + r = z := by simpa using hz
                rcases List.mem_append.mp hx with h1 | h1
                · have := top' x h1; omega
                · have := List.mem_singleton.mp h1; omega
              · rw [upd_same, List.map_append]; rfl
          · rintro σ H6 ⟨ms, y, rfl, hl, hb, ⟨pw, _⟩, eH, hS6, e6⟩
            walk_at "rdA"
            have e7 : ((2 + m - 1).toNat : Int) * st ≤ 5 * st := Int.mul_le_mul_of_nonneg_right (by omega) (by omega)
            exact h p ms H6 (fun n hn => by have := hb n hn; exact ⟨by omega, by omega⟩) pw (by omega) (by omega) ⟨pS, eH⟩ hS6 (e5.trans e6)
end
abbrev s_law_name : Stmt := topS 52
theorem sc_law_name : FnScope ["store", "letters", "signs", "kind", "length", "name", "k"] ["store"] (defScope s_law_name) := ⟨rfl, rfl, rfl, by decide +kernel, rfl, by decide +kernel, by decide +kernel⟩
section
variable {P : Program} {w : World} {K : PySem.W.Frag} {mg : Str → Option Value} {base : Heap}
def spName : Sp := fun vs H Q _ => ∃ S : Sto, vs = [.ref S.1] ∧ StoreOk S H ∧ ∀ z H', isNm z = true → StoreOk S H' → ExS S H H' → Q (.str z) H'
theorem ok_name {k : Nat} {f : Addr} {fd : FuncData} (F : Fun K "_law_name" "_law_name" s_law_name f fd) (T : Blt mg) (H_law_take : Has P w K mg base "_law_take" k ["store", "many"] spTake) : FnOk P w K mg base CX0 (k + 1) f fd ["store"] spName := by
  refine F.ok sc_law_name (fun vs H Q E h => ?_) (fun cdv A outer s H vs Q E hr h => ?_)
  · obtain ⟨S, rfl, _⟩ := h; rfl
  · obtain ⟨S, rfl, hS, h⟩ := h
    refine ⟨_, (pss_cons (ps_set (i := 1) sc_law_name.nd rfl (.inl rfl) pe_str)
 (pss_cons (ps_set (i := 2) sc_law_name.nd rfl (.inl rfl) (pe_op op_add_str (pv 1) pe_str))
 (pss_cons (ps_set (i := 3) sc_law_name.nd rfl (.inl rfl) (pe_callH H_law_take hr (by rfl) (pa_cons (pv 0) (pa_cons pe_int pa_nil))))
 (pss_cons (ps_set (i := 4) sc_law_name.nd rfl (.inl rfl) (pe_op op_add pe_int (pe_callH H_law_take hr (by rfl) (pa_cons (pv 0) (pa_cons pe_int pa_nil)))))
 (C8.pss_cut (ps_if (pt_cmpR op_lt (pv 3) pe_int (nomark _)) (pss_one (ps_set (i := 4) sc_law_name.nd rfl (.inl rfl) (pe_ix ix_list (pe_lst (pa_cons pe_int (pa_cons pe_int (pa_cons pe_int pa_nil)))) (pv 3) (fun _ _ => rfl)))) pss_nil)
 (pss_cons (ps_set (i := 5) sc_law_name.nd rfl (.inl rfl) (pe_ix ix_str (pv 1) (pe_callH H_law_take hr (by rfl) (pa_cons (pv 0) (pa_cons pe_int pa_nil))) (fun _ _ => rfl)))
 (pss_cons (ps_for PassesOwn.never rfl (pi_range1 rfl T.range (pa_cons (pe_op op_sub (pv 4) pe_int) pa_nil)) (pg_name (i := 6) sc_law_name.nd rfl (.inl rfl)) (pss_one (ps_set (i := 5) sc_law_name.nd rfl (.inl rfl) (pe_op op_add_str (pv 5) (pe_ix ix_str (pv 2) (pe_callH H_law_take hr (by rfl) (pa_cons (pv 0) (pa_cons pe_int pa_nil))) (fun _ _ => rfl))))))
 (pss_one (ps_ret (pv 5)))))))))), ?_⟩
    walk_at "rdB"
    refine ⟨by decide +kernel, ?_⟩
    rw [show ("abcdefghijklmnopqrstuvwxyz" ++ "0123456789" : Str) = letsD from lets_digits]
    walk_at "rdB"
    refine ⟨S, 5, rfl, by omega, hS, fun r H1 r0 r1 hS1 e1 => ?_⟩
    walk_at "rdB"
    refine ⟨S, 8, rfl, by omega, hS1, fun r2 H2 r20 r21 hS2 e2 => ?_⟩
    walk_at "rdB"
    refine rd_cut (fun σ' H' => ∃ L : Int, σ' = [some (.ref S.1), some (.str lets), some (.str letsD), some (.int r), some (.int L), none, none] ∧ 1 ≤ L ∧ L ≤ 8 ∧ StoreOk S H' ∧ ExS S H H') ?_ ?_
    · walk_at "rdB"
      refine if_dec (fun hk => ?_) (fun hk => ?_)
      · walk_at "rdB"
        refine ⟨sz (by simp), fun p np => ?_⟩
        walk_at "rdB"
        obtain rfl | rfl | rfl : r = 0 ∨ r = 1 ∨ r = 2 := by omega
        all_goals refine rd_ixL upd_same rfl ?_
        all_goals walk_at "rdB"
        all_goals exact ⟨_, rfl, by omega, by omega, hS2.new np, (e1.trans e2).trans (ExS.new np)⟩
      · walk_at "rdB"
        exact ⟨_, rfl, by omega, by omega, hS2, e1.trans e2⟩
    · rintro σ' H3 ⟨L, rfl, l1, l8, hS3, e3⟩
      walk_at "rdB"
      refine ⟨S, 26, rfl, by omega, hS3, fun r4 H4 r40 r41 hS4 e4 => ?_⟩
      obtain ⟨c, hc, _, ec⟩ := atI_nats (l := lets.cps.toList) (i := r4) r40 (by rw [show lets.cps.toList.length = 26 from by decide +kernel]; omega)
      refine rd_ixS (by decide +kernel) ec ?_
      walk_at "rdB"
      refine ⟨by omega, by omega, for_rng (fun i σ H' => ∃ z y, σ = [some (.ref S.1), some (.str lets), some (.str letsD), some (.int r), some (.int L), some (.str z), y] ∧ NmP z (i + 1) ∧ StoreOk S H' ∧ ExS S H H') ⟨_, _, rfl, NmP.one hc, hS4, e3.trans e4⟩ ?_ ?_⟩
      · rintro i σ H5 hi ⟨z, y, rfl, hz, hS5, e5⟩
        walk_at "rdB"
        refine ⟨S, 36, rfl, by omega, hS5, fun r6 H6 r60 r61 hS6 e6 => ?_⟩
        obtain ⟨d, hd, _, ed⟩ := atI_nats (l := letsD.cps.toList) (i := r6) r60 (by rw [show letsD.cps.toList.length = 36 from by decide +kernel]; omega)
        refine rd_ixS (by decide +kernel) ed ?_
        walk_at "rdB"
        refine ⟨sz (by rw [hz.1, one_len]; omega), ?_⟩
        walk_at "rdB"
        exact ⟨_, _, rfl, hz.add hd, hS6, e5.trans e6⟩
      · rintro σ H5 ⟨z, y, rfl, hz, hS5, e5⟩
        walk_at "rdB"
        exact h z H5 (hz.nm (by omega)) hS5 e5
end
abbrev s_law_unused : Stmt := topS 53
theorem sc_law_unused : FnScope ["used", "k"] ["used"] (defScope s_law_unused) := ⟨rfl, rfl, rfl, by decide +kernel, rfl, by decide +kernel, by decide +kernel⟩
abbrev s_law_fresh_names : Stmt := topS 54
theorem sc_law_fresh_names : FnScope ["store", "many", "used", "names", "k", "name"] ["store", "many", "used"] (defScope s_law_fresh_names) := ⟨rfl, rfl, rfl, by decide +kernel, rfl, by decide +kernel, by decide +kernel⟩
local macro_rules | `(tactic| walk_at "sideD") => `(tactic| first | assumption | exact Z.sl_of (by assumption) | exact upd_same | (show (0 : Int) < _; omega) | exact Or.inl ⟨by omega, by omega⟩ | exact Or.inr ⟨by omega, by omega⟩)
local macro_rules | `(tactic| walk_at "tyofD") => `(tactic| first | exact TyOf.int _ | exact TyOf.bl _ | exact TyOf.non | exact TyOf.str _ | (apply TyOf.lst; assumption) | (apply TyOf.tup; assumption))
local macro_rules | `(tactic| walk_at "rd1D") => `(tactic| ((with_reducible refine rd_ixL (xs := ?xs) (v := ?v) ?hh ?he ?_); (case hh => first | exact upd_same | assumption); (case he => exact rfl)))
local macro_rules | `(tactic| walk_at "rd1D") => `(tactic| ((with_reducible refine rd_I ?hc ?_); (case hc => walk_at "sideD")))
local macro_rules | `(tactic| walk_at "rd1D") => `(tactic| ((with_reducible refine rd_isiT (b := ?b) (by assumption) ?k ?_); (case k => with_reducible first | exact kb_tuple_int | exact kb_tuple_bool | exact kb_tuple_str | exact kb_tuple_dict | exact kb_tuple_list | exact kb_tuple_tuple)))
local macro_rules | `(tactic| walk_at "rd1D") => `(tactic| ((with_reducible refine rd_isiL (b := ?b) (by assumption) ?k ?_); (case k => with_reducible first | exact kb_list_int | exact kb_list_bool | exact kb_list_str | exact kb_list_dict | exact kb_list_list | exact kb_list_tuple)))
local macro_rules | `(tactic| walk_at "rd1D") => `(tactic| ((with_reducible refine rd_isi (a := ?a) (b := ?b) ?ty ?k ?_); (case ty => first | exact TyOf.int _ | exact TyOf.bl _ | exact TyOf.non | exact TyOf.str _); (case k => with_reducible first | exact kb_int_int | exact kb_int_bool | exact kb_int_str | exact kb_int_dict | exact kb_int_list | exact kb_int_tuple | exact kb_bool_int | exact kb_bool_bool | exact kb_bool_str | exact kb_bool_dict | exact kb_bool_list | exact kb_bool_tuple | exact kb_NoneType_int | exact kb_NoneType_bool | exact kb_NoneType_str | exact kb_NoneType_dict | exact kb_NoneType_list | exact kb_NoneType_tuple | exact kb_str_int | exact kb_str_bool | exact kb_str_str | exact kb_str_dict | exact kb_str_list | exact kb_str_tuple)))
local macro_rules | `(tactic| walk_at "rd1D") => `(tactic| ((with_reducible refine rd_setS (j := ?j) ?he ?_); (case he => exact rfl)))
local macro_rules | `(tactic| walk_at "rd1D") => `(tactic| ((with_reducible refine rd_var (v := ?v) ?hv ?_); (case hv => exact rfl)))
local macro_rules | `(tactic| walk_at "rd1D") => `(tactic| with_reducible refine rd_pass ?_)
local macro_rules | `(tactic| walk_at "rd1D") => `(tactic| with_reducible refine rd_raise ?_)
local macro_rules | `(tactic| walk_at "rd1D") => `(tactic| with_reducible refine rd_iSeq ?_)
local macro_rules | `(tactic| walk_at "rd1D") => `(tactic| with_reducible refine rd_iStr ?_)
local macro_rules | `(tactic| walk_at "rd1D") => `(tactic| with_reducible refine rd_si ?_)
local macro_rules | `(tactic| walk_at "rd1D") => `(tactic| with_reducible refine rd_ii ?_)
local macro_rules | `(tactic| walk_at "rd1D") => `(tactic| with_reducible refine rd_callSD ?_)
local macro_rules | `(tactic| walk_at "rd1D") => `(tactic| with_reducible refine rd_callNS ?_)
local macro_rules | `(tactic| walk_at "rd1D") => `(tactic| with_reducible refine rd_yes ?_)
local macro_rules | `(tactic| walk_at "rd1D") => `(tactic| with_reducible refine rd_dnotin ?_)
local macro_rules | `(tactic| walk_at "rd1D") => `(tactic| with_reducible refine rd_dput ?_)
local macro_rules | `(tactic| walk_at "rd1D") => `(tactic| with_reducible refine rd_dnewK ?_)
local macro_rules | `(tactic| walk_at "rd1D") => `(tactic| with_reducible refine rd_lrv ?_)
local macro_rules | `(tactic| walk_at "rd1D") => `(tactic| with_reducible refine rd_makeS ?_)
local macro_rules | `(tactic| walk_at "rd1D") => `(tactic| with_reducible refine rd_make ?_)
local macro_rules | `(tactic| walk_at "rd1D") => `(tactic| with_reducible refine rd_sfld ?_)
local macro_rules | `(tactic| walk_at "rd1D") => `(tactic| with_reducible refine rd_fld ?_)
local macro_rules | `(tactic| walk_at "rd1D") => `(tactic| with_reducible refine rd_i1 ?_)
local macro_rules | `(tactic| walk_at "rd1D") => `(tactic| with_reducible refine rd_s1 ?_)
local macro_rules | `(tactic| walk_at "rd1D") => `(tactic| with_reducible refine rd_ss ?_)
local macro_rules | `(tactic| walk_at "rd1D") => `(tactic| with_reducible refine rd_p40 ?_)
local macro_rules | `(tactic| walk_at "rd1D") => `(tactic| with_reducible refine rd_p30 ?_)
local macro_rules | `(tactic| walk_at "rd1D") => `(tactic| with_reducible refine rd_p18 ?_)
local macro_rules | `(tactic| walk_at "rd1D") => `(tactic| with_reducible refine rd_p13 ?_)
local macro_rules | `(tactic| walk_at "rd1D") => `(tactic| with_reducible refine rd_p12 ?_)
local macro_rules | `(tactic| walk_at "rd1D") => `(tactic| with_reducible refine rd_p11 ?_)
local macro_rules | `(tactic| walk_at "rd1D") => `(tactic| with_reducible refine rd_p9 ?_)
local macro_rules | `(tactic| walk_at "rd1D") => `(tactic| with_reducible refine rd_xf ?_)
local macro_rules | `(tactic| walk_at "rd1D") => `(tactic| with_reducible refine rd_ckw ?_)
local macro_rules | `(tactic| walk_at "rd1D") => `(tactic| with_reducible refine rd_mkO ?_)
local macro_rules | `(tactic| walk_at "rd1D") => `(tactic| with_reducible refine rd_callKS ?_)
local macro_rules | `(tactic| walk_at "rd1D") => `(tactic| with_reducible refine rd_callS ?_)
local macro_rules | `(tactic| walk_at "rd1D") => `(tactic| with_reducible refine rd_lc ?_)
local macro_rules | `(tactic| walk_at "rd1D") => `(tactic| with_reducible refine rd_iTup ?_)
local macro_rules | `(tactic| walk_at "rd1D") => `(tactic| with_reducible refine rd_iList ?_)
local macro_rules | `(tactic| walk_at "rd1D") => `(tactic| with_reducible refine rd_iRng1 ?_)
local macro_rules | `(tactic| walk_at "rd1D") => `(tactic| with_reducible refine rd_for ?_)
local macro_rules | `(tactic| walk_at "rd1D") => `(tactic| with_reducible refine rd_nopart ?_)
local macro_rules | `(tactic| walk_at "rd1D") => `(tactic| with_reducible refine rd_part ?_)
local macro_rules | `(tactic| walk_at "rd1D") => `(tactic| with_reducible refine rd_neB ?_)
local macro_rules | `(tactic| walk_at "rd1D") => `(tactic| with_reducible refine rd_eqS ?_)
local macro_rules | `(tactic| walk_at "rd1D") => `(tactic| with_reducible refine rd_eqB ?_)
local macro_rules | `(tactic| walk_at "rd1D") => `(tactic| with_reducible refine if_nN_ref ?_)
local macro_rules | `(tactic| walk_at "rd1D") => `(tactic| with_reducible refine if_nN_str ?_)
local macro_rules | `(tactic| walk_at "rd1D") => `(tactic| with_reducible refine if_nN_bl ?_)
local macro_rules | `(tactic| walk_at "rd1D") => `(tactic| with_reducible refine if_nN_int ?_)
local macro_rules | `(tactic| walk_at "rd1D") => `(tactic| with_reducible refine if_n_ref ?_)
local macro_rules | `(tactic| walk_at "rd1D") => `(tactic| with_reducible refine if_n_str ?_)
local macro_rules | `(tactic| walk_at "rd1D") => `(tactic| with_reducible refine if_n_bl ?_)
local macro_rules | `(tactic| walk_at "rd1D") => `(tactic| with_reducible refine if_n_int ?_)
local macro_rules | `(tactic| walk_at "rd1D") => `(tactic| with_reducible refine if_nnN ?_)
local macro_rules | `(tactic| walk_at "rd1D") => `(tactic| with_reducible refine if_nt ?_)
local macro_rules | `(tactic| walk_at "rd1D") => `(tactic| with_reducible refine if_nf ?_)
local macro_rules | `(tactic| walk_at "rd1D") => `(tactic| with_reducible refine if_nn ?_)
local macro_rules | `(tactic| walk_at "rd1D") => `(tactic| with_reducible refine iteF ?_)
local macro_rules | `(tactic| walk_at "rd1D") => `(tactic| with_reducible refine iteT ?_)
local macro_rules | `(tactic| walk_at "rd1D") => `(tactic| with_reducible refine rd_asgS ?_)
local macro_rules | `(tactic| walk_at "rd1D") => `(tactic| with_reducible refine rd_chain ?_)
local macro_rules | `(tactic| walk_at "rd1D") => `(tactic| with_reducible refine rd_bm ?_)
local macro_rules | `(tactic| walk_at "rd1D") => `(tactic| with_reducible refine rd_sl ?_)
local macro_rules | `(tactic| walk_at "rd1D") => `(tactic| with_reducible refine rd_tup ?_)
local macro_rules | `(tactic| walk_at "rd1D") => `(tactic| with_reducible refine rd_lst ?_)
local macro_rules | `(tactic| walk_at "rd1D") => `(tactic| with_reducible refine rd_neI ?_)
local macro_rules | `(tactic| walk_at "rd1D") => `(tactic| with_reducible refine rd_if ?_)
local macro_rules | `(tactic| walk_at "rd1D") => `(tactic| with_reducible refine rd_notV ?_)
local macro_rules | `(tactic| walk_at "rd1D") => `(tactic| with_reducible refine rd_orV ?_)
local macro_rules | `(tactic| walk_at "rd1D") => `(tactic| with_reducible refine rd_andV ?_)
local macro_rules | `(tactic| walk_at "rd1D") => `(tactic| with_reducible refine rd_drop ?_)
local macro_rules | `(tactic| walk_at "rd1D") => `(tactic| with_reducible refine rd_next ?_)
local macro_rules | `(tactic| walk_at "rd1D") => `(tactic| with_reducible refine rd_U ?_)
local macro_rules | `(tactic| walk_at "rd1D") => `(tactic| with_reducible refine rd_un ?_)
local macro_rules | `(tactic| walk_at "rd1D") => `(tactic| with_reducible refine rd_or ?_)
local macro_rules | `(tactic| walk_at "rd1D") => `(tactic| with_reducible refine rd_and ?_)
local macro_rules | `(tactic| walk_at "rd1D") => `(tactic| with_reducible refine rd_not ?_)
local macro_rules | `(tactic| walk_at "rd1D") => `(tactic| with_reducible refine rd_tB ?_)
local macro_rules | `(tactic| walk_at "rd1D") => `(tactic| with_reducible refine rd_test ?_)
local macro_rules | `(tactic| walk_at "rd1D") => `(tactic| with_reducible refine rd_ifS ?_)
local macro_rules | `(tactic| walk_at "rd1D") => `(tactic| with_reducible refine rd_ret ?_)
local macro_rules | `(tactic| walk_at "rd1D") => `(tactic| with_reducible refine rd_min2 ?_)
local macro_rules | `(tactic| walk_at "rd1D") => `(tactic| with_reducible refine rd_max2 ?_)
local macro_rules | `(tactic| walk_at "rd1D") => `(tactic| with_reducible refine rd_int1 ?_)
local macro_rules | `(tactic| walk_at "rd1D") => `(tactic| with_reducible refine rd_nn ?_)
local macro_rules | `(tactic| walk_at "rd1D") => `(tactic| with_reducible refine rd_bx ?_)
local macro_rules | `(tactic| walk_at "rd1D") => `(tactic| with_reducible refine rd_eqI ?_)
local macro_rules | `(tactic| walk_at "rd1D") => `(tactic| with_reducible refine rd_I0 ?_)
local macro_rules | `(tactic| walk_at "rd1D") => `(tactic| with_reducible refine rd_call ?_)
local macro_rules | `(tactic| walk_at "rd1D") => `(tactic| with_reducible refine rd_cb ?_)
local macro_rules | `(tactic| walk_at "rd1D") => `(tactic| with_reducible refine rd_nil ?_)
local macro_rules | `(tactic| walk_at "rd1D") => `(tactic| with_reducible refine rd_cons ?_)
local macro_rules | `(tactic| walk_at "rd1D") => `(tactic| with_reducible refine rd_op ?_)
local macro_rules | `(tactic| walk_at "rd1D") => `(tactic| with_reducible refine rd_c ?_)
local macro_rules | `(tactic| walk_at "rd1D") => `(tactic| with_reducible refine rd_asg ?_)
local macro_rules | `(tactic| walk_at "rd1D") => `(tactic| with_reducible refine rd_seq ?_)
local macro_rules | `(tactic| walk_at "rdD") => `(tactic| repeat walk_at "rd1D")
section
variable {P : Program} {w : World} {K : PySem.W.Frag} {mg : Str → Option Value} {base : Heap}
theorem dig_letsD {c : Nat} (h : 48 ≤ c ∧ c ≤ 57) : c ∈ letsD.cps.toList := by
  have e : ∀ c, c < 58 → 48 ≤ c → c ∈ letsD.cps.toList := by decide +kernel
  exact e c (by omega) h.1
theorem nm_x {i : Nat} (h : i < 100000) : isNm ("x" ++ numS i) = true := by
  have e : ("x" ++ numS i : Str).cps.toList = 120 :: TL.numL i := by rw [app_l, numS_l]; rfl
  have hl := numS_len h
  rw [isNm_of e, Bool.and_eq_true, Bool.and_eq_true]
  refine ⟨⟨decide_eq_true (by rw [app_len]; have : ("x" : Str).length = 1 := rfl; omega), by decide +kernel⟩, ?_⟩
  rw [e, List.all_eq_true]
  intro c hc
  rcases List.mem_cons.mp hc with rfl | hc
  · decide +kernel
  · exact decide_eq_true (dig_letsD (TL.numL_digits i c hc))
def spUnused : Sp := fun vs H Q _ => ∃ a, ∃ U : List Str, vs = [.ref a] ∧ H a = some (.lst (U.map V.str)) ∧ U.length ≤ 1000 ∧ ∀ z H', isNm z = true → z ∉ U → Same H H' → Q (.str z) H'
theorem ok_unused {k : Nat} {f : Addr} {fd : FuncData} (F : Fun K "_law_unused" "_law_unused" s_law_unused f fd) (T : Blt mg) : FnOk P w K mg base CX0 (k + 1) f fd ["used"] spUnused := by
  refine F.ok sc_law_unused (fun vs H Q E h => ?_) (fun cdv A outer s H vs Q E hr h => ?_)
  · obtain ⟨a, U, rfl, _⟩ := h; rfl
  · obtain ⟨a, U, rfl, hA, hl, h⟩ := h
    refine ⟨_, (pss_cons (ps_for PassesOwn.never rfl (pi_range1 rfl T.range (pa_cons (pe_op op_add (pe_callB call_len_seq (by rfl) T.len (by decide +kernel) (pa_cons (pv 0) pa_nil)) pe_int) pa_nil)) (pg_name (i := 1) sc_law_unused.nd rfl (.inl rfl)) (pss_one (ps_if (pt_cmpR op_notIn_seq (pe_op op_add_str pe_str (pe_callTy call_str_int (by rfl) T.str (by decide +kernel) (pa_cons (pv 1) pa_nil))) (pv 0) (by rfl)) (pss_one (ps_ret (pe_op op_add_str pe_str (pe_callTy call_str_int (by rfl) T.str (by decide +kernel) (pa_cons (pv 1) pa_nil))))) pss_nil)))
 (pss_one (ps_ret pe_str))), ?_⟩
    have h1 : ("x" : Str).length = 1 := rfl
    walk_at "rdD"
    refine ⟨a, _, rfl, .inl (sl_of hA), ?_⟩
    walk_at "rdD"
    rw [List.length_map]
    refine ⟨by omega, by omega, for_rng (fun i σ H' => ∃ y, σ = [some (.ref a), y] ∧ H' = H ∧ ∀ j, j < i → ("x" : Str) ++ numS j ∈ U) ⟨_, rfl, rfl, by omega⟩ ?_ ?_⟩
    · rintro i σ H' hi ⟨y, rfl, rfl, hj⟩
      have hi : i < U.length + 1 := by omega
      have hni := numS_len (n := i) (by omega)
      walk_at "rdD"
      refine ⟨log_ok (by omega), ?_⟩
      walk_at "rdD"
      refine ⟨sz (by show ("x" : Str).length + (numS i).length ≤ 100000; omega), ?_⟩
      walk_at "rdD"
      refine ⟨a, _, rfl, .inl (sl_of hA), rfl, flat_strs _, ?_⟩
      rw [inV_strs]
      refine ⟨_, rfl, ?_⟩
      refine if_ndec (fun hn => ?_) (fun hn => ?_)
      · walk_at "rdD"
        refine ⟨log_ok (by omega), ?_⟩
        walk_at "rdD"
        refine ⟨sz (by show ("x" : Str).length + (numS i).length ≤ 100000; omega), ?_⟩
        exact h _ _ (nm_x (by omega)) hn (Same.refl _)
      · walk_at "rdD"
        refine ⟨_, rfl, rfl, fun j hj' => ?_⟩
        by_cases e : j = i
        · rw [e]; exact hn
        · exact hj j (by omega)
    · rintro σ H' ⟨y, rfl, rfl, hj⟩
      have hj : ∀ j, j < U.length + 1 → ("x" : Str) ++ numS j ∈ U := fun j hj' => hj j (by omega)
      exfalso
      have := nodup_le (xs := (List.range (U.length + 1)).map fun m => ("x" : Str) ++ numS m) (ys := U) ?_ ?_
      · rw [List.length_map, List.length_range] at this; omega
      · rw [List.nodup_iff_pairwise_ne, List.pairwise_map]
        exact List.Pairwise.imp (fun {a b} (hab : a ≠ b) => fun e => hab (app_num_inj e)) (List.nodup_iff_pairwise_ne.mp List.nodup_range)
      · intro x hx
        obtain ⟨m, hm, rfl⟩ := List.mem_map.mp hx
        exact hj m (List.mem_range.mp hm)
def spFreshNames : Sp := fun vs H Q _ => ∃ S : Sto, ∃ m : Nat, ∃ b, ∃ UL : List Str, vs = [.ref S.1, .int m, .ref b] ∧ m ≤ 30 ∧ UL.length ≤ 500 ∧ StoreOk S H ∧ At S H b (.lst (UL.map V.str)) ∧
  ∀ (p : Addr) (U : List Str) (H' : Hp), (∀ z ∈ U, isNm z = true) → U.Nodup → (∀ z ∈ U, z ∉ UL) → U.length = m → H p = none → At S H' p (.lst (U.map V.str)) → StoreOk S H' → ExS S H H' → Q (.ref p) H'
theorem ok_fresh_names {k : Nat} {f : Addr} {fd : FuncData} (F : Fun K "_law_fresh_names" "_law_fresh_names" s_law_fresh_names f fd) (T : Blt mg) (H_law_name : Has P w K mg base "_law_name" k ["store"] spName) (H_law_unused : Has P w K mg base "_law_unused" k ["used"] spUnused) : FnOk P w K mg base CX0 (k + 1) f fd ["store", "many", "used"] spFreshNames := by
  refine F.ok sc_law_fresh_names (fun vs H Q E h => ?_) (fun cdv A outer s H vs Q E hr h => ?_)
  · obtain ⟨S, m, b, UL, rfl, _⟩ := h; rfl
  · obtain ⟨S, m, b, UL, rfl, hm, hUL, hS, hb, h⟩ := h
    refine ⟨_, (pss_cons (ps_set (i := 3) sc_law_fresh_names.nd rfl (.inl rfl) (pe_lst pa_nil))
 (pss_cons (ps_for PassesOwn.never rfl (pi_range1 rfl T.range (pa_cons (pv 1) pa_nil)) (pg_name (i := 4) sc_law_fresh_names.nd rfl (.inl rfl)) (pss_cons (ps_set (i := 5) sc_law_fresh_names.nd rfl (.inl rfl) (pe_callH H_law_name hr (by rfl) (pa_cons (pv 0) pa_nil)))
 (C8.pss_cut (ps_if (PW.pt (pw_or (pt_cmpR op_in_seq (pv 5) (pv 2) (by rfl)) (pw_or1 (pt_cmpR op_in_seq (pv 5) (pv 3) (by rfl))))) (pss_one (ps_set (i := 5) sc_law_fresh_names.nd rfl (.inl rfl) (pe_callH H_law_unused hr (by rfl) (pa_cons (pe_op op_cat (pe_callTy call_list_of (by rfl) T.list' (by decide +kernel) (pa_cons (pv 2) pa_nil)) (pv 3)) pa_nil)))) pss_nil)
 (pss_one (ps_expr (pe_bm PySem.F.plainAttrs_list PySem.F.slot_list_append PySem.F.type_list_append mt_append (pv 3) (pa_cons (pv 5) pa_nil)))))))
 (pss_one (ps_ret (pv 3))))), ?_⟩
    walk_at "rdD"
    refine ⟨sz (by simp), fun p np => ?_⟩
    have p1 := hS.ne1 np
    have p2 := hS.ne2 np
    walk_at "rdD"
    refine ⟨by omega, by omega, for_rng (fun i σ H' => ∃ y y2, ∃ U : List Str, σ = [some (.ref S.1), some (.int m), some (.ref b), some (.ref p), y, y2] ∧ (∀ z ∈ U, isNm z = true) ∧ U.Nodup ∧ (∀ z ∈ U, z ∉ UL) ∧ U.length = i ∧ H' p = some (.lst (U.map V.str)) ∧ StoreOk S H' ∧ ExS S H H') ⟨_, _, [], rfl, by simp, by simp, by simp, rfl, upd_same, hS.new np, ExS.new np⟩ ?_ ?_⟩
    · rintro i σ H' hi ⟨y, y2, U, rfl, hU, dU, fU, lU, hp, hS', e'⟩
      have hi : i < m := by simpa using hi
      walk_at "rdD"
      refine ⟨S, rfl, hS', fun z H2 hz hS2 e2 => ?_⟩
      have hp2 := e2 _ _ p1 hp
      have hb2 := (hb.back e').back e2
      have e2' := e'.trans e2
      walk_at "rdD"
      refine rd_cut (fun σ' H3 => ∃ z, σ' = [some (.ref S.1), some (.int m), some (.ref b), some (.ref p), some (.int i), some (.str z)] ∧ isNm z = true ∧ z ∉ UL ∧ z ∉ U ∧ H3 p = some (.lst (U.map V.str)) ∧ StoreOk S H3 ∧ ExS S H H3) ?_ ?_
      · have new : ∀ σr : Prop, σr → σr := fun _ h => h
        walk_at "rdD"
        refine ⟨b, _, rfl, .inl (sl_of hb2.2), rfl, flat_strs _, ?_⟩
        rw [inV_strs]
        refine ⟨_, rfl, ?_⟩
        refine if_dec (fun hin => ?_) (fun hin => ?_)
        · walk_at "rdD"
          refine ⟨b, _, rfl, .inl (sl_of hb2.2), fun l nl => ?_⟩
          have hp3 := same_new (o := .lst (UL.map V.str)) nl _ _ hp2
          walk_at "rdD"
          refine ⟨l, p, _, _, rfl, rfl, upd_same, hp3, sz (by simp; omega), fun l' nl' => ?_⟩
          have sm := (same_new (o := .lst (UL.map V.str)) nl).trans (same_new (o := .lst (UL.map V.str ++ U.map V.str)) nl')
          walk_at "rdD"
          refine ⟨l', UL ++ U, rfl, by rw [List.map_append]; exact upd_same, by simp; omega, fun z2 H3 hz2 nz2 s3 => ?_⟩
          walk_at "rdD"
          exact ⟨z2, rfl, hz2, fun q => nz2 (List.mem_append_left _ q), fun q => nz2 (List.mem_append_right _ q), (sm.trans s3) _ _ hp2, hS2.same (sm.trans s3), e2'.trans (same_ex (sm.trans s3))⟩
        · walk_at "rdD"
          refine ⟨p, _, rfl, .inl (sl_of hp2), rfl, flat_strs _, ?_⟩
          rw [inV_strs]
          refine ⟨_, rfl, ?_⟩
          refine if_dec (fun hin2 => ?_) (fun hin2 => ?_)
          · walk_at "rdD"
            refine ⟨b, _, rfl, .inl (sl_of hb2.2), fun l nl => ?_⟩
            have hp3 := same_new (o := .lst (UL.map V.str)) nl _ _ hp2
            walk_at "rdD"
            refine ⟨l, p, _, _, rfl, rfl, upd_same, hp3, sz (by simp; omega), fun l' nl' => ?_⟩
            have sm := (same_new (o := .lst (UL.map V.str)) nl).trans (same_new (o := .lst (UL.map V.str ++ U.map V.str)) nl')
            walk_at "rdD"
            refine ⟨l', UL ++ U, rfl, by rw [List.map_append]; exact upd_same, by simp; omega, fun z2 H3 hz2 nz2 s3 => ?_⟩
            walk_at "rdD"
            exact ⟨z2, rfl, hz2, fun q => nz2 (List.mem_append_left _ q), fun q => nz2 (List.mem_append_right _ q), (sm.trans s3) _ _ hp2, hS2.same (sm.trans s3), e2'.trans (same_ex (sm.trans s3))⟩
          · walk_at "rdD"
            exact ⟨z, rfl, hz, hin, hin2, hp2, hS2, e2'⟩
      · rintro σ' H3 ⟨z, rfl, hz, nu, nU, hp3, hS3, e3⟩
        walk_at "rdD"
        refine ⟨.inl ⟨rfl, _, .inl (.inl hp3)⟩, ?_⟩
        walk_at "rdD"
        refine ⟨p, _, _, rfl, rfl, hp3, by rw [List.length_map]; exact Nat.lt_of_le_of_lt (by omega : U.length ≤ 30) (by decide), ?_⟩
        refine ⟨_, _, U ++ [z], rfl, fun x hx => ?_, ?_, fun x hx => ?_, by rw [List.length_append, lU]; rfl, by rw [upd_same, List.map_append]; rfl, store_upd hS3 p1 p2, e3.mut np⟩
        · rcases List.mem_append.mp hx with q | q
          · exact hU x q
          · rw [List.mem_singleton.mp q]; exact hz
        · rw [List.nodup_append]
          refine ⟨dU, by simp, fun x hx y hy => ?_⟩
          rw [List.mem_singleton.mp hy]
          intro e; rw [e] at hx; exact nU hx
        · rcases List.mem_append.mp hx with q | q
          · exact fU x q
          · rw [List.mem_singleton.mp q]; exact nu
    · rintro σ H' ⟨y, y2, U, rfl, hU, dU, fU, lU, hp, hS', e'⟩
      walk_at "rdD"
      exact h p U H' hU dU fU (by simpa using lU) np ⟨p1, hp⟩ hS' e'
end
def lt (n : Nat) : Nat := 97 + n % 26
def n1 (f : Int) (s r : Nat) (z : List Nat) (k : Nat) : List Nat := if f = 1 then z.take r ++ [lt (s + k)] ++ z.drop (r + 1) else [lt (s + k)]
def n2 (f : Int) (s r : Nat) (z : List Nat) (k : Nat) : List Nat := if f = 2 then z.take 2 ++ TL.numL (s % 4 + 7 + k * (1 + s % 3)) else n1 f s r z k
def n3 (f : Int) (s r : Nat) (z : List Nat) (k : Nat) : List Nat := if f = 4 then List.replicate (1 + k % 8) (lt (s + k / 8)) else n2 f s r z k
theorem lt_lets (n : Nat) : lt n ∈ lets.cps.toList := by
  have e : ∀ j, j < 26 → 97 + j ∈ lets.cps.toList := by decide +kernel
  exact e _ (Nat.mod_lt _ (by decide))
theorem lets_at (j : Nat) : atI lets.cps.toList (((j % 26 : Nat)) : Int) = some (lt j) := by
  have e : ∀ j, j < 26 → lets.cps.toList[j]? = some (97 + j) := by decide +kernel
  have hj := Nat.mod_lt j (by decide : 26 > 0)
  have hl : lets.cps.toList.length = 26 := by decide +kernel
  have := e _ hj
  unfold atI ixN lt
  rw [if_pos (by omega), if_pos (by rw [hl]; omega)]
  rw [Int.toNat_natCast]; exact this
structure Good (l : List Nat) : Prop where
  len : l.length ≤ 8
  hd : ∃ c, l.head? = some c ∧ c ∈ lets.cps.toList
  all : ∀ d ∈ l, d ∈ letsD.cps.toList
theorem good_iff {l : List Nat} : isNmL l = true ↔ Good l := by
  cases l with
  | nil => exact ⟨fun h => (by cases h), fun h => (by obtain ⟨c, e, _⟩ := h.hd; cases e)⟩
  | cons c l =>
    show (decide ((c :: l).length ≤ 8) && decide (c ∈ lets.cps.toList) && (c :: l).all fun d => decide (d ∈ letsD.cps.toList)) = true ↔ _
    rw [Bool.and_eq_true, Bool.and_eq_true, decide_eq_true_iff, decide_eq_true_iff, List.all_eq_true]
    constructor
    · rintro ⟨⟨a, b⟩, d⟩
      exact ⟨a, ⟨c, rfl, b⟩, fun x hx => of_decide_eq_true (d x hx)⟩
    · rintro ⟨a, ⟨c', e, b⟩, d⟩
      cases e
      exact ⟨⟨a, b⟩, fun x hx => decide_eq_true (d x hx)⟩
theorem n3_good {f : Int} {s r : Nat} {z : List Nat} {k : Nat} (hz : Good z) (hr : r < z.length) (hk : k < 26) : Good (n3 f s r z k) := by
  have hl := fun n => lets_sub _ (lt_lets n)
  unfold n3
  split
  · refine ⟨by rw [List.length_replicate]; have := Nat.mod_lt k (by decide : 8 > 0); omega, ⟨lt (s + k / 8), by rw [Nat.add_comm]; rfl, lt_lets _⟩, fun d hd => ?_⟩
    rw [(List.mem_replicate.mp hd).2]; exact hl _
  · unfold n2
    split
    · have hn : s % 4 + 7 + k * (1 + s % 3) < 10 ^ 3 := by
        have h3 := Nat.mod_lt s (by decide : 3 > 0)
        have h4 := Nat.mod_lt s (by decide : 4 > 0)
        have := Nat.mul_le_mul (show k ≤ 26 by omega) (show 1 + s % 3 ≤ 3 by omega)
        omega
      have hlen := TL.numL_len (by decide) hn
      obtain ⟨c, e, hc⟩ := hz.hd
      refine ⟨?_, ⟨c, ?_, hc⟩, fun d hd => ?_⟩
      · rw [List.length_append, List.length_take]; omega
      · cases z with
        | nil => cases e
        | cons a l => exact e
      · rcases List.mem_append.mp hd with q | q
        · exact hz.all d (List.mem_of_mem_take q)
        · exact dig_letsD (TL.numL_digits _ d q)
    · unfold n1
      split
      · obtain ⟨c, e, hc⟩ := hz.hd
        refine ⟨?_, ?_, fun d hd => ?_⟩
        · have := hz.len
          rw [List.length_append, List.length_append, List.length_take, List.length_drop, List.length_singleton]; omega
        · cases r with
          | zero => exact ⟨_, rfl, lt_lets _⟩
          | succ r =>
            cases z with
            | nil => cases e
            | cons a l => exact ⟨c, e, hc⟩
        · rcases List.mem_append.mp hd with q | q
          · rcases List.mem_append.mp q with q | q
            · exact hz.all d (List.mem_of_mem_take q)
            · rw [List.mem_singleton.mp q]; exact hl _
          · exact hz.all d (List.mem_of_mem_drop q)
      · refine ⟨by simp, ⟨_, rfl, lt_lets _⟩, fun d hd => ?_⟩
        rw [List.mem_singleton.mp hd]; exact hl _
theorem lt_inj {s j k : Nat} (hj : j < 26) (hk : k < 26) (e : lt (s + j) = lt (s + k)) : j = k := by unfold lt at e; omega
theorem n3_inj {f : Int} {s r : Nat} {z : List Nat} {j k : Nat} (hj : j < 26) (hk : k < 26) (e : n3 f s r z j = n3 f s r z k) : j = k := by
  unfold n3 at e
  split at e
  · have l := congrArg List.length e
    rw [List.length_replicate, List.length_replicate] at l
    have h := congrArg List.head? e
    rw [Nat.add_comm 1, Nat.add_comm 1] at h
    have h : lt (s + j / 8) = lt (s + k / 8) := Option.some.inj h
    have := lt_inj (by omega) (by omega) h
    omega
  · unfold n2 at e
    split at e
    · have := TL.numL_inj (List.append_cancel_left e)
      have := Nat.eq_of_mul_eq_mul_right (show 0 < 1 + s % 3 by omega) (show j * (1 + s % 3) = k * (1 + s % 3) by omega)
      exact this
    · unfold n1 at e
      split at e
      · have := List.append_cancel_left (List.append_cancel_right e)
        exact lt_inj hj hk (List.cons.inj this).1
      · exact lt_inj hj hk (List.cons.inj e).1
theorem names_nodup {f : Int} {s r : Nat} {z : List Nat} {U : List Str} {m : Nat} (e : U.map TL.tl = (List.range m).map (n3 f s r z)) (hm : m ≤ 26) : U.Nodup := by
  have h : (U.map TL.tl).Nodup := by
    rw [e, List.nodup_iff_pairwise_ne, List.pairwise_map]
    refine List.Pairwise.imp_of_mem (fun {a b} ha hb (hab : a ≠ b) => fun q => hab (n3_inj (by have := List.mem_range.mp ha; omega) (by have := List.mem_range.mp hb; omega) q)) (List.nodup_iff_pairwise_ne.mp List.nodup_range)
  rw [List.nodup_iff_pairwise_ne, List.pairwise_map] at h
  rw [List.nodup_iff_pairwise_ne]
  exact h.imp fun {a b} q e => q (by rw [e])
theorem names_good {f : Int} {s r : Nat} {z : Str} {U : List Str} {m : Nat} (e : U.map TL.tl = (List.range m).map (n3 f s r (TL.tl z))) (hm : m ≤ 26) (hz : isNm z = true) (hr : r < z.length) : ∀ u ∈ U, isNm u = true := fun u hu => by
  have : TL.tl u ∈ U.map TL.tl := List.mem_map_of_mem hu
  rw [e] at this
  obtain ⟨k, hk, q⟩ := List.mem_map.mp this
  unfold isNm
  rw [show u.cps.toList = TL.tl u from rfl, ← q]
  exact good_iff.mpr (n3_good (good_iff.mp hz) (by rw [← TL.len_tl]; exact hr) (by have := List.mem_range.mp hk; omega))
theorem reps_list (c : Nat) : ∀ (q : Nat) (acc : Array Nat), ((List.replicate q #[c]).foldl (· ++ ·) acc).toList = acc.toList ++ List.replicate q c
  | 0, acc => by simp
  | q + 1, acc => by
    rw [List.replicate_succ, List.foldl_cons, reps_list c q, Array.toList_append, List.replicate_succ]; simp
theorem mul_list {c n : Nat} (h : 1 ≤ n) : TL.tl (Txt.mul ⟨#[c]⟩ (n : Int)) = List.replicate n c := by
  unfold Txt.mul
  rw [if_neg (by omega)]
  split
  · rename_i q
    have : n = 1 := by
      have hl : (⟨#[c]⟩ : Str).length = 1 := rfl
      rw [hl] at q
      simp at q; omega
    subst this; rfl
  · show ((List.replicate (n : Int).toNat #[c]).foldl (· ++ ·) #[]).toList = _
    rw [reps_list, Int.toNat_natCast]; rfl
abbrev s_law_names : Stmt := topS 55
theorem sc_law_names : FnScope ["store", "many", "letters", "family", "start", "stem", "at", "names", "k", "name"] ["store", "many"] (defScope s_law_names) := ⟨rfl, rfl, rfl, by decide +kernel, rfl, by decide +kernel, by decide +kernel⟩
section
variable {P : Program} {w : World} {K : PySem.W.Frag} {mg : Str → Option Value} {base : Heap}
theorem cut_to_l (z : Str) (k : Nat) : TL.tl (cutS z none (some (k : Int))) = (TL.tl z).take k := cutS_to z k
theorem cut_from_l (z : Str) (k : Nat) : TL.tl (cutS z (some (k : Int)) none) = (TL.tl z).drop k := by
  show ((z.cps.toList.drop _).take _).toArray.toList = _
  rw [List.toList_toArray, HT.sIx_none, HT.sIx_nat]
  by_cases h : k ≤ z.length
  · rw [Nat.min_eq_left h, List.take_of_length_le (by rw [List.length_drop, len_l]; omega)]
  · have e1 : min k z.length = z.length := by omega
    rw [e1, Nat.sub_self, List.take_zero]
    exact (List.drop_eq_nil_of_le (by rw [len_l]; omega)).symm
def unS : V → Str
  | .str z => z
  | _ => Str.empty
theorem perm_strs {ys : List V} {U : List Str} (h : ys.Perm (U.map V.str)) : ∃ W : List Str, ys = W.map V.str ∧ W.Perm U := by
  refine ⟨ys.map unS, ?_, ?_⟩
  · rw [List.map_map]
    have : ∀ y ∈ ys, (V.str ∘ unS) y = y := fun y hy => by
      obtain ⟨u, _, rfl⟩ := List.mem_map.mp (h.mem_iff.mp hy)
      rfl
    rw [List.map_congr_left this]; simp
  · have q := h.map unS
    rw [List.map_map] at q
    have e : U.map (unS ∘ V.str) = U := by
      have : (unS ∘ V.str) = id := rfl
      rw [this, List.map_id]
    rw [e] at q; exact q
theorem tl_app (a b : Str) : TL.tl (a ++ b) = TL.tl a ++ TL.tl b := app_l a b
def spNames : Sp := fun vs H Q _ => ∃ S : Sto, ∃ m : Nat, vs = [.ref S.1, .int m] ∧ m ≤ 26 ∧ StoreOk S H ∧
  ∀ (p : Addr) (U : List Str) (H' : Hp), (∀ z ∈ U, isNm z = true) → U.Nodup → U.length = m → H p = none → At S H' p (.lst (U.map V.str)) → StoreOk S H' → ExS S H H' → Q (.ref p) H'
theorem ok_names {k : Nat} {f : Addr} {fd : FuncData} (F : Fun K "_law_names" "_law_names" s_law_names f fd) (T : Blt mg) (H_law_take : Has P w K mg base "_law_take" k ["store", "many"] spTake) (H_law_fresh_names : Has P w K mg base "_law_fresh_names" k ["store", "many", "used"] spFreshNames) (H_law_name : Has P w K mg base "_law_name" k ["store"] spName) (H_law_shuffled : Has P w K mg base "_law_shuffled" k ["store", "items"] spShuffled) : FnOk P w K mg base CX0 (k + 1) f fd ["store", "many"] spNames := by
  refine F.ok sc_law_names (fun vs H Q E h => ?_) (fun cdv A outer s H vs Q E hr h => ?_)
  · obtain ⟨S, m, rfl, _⟩ := h; rfl
  · obtain ⟨S, m, rfl, hm, hS, h⟩ := h
    refine ⟨_, (pss_cons (ps_set (i := 2) sc_law_names.nd rfl (.inl rfl) pe_str)
 (pss_cons (ps_set (i := 3) sc_law_names.nd rfl (.inl rfl) (pe_callH H_law_take hr (by rfl) (pa_cons (pv 0) (pa_cons pe_int pa_nil))))
 (pss_cons (ps_set (i := 4) sc_law_names.nd rfl (.inl rfl) (pe_callH H_law_take hr (by rfl) (pa_cons (pv 0) (pa_cons pe_int pa_nil))))
 (pss_cons (ps_if (pt_cmpR op_eq (pv 3) pe_int (nomark _)) (pss_one (ps_ret (pe_callH H_law_fresh_names hr (by rfl) (pa_cons (pv 0) (pa_cons (pv 1) (pa_cons (pe_lst pa_nil) pa_nil)))))) pss_nil)
 (pss_cons (ps_set (i := 5) sc_law_names.nd rfl (.inl rfl) (pe_callH H_law_name hr (by rfl) (pa_cons (pv 0) pa_nil)))
 (pss_cons (ps_set (i := 6) sc_law_names.nd rfl (.inl rfl) (pe_callH H_law_take hr (by rfl) (pa_cons (pv 0) (pa_cons (pe_callB call_len_str (by rfl) T.len (by decide +kernel) (pa_cons (pv 5) pa_nil)) pa_nil))))
 (pss_cons (ps_set (i := 7) sc_law_names.nd rfl (.inl rfl) (pe_lst pa_nil))
 (pss_cons (ps_for PassesOwn.never rfl (pi_range1 rfl T.range (pa_cons (pv 1) pa_nil)) (pg_name (i := 8) sc_law_names.nd rfl (.inl rfl)) (pss_cons (ps_set (i := 9) sc_law_names.nd rfl (.inl rfl) (pe_ix ix_str (pv 2) (pe_op op_mod (pe_callTy call_int1 (by rfl) T.int (by decide +kernel) (pa_cons (pe_op op_add (pv 4) (pv 8)) pa_nil)) pe_int) (fun _ _ => rfl)))
 (C8.pss_cut (ps_if (pt_cmpR op_eq (pv 3) pe_int (nomark _)) (pss_one (ps_set (i := 9) sc_law_names.nd rfl (.inl rfl) (pe_op op_add_str (pe_op op_add_str (pe_slice sl_str (pv 5) po_none (po_some (pv 6))) (pv 9)) (pe_slice sl_str (pv 5) (po_some (pe_op op_add (pv 6) pe_int)) po_none)))) pss_nil)
 (C8.pss_cut (ps_if (pt_cmpR op_eq (pv 3) pe_int (nomark _)) (pss_one (ps_set (i := 9) sc_law_names.nd rfl (.inl rfl) (pe_op op_add_str (pe_slice sl_str (pv 5) po_none (po_some pe_int)) (pe_callTy call_str_int (by rfl) T.str (by decide +kernel) (pa_cons (pe_op op_add (pe_op op_add (pe_op op_mod (pe_callTy call_int1 (by rfl) T.int (by decide +kernel) (pa_cons (pv 4) pa_nil)) pe_int) pe_int) (pe_op op_mul (pv 8) (pe_op op_add pe_int (pe_op op_mod (pe_callTy call_int1 (by rfl) T.int (by decide +kernel) (pa_cons (pv 4) pa_nil)) pe_int)))) pa_nil))))) pss_nil)
 (C8.pss_cut (ps_if (pt_cmpR op_eq (pv 3) pe_int (nomark _)) (pss_one (ps_set (i := 9) sc_law_names.nd rfl (.inl rfl) (pe_op op_mul_str (pe_ix ix_str (pv 2) (pe_op op_mod (pe_callTy call_int1 (by rfl) T.int (by decide +kernel) (pa_cons (pe_op op_add (pv 4) (pe_op op_fdivW (pv 8) pe_int)) pa_nil)) pe_int) (fun _ _ => rfl)) (pe_op op_add pe_int (pe_op op_mod (pe_callTy call_int1 (by rfl) T.int (by decide +kernel) (pa_cons (pv 8) pa_nil)) pe_int))))) pss_nil)
 (pss_one (ps_expr (pe_bm PySem.F.plainAttrs_list PySem.F.slot_list_append PySem.F.type_list_append mt_append (pv 7) (pa_cons (pv 9) pa_nil)))))))))
 (pss_one (ps_ret (pe_callH H_law_shuffled hr (by rfl) (pa_cons (pv 0) (pa_cons (pv 7) pa_nil))))))))))))), ?_⟩
    walk_at "rdD"
    refine ⟨S, 5, rfl, by omega, hS, fun fam H1 f0 f1 hS1 e1 => ?_⟩
    walk_at "rdD"
    refine ⟨S, 26, rfl, by omega, hS1, fun st H2 t0 t1 hS2 e2 => ?_⟩
    obtain ⟨sn, rfl⟩ : ∃ n : Nat, st = n := ⟨st.toNat, by omega⟩
    have e2' := e1.trans e2
    walk_at "rdD"
    refine if_dec (fun h3 => ?_) (fun h3 => ?_)
    · walk_at "rdD"
      refine ⟨sz (by simp), fun b nb => ?_⟩
      walk_at "rdD"
      exact ⟨S, m, b, [], rfl, by omega, by simp, hS2.new nb, .new hS2 nb, fun p U H' hU dU _ lU np hA hS' e' => h p U H' hU dU lU (e2'.free hS2 ((ExS.new (S := S) nb).free (hS2.new nb) np)) hA hS' (e2'.trans ((ExS.new nb).trans e'))⟩
    · walk_at "rdD"
      refine ⟨S, rfl, hS2, fun z H3 hz hS3 e3 => ?_⟩
      obtain ⟨z1, z8⟩ := isNm_len hz
      have e3' := e2'.trans e3
      walk_at "rdD"
      refine ⟨sz (by omega), ?_⟩
      walk_at "rdD"
      refine ⟨S, _, rfl, by omega, hS3, fun r H4 r0 r1 hS4 e4 => ?_⟩
      obtain ⟨rn, rfl⟩ : ∃ n : Nat, r = n := ⟨r.toNat, by omega⟩
      have e4' := e3'.trans e4
      walk_at "rdD"
      refine ⟨sz (by simp), fun p np => ?_⟩
      have p1 := hS4.ne1 np
      have p2 := hS4.ne2 np
      walk_at "rdD"
      refine ⟨by omega, by omega, for_rng (fun i σ H' => ∃ y y2, ∃ U : List Str, σ = [some (.ref S.1), some (.int m), some (.str lets), some (.int fam), some (.int sn), some (.str z), some (.int rn), some (.ref p), y, y2] ∧ U.map TL.tl = (List.range i).map (n3 fam sn rn (TL.tl z)) ∧ U.length = i ∧ H' p = some (.lst (U.map V.str)) ∧ StoreOk S H' ∧ ExS S H H') ⟨_, _, [], rfl, rfl, rfl, upd_same, hS4.new np, e4'.trans (ExS.new np)⟩ ?_ ?_⟩
      · rintro i σ H5 hi ⟨y, y2, U, rfl, hU, lU, hp, hS5, e5⟩
        have hi : i < m := by simpa using hi
        have a1 : ((sn : Int) + (i : Int)) % 26 = (((sn + i) % 26 : Nat) : Int) := by omega
        have a2 : ((sn : Int) + (i : Int) / 8) % 26 = (((sn + i / 8) % 26 : Nat) : Int) := by omega
        have a3 : (sn : Int) % 4 + 7 + (i : Int) * (1 + (sn : Int) % 3) = ((sn % 4 + 7 + i * (1 + sn % 3) : Nat) : Int) := by push_cast; rfl
        have a4 : (1 : Int) + (i : Int) % 8 = ((1 + i % 8 : Nat) : Int) := by omega
        have hn : sn % 4 + 7 + i * (1 + sn % 3) < 100000 := by
          have := Nat.mul_le_mul (show i ≤ 26 by omega) (show 1 + sn % 3 ≤ 3 by omega)
          omega
        walk_at "rdD"
        rw [a1]
        refine rd_ixS (by decide +kernel) (lets_at _) ?_
        walk_at "rdD"
        refine rd_cut (fun σ' H3 => ∃ x : Str, σ' = [some (.ref S.1), some (.int m), some (.str lets), some (.int fam), some (.int sn), some (.str z), some (.int rn), some (.ref p), some (.int i), some (.str x)] ∧ TL.tl x = n1 fam sn rn (TL.tl z) i ∧ x.length ≤ 40 ∧ H3 = H5) ?_ ?_
        · walk_at "rdD"
          refine if_dec (fun hf => ?_) (fun hf => ?_)
          · have l1 := cutS_len z none (some (rn : Int))
            have l2 := cutS_len z (some ((rn : Int) + 1)) none
            have l3 : (⟨#[lt (sn + i)]⟩ : Str).length = 1 := rfl
            walk_at "rdD"
            refine rd_slS (by omega) ?_
            walk_at "rdD"
            refine ⟨sz (by omega), ?_⟩
            walk_at "rdD"
            refine rd_slS (by omega) ?_
            walk_at "rdD"
            refine ⟨sz (by rw [app_len]; omega), ?_⟩
            walk_at "rdD"
            refine ⟨_, rfl, ?_, by rw [app_len, app_len]; omega, rfl⟩
            rw [tl_app, tl_app, cut_to_l, show (rn : Int) + 1 = ((rn + 1 : Nat) : Int) from rfl, cut_from_l]
            unfold n1; rw [if_pos hf]
          · walk_at "rdD"
            exact ⟨_, rfl, by unfold n1; rw [if_neg hf], by show 1 ≤ 40; omega, rfl⟩
        · rintro σ' H6 ⟨x, rfl, hx, lx, rfl⟩
          refine rd_cut (fun σ' H3 => ∃ x : Str, σ' = [some (.ref S.1), some (.int m), some (.str lets), some (.int fam), some (.int sn), some (.str z), some (.int rn), some (.ref p), some (.int i), some (.str x)] ∧ TL.tl x = n2 fam sn rn (TL.tl z) i ∧ x.length ≤ 40 ∧ H3 = H6) ?_ ?_
          · walk_at "rdD"
            refine if_dec (fun hf => ?_) (fun hf => ?_)
            · have l1 := cutS_len z none (some 2)
              walk_at "rdD"
              refine rd_slS (by omega) ?_
              walk_at "rdD"
              rw [a3]
              have hns := numS_len hn
              refine ⟨log_ok (by omega), ?_⟩
              walk_at "rdD"
              refine ⟨sz (by show (cutS z none (some 2)).length + (numS _).length ≤ 100000; omega), ?_⟩
              walk_at "rdD"
              refine ⟨cutS z none (some 2) ++ numS (sn % 4 + 7 + i * (1 + sn % 3)), rfl, ?_, by rw [app_len]; omega, rfl⟩
              rw [tl_app, show (some (2 : Int)) = some ((2 : Nat) : Int) from rfl, cut_to_l]
              unfold n2; rw [if_pos hf]
              rw [show TL.tl (numS (sn % 4 + 7 + i * (1 + sn % 3))) = _ from numS_l _]
            · walk_at "rdD"
              exact ⟨_, rfl, by unfold n2; rw [if_neg hf]; exact hx, lx, rfl⟩
          · rintro σ' H7 ⟨x, rfl, hx, lx, rfl⟩
            refine rd_cut (fun σ' H3 => ∃ x : Str, σ' = [some (.ref S.1), some (.int m), some (.str lets), some (.int fam), some (.int sn), some (.str z), some (.int rn), some (.ref p), some (.int i), some (.str x)] ∧ TL.tl x = n3 fam sn rn (TL.tl z) i ∧ x.length ≤ 40 ∧ H3 = H7) ?_ ?_
            · walk_at "rdD"
              refine if_dec (fun hf => ?_) (fun hf => ?_)
              · walk_at "rdD"
                refine ⟨_, _, rfl, rfl, ⟨by decide, by decide⟩, ?_⟩
                walk_at "rdD"
                rw [a2]
                refine rd_ixS (by decide +kernel) (lets_at _) ?_
                walk_at "rdD"
                rw [a4]
                refine ⟨_, _, rfl, rfl, by omega, by omega, by show 1 ≤ 1000; omega, ?_⟩
                walk_at "rdD"
                have ml := mul_list (c := lt (sn + i / 8)) (n := 1 + i % 8) (by omega)
                refine ⟨_, rfl, by unfold n3; rw [if_pos hf]; exact ml, ?_, rfl⟩
                rw [TL.len_tl, ml, List.length_replicate]; omega
              · walk_at "rdD"
                exact ⟨_, rfl, by unfold n3; rw [if_neg hf]; exact hx, lx, rfl⟩
            · rintro σ' H8 ⟨x, rfl, hx, lx, rfl⟩
              walk_at "rdD"
              refine ⟨.inl ⟨rfl, _, .inl (.inl hp)⟩, ?_⟩
              walk_at "rdD"
              refine ⟨p, _, _, rfl, rfl, hp, by rw [List.length_map]; exact Nat.lt_of_le_of_lt (by omega : U.length ≤ 30) (by decide), ?_⟩
              refine ⟨_, _, U ++ [x], rfl, ?_, by rw [List.length_append, lU]; rfl, by rw [upd_same, List.map_append]; rfl, store_upd hS5 p1 p2, e5.mut (e4'.free hS4 np)⟩
              rw [List.map_append, hU, List.range_succ, List.map_append]
              simp [hx]
      · rintro σ H5 ⟨y, y2, U, rfl, hU, lU, hp, hS5, e5⟩
        have lU : U.length = m := by simpa using lU
        have hU : U.map TL.tl = (List.range m).map (n3 fam sn rn (TL.tl z)) := by simpa using hU
        have dU := names_nodup hU hm
        have gU := names_good hU hm hz (by omega)
        walk_at "rdD"
        refine ⟨S, p, _, rfl, hS5, ⟨p1, hp⟩, by rw [List.length_map]; omega, fun q ys H6 hperm nq hq hS6 e6 => ?_⟩
        obtain ⟨W, rfl, hW⟩ : ∃ W : List Str, ys = W.map V.str ∧ W.Perm U := perm_strs hperm
        exact h q W H6 (fun z hz => gU z (hW.mem_iff.mp hz)) (hW.nodup_iff.mpr dU) (by rw [hW.length_eq]; exact lU) (e5.free hS5 nq) hq hS6 (e5.trans e6)
end
abbrev s_law_near : Stmt := topS 49
theorem sc_law_near : FnScope ["store", "pool", "number"] ["store", "pool"] (defScope s_law_near) := ⟨rfl, rfl, rfl, by decide +kernel, rfl, by decide +kernel, by decide +kernel⟩
abbrev s_law_bar : Stmt := topS 50
theorem sc_law_bar : FnScope ["store", "pool", "kind"] ["store", "pool"] (defScope s_law_bar) := ⟨rfl, rfl, rfl, by decide +kernel, rfl, by decide +kernel, by decide +kernel⟩
local macro_rules | `(tactic| walk_at "sideE") => `(tactic| first | assumption | exact Z.sl_of (by assumption) | exact upd_same | (show (0 : Int) < _; omega) | exact Or.inl ⟨by omega, by omega⟩ | exact Or.inr ⟨by omega, by omega⟩)
local macro_rules | `(tactic| walk_at "tyofE") => `(tactic| first | exact TyOf.int _ | exact TyOf.bl _ | exact TyOf.non | exact TyOf.str _ | (apply TyOf.lst; assumption) | (apply TyOf.tup; assumption))
local macro_rules | `(tactic| walk_at "rd1E") => `(tactic| ((with_reducible refine rd_ixL (xs := ?xs) (v := ?v) ?hh ?he ?_); (case hh => first | exact upd_same | assumption); (case he => exact rfl)))
local macro_rules | `(tactic| walk_at "rd1E") => `(tactic| ((with_reducible refine rd_I ?hc ?_); (case hc => walk_at "sideE")))
local macro_rules | `(tactic| walk_at "rd1E") => `(tactic| ((with_reducible refine rd_isiT (b := ?b) (by assumption) ?k ?_); (case k => with_reducible first | exact kb_tuple_int | exact kb_tuple_bool | exact kb_tuple_str | exact kb_tuple_dict | exact kb_tuple_list | exact kb_tuple_tuple)))
local macro_rules | `(tactic| walk_at "rd1E") => `(tactic| ((with_reducible refine rd_isiL (b := ?b) (by assumption) ?k ?_); (case k => with_reducible first | exact kb_list_int | exact kb_list_bool | exact kb_list_str | exact kb_list_dict | exact kb_list_list | exact kb_list_tuple)))
local macro_rules | `(tactic| walk_at "rd1E") => `(tactic| ((with_reducible refine rd_isi (a := ?a) (b := ?b) ?ty ?k ?_); (case ty => first | exact TyOf.int _ | exact TyOf.bl _ | exact TyOf.non | exact TyOf.str _); (case k => with_reducible first | exact kb_int_int | exact kb_int_bool | exact kb_int_str | exact kb_int_dict | exact kb_int_list | exact kb_int_tuple | exact kb_bool_int | exact kb_bool_bool | exact kb_bool_str | exact kb_bool_dict | exact kb_bool_list | exact kb_bool_tuple | exact kb_NoneType_int | exact kb_NoneType_bool | exact kb_NoneType_str | exact kb_NoneType_dict | exact kb_NoneType_list | exact kb_NoneType_tuple | exact kb_str_int | exact kb_str_bool | exact kb_str_str | exact kb_str_dict | exact kb_str_list | exact kb_str_tuple)))
local macro_rules | `(tactic| walk_at "rd1E") => `(tactic| ((with_reducible refine rd_setS (j := ?j) ?he ?_); (case he => exact rfl)))
local macro_rules | `(tactic| walk_at "rd1E") => `(tactic| ((with_reducible refine rd_var (v := ?v) ?hv ?_); (case hv => exact rfl)))
local macro_rules | `(tactic| walk_at "rd1E") => `(tactic| with_reducible refine rd_smI ?_)
local macro_rules | `(tactic| walk_at "rd1E") => `(tactic| with_reducible refine rd_smK ?_)
local macro_rules | `(tactic| walk_at "rd1E") => `(tactic| with_reducible refine rd_sm ?_)
local macro_rules | `(tactic| walk_at "rd1E") => `(tactic| with_reducible refine rd_prop ?_)
local macro_rules | `(tactic| walk_at "rd1E") => `(tactic| with_reducible refine rd_st2 ?_)
local macro_rules | `(tactic| walk_at "rd1E") => `(tactic| with_reducible refine rd_nl ?_)
local macro_rules | `(tactic| walk_at "rd1E") => `(tactic| with_reducible refine rd_st1 ?_)
local macro_rules | `(tactic| walk_at "rd1E") => `(tactic| with_reducible refine rd_fmt ?_)
local macro_rules | `(tactic| walk_at "rd1E") => `(tactic| with_reducible refine rd_js0 ?_)
local macro_rules | `(tactic| walk_at "rd1E") => `(tactic| with_reducible refine rd_js ?_)
local macro_rules | `(tactic| walk_at "rd1E") => `(tactic| with_reducible refine rd_neS ?_)
local macro_rules | `(tactic| walk_at "rd1E") => `(tactic| with_reducible refine rd_isS ?_)
local macro_rules | `(tactic| walk_at "rd1E") => `(tactic| with_reducible refine rd_m1 ?_)
local macro_rules | `(tactic| walk_at "rd1E") => `(tactic| with_reducible refine rd_m0 ?_)
local macro_rules | `(tactic| walk_at "rd1E") => `(tactic| with_reducible refine rd_pass ?_)
local macro_rules | `(tactic| walk_at "rd1E") => `(tactic| with_reducible refine rd_raise ?_)
local macro_rules | `(tactic| walk_at "rd1E") => `(tactic| with_reducible refine rd_iSeq ?_)
local macro_rules | `(tactic| walk_at "rd1E") => `(tactic| with_reducible refine rd_iStr ?_)
local macro_rules | `(tactic| walk_at "rd1E") => `(tactic| with_reducible refine rd_si ?_)
local macro_rules | `(tactic| walk_at "rd1E") => `(tactic| with_reducible refine rd_ii ?_)
local macro_rules | `(tactic| walk_at "rd1E") => `(tactic| with_reducible refine rd_callSD ?_)
local macro_rules | `(tactic| walk_at "rd1E") => `(tactic| with_reducible refine rd_callNS ?_)
local macro_rules | `(tactic| walk_at "rd1E") => `(tactic| with_reducible refine rd_yes ?_)
local macro_rules | `(tactic| walk_at "rd1E") => `(tactic| with_reducible refine rd_dnotin ?_)
local macro_rules | `(tactic| walk_at "rd1E") => `(tactic| with_reducible refine rd_dput ?_)
local macro_rules | `(tactic| walk_at "rd1E") => `(tactic| with_reducible refine rd_dnewK ?_)
local macro_rules | `(tactic| walk_at "rd1E") => `(tactic| with_reducible refine rd_lrv ?_)
local macro_rules | `(tactic| walk_at "rd1E") => `(tactic| with_reducible refine rd_makeS ?_)
local macro_rules | `(tactic| walk_at "rd1E") => `(tactic| with_reducible refine rd_make ?_)
local macro_rules | `(tactic| walk_at "rd1E") => `(tactic| with_reducible refine rd_sfld ?_)
local macro_rules | `(tactic| walk_at "rd1E") => `(tactic| with_reducible refine rd_fld ?_)
local macro_rules | `(tactic| walk_at "rd1E") => `(tactic| with_reducible refine rd_i1 ?_)
local macro_rules | `(tactic| walk_at "rd1E") => `(tactic| with_reducible refine rd_s1 ?_)
local macro_rules | `(tactic| walk_at "rd1E") => `(tactic| with_reducible refine rd_ss ?_)
local macro_rules | `(tactic| walk_at "rd1E") => `(tactic| with_reducible refine rd_p40 ?_)
local macro_rules | `(tactic| walk_at "rd1E") => `(tactic| with_reducible refine rd_p30 ?_)
local macro_rules | `(tactic| walk_at "rd1E") => `(tactic| with_reducible refine rd_p18 ?_)
local macro_rules | `(tactic| walk_at "rd1E") => `(tactic| with_reducible refine rd_p13 ?_)
local macro_rules | `(tactic| walk_at "rd1E") => `(tactic| with_reducible refine rd_p12 ?_)
local macro_rules | `(tactic| walk_at "rd1E") => `(tactic| with_reducible refine rd_p11 ?_)
local macro_rules | `(tactic| walk_at "rd1E") => `(tactic| with_reducible refine rd_p9 ?_)
local macro_rules | `(tactic| walk_at "rd1E") => `(tactic| with_reducible refine rd_xf ?_)
local macro_rules | `(tactic| walk_at "rd1E") => `(tactic| with_reducible refine rd_ckw ?_)
local macro_rules | `(tactic| walk_at "rd1E") => `(tactic| with_reducible refine rd_mkO ?_)
local macro_rules | `(tactic| walk_at "rd1E") => `(tactic| with_reducible refine rd_callKS ?_)
local macro_rules | `(tactic| walk_at "rd1E") => `(tactic| with_reducible refine rd_callS ?_)
local macro_rules | `(tactic| walk_at "rd1E") => `(tactic| with_reducible refine rd_lc ?_)
local macro_rules | `(tactic| walk_at "rd1E") => `(tactic| with_reducible refine rd_iTup ?_)
local macro_rules | `(tactic| walk_at "rd1E") => `(tactic| with_reducible refine rd_iList ?_)
local macro_rules | `(tactic| walk_at "rd1E") => `(tactic| with_reducible refine rd_iRng1 ?_)
local macro_rules | `(tactic| walk_at "rd1E") => `(tactic| with_reducible refine rd_for ?_)
local macro_rules | `(tactic| walk_at "rd1E") => `(tactic| with_reducible refine rd_nopart ?_)
local macro_rules | `(tactic| walk_at "rd1E") => `(tactic| with_reducible refine rd_part ?_)
local macro_rules | `(tactic| walk_at "rd1E") => `(tactic| with_reducible refine rd_neB ?_)
local macro_rules | `(tactic| walk_at "rd1E") => `(tactic| with_reducible refine rd_eqS ?_)
local macro_rules | `(tactic| walk_at "rd1E") => `(tactic| with_reducible refine rd_eqB ?_)
local macro_rules | `(tactic| walk_at "rd1E") => `(tactic| with_reducible refine if_nN_ref ?_)
local macro_rules | `(tactic| walk_at "rd1E") => `(tactic| with_reducible refine if_nN_str ?_)
local macro_rules | `(tactic| walk_at "rd1E") => `(tactic| with_reducible refine if_nN_bl ?_)
local macro_rules | `(tactic| walk_at "rd1E") => `(tactic| with_reducible refine if_nN_int ?_)
local macro_rules | `(tactic| walk_at "rd1E") => `(tactic| with_reducible refine if_n_ref ?_)
local macro_rules | `(tactic| walk_at "rd1E") => `(tactic| with_reducible refine if_n_str ?_)
local macro_rules | `(tactic| walk_at "rd1E") => `(tactic| with_reducible refine if_n_bl ?_)
local macro_rules | `(tactic| walk_at "rd1E") => `(tactic| with_reducible refine if_n_int ?_)
local macro_rules | `(tactic| walk_at "rd1E") => `(tactic| with_reducible refine if_nnN ?_)
local macro_rules | `(tactic| walk_at "rd1E") => `(tactic| with_reducible refine if_nt ?_)
local macro_rules | `(tactic| walk_at "rd1E") => `(tactic| with_reducible refine if_nf ?_)
local macro_rules | `(tactic| walk_at "rd1E") => `(tactic| with_reducible refine if_nn ?_)
local macro_rules | `(tactic| walk_at "rd1E") => `(tactic| with_reducible refine iteF ?_)
local macro_rules | `(tactic| walk_at "rd1E") => `(tactic| with_reducible refine iteT ?_)
local macro_rules | `(tactic| walk_at "rd1E") => `(tactic| with_reducible refine rd_asgS ?_)
local macro_rules | `(tactic| walk_at "rd1E") => `(tactic| with_reducible refine rd_chain ?_)
local macro_rules | `(tactic| walk_at "rd1E") => `(tactic| with_reducible refine rd_bm ?_)
local macro_rules | `(tactic| walk_at "rd1E") => `(tactic| with_reducible refine rd_sl ?_)
local macro_rules | `(tactic| walk_at "rd1E") => `(tactic| with_reducible refine rd_tup ?_)
local macro_rules | `(tactic| walk_at "rd1E") => `(tactic| with_reducible refine rd_lst ?_)
local macro_rules | `(tactic| walk_at "rd1E") => `(tactic| with_reducible refine rd_neI ?_)
local macro_rules | `(tactic| walk_at "rd1E") => `(tactic| with_reducible refine rd_if ?_)
local macro_rules | `(tactic| walk_at "rd1E") => `(tactic| with_reducible refine rd_notV ?_)
local macro_rules | `(tactic| walk_at "rd1E") => `(tactic| with_reducible refine rd_orV ?_)
local macro_rules | `(tactic| walk_at "rd1E") => `(tactic| with_reducible refine rd_andV ?_)
local macro_rules | `(tactic| walk_at "rd1E") => `(tactic| with_reducible refine rd_drop ?_)
local macro_rules | `(tactic| walk_at "rd1E") => `(tactic| with_reducible refine rd_next ?_)
local macro_rules | `(tactic| walk_at "rd1E") => `(tactic| with_reducible refine rd_U ?_)
local macro_rules | `(tactic| walk_at "rd1E") => `(tactic| with_reducible refine rd_un ?_)
local macro_rules | `(tactic| walk_at "rd1E") => `(tactic| with_reducible refine rd_or ?_)
local macro_rules | `(tactic| walk_at "rd1E") => `(tactic| with_reducible refine rd_and ?_)
local macro_rules | `(tactic| walk_at "rd1E") => `(tactic| with_reducible refine rd_not ?_)
local macro_rules | `(tactic| walk_at "rd1E") => `(tactic| with_reducible refine rd_tB ?_)
local macro_rules | `(tactic| walk_at "rd1E") => `(tactic| with_reducible refine rd_test ?_)
local macro_rules | `(tactic| walk_at "rd1E") => `(tactic| with_reducible refine rd_ifS ?_)
local macro_rules | `(tactic| walk_at "rd1E") => `(tactic| with_reducible refine rd_ret ?_)
local macro_rules | `(tactic| walk_at "rd1E") => `(tactic| with_reducible refine rd_min2 ?_)
local macro_rules | `(tactic| walk_at "rd1E") => `(tactic| with_reducible refine rd_max2 ?_)
local macro_rules | `(tactic| walk_at "rd1E") => `(tactic| with_reducible refine rd_int1 ?_)
local macro_rules | `(tactic| walk_at "rd1E") => `(tactic| with_reducible refine rd_nn ?_)
local macro_rules | `(tactic| walk_at "rd1E") => `(tactic| with_reducible refine rd_bx ?_)
local macro_rules | `(tactic| walk_at "rd1E") => `(tactic| with_reducible refine rd_eqI ?_)
local macro_rules | `(tactic| walk_at "rd1E") => `(tactic| with_reducible refine rd_I0 ?_)
local macro_rules | `(tactic| walk_at "rd1E") => `(tactic| with_reducible refine rd_call ?_)
local macro_rules | `(tactic| walk_at "rd1E") => `(tactic| with_reducible refine rd_cb ?_)
local macro_rules | `(tactic| walk_at "rd1E") => `(tactic| with_reducible refine rd_nil ?_)
local macro_rules | `(tactic| walk_at "rd1E") => `(tactic| with_reducible refine rd_cons ?_)
local macro_rules | `(tactic| walk_at "rd1E") => `(tactic| with_reducible refine rd_op ?_)
local macro_rules | `(tactic| walk_at "rd1E") => `(tactic| with_reducible refine rd_c ?_)
local macro_rules | `(tactic| walk_at "rd1E") => `(tactic| with_reducible refine rd_asg ?_)
local macro_rules | `(tactic| walk_at "rd1E") => `(tactic| with_reducible refine rd_seq ?_)
local macro_rules | `(tactic| walk_at "rdE") => `(tactic| repeat walk_at "rd1E")
def isOpen : V → Bool
  | .non => true
  | v => isNum v
def NI (v : V) : Prop := v = .non ∨ ∃ i, v = .int i
def crossed : V → V → Bool
  | .int i, .int j => decide (j < i)
  | _, _ => false
def OpE (v : V) : Prop := NI v ∧ isOpen v = true
theorem OpE.sc {v : V} (h : OpE v) : Sc v := by
  rcases h.1 with rfl | ⟨n, rfl⟩ <;> trivial
def Bar (v : V) : Prop := v = .non ∨ ∃ n, v = .int n ∧ InR n
theorem Bar.op {v : V} (h : Bar v) : OpE v := by
  rcases h with rfl | ⟨n, rfl, h⟩
  · exact ⟨.inl rfl, rfl⟩
  · exact ⟨.inr ⟨n, rfl⟩, decide_eq_true h⟩
section
variable {P : Program} {w : World} {K : PySem.W.Frag} {mg : Str → Option Value} {base : Heap}
def spNear : Sp := fun vs H Q _ => ∃ S : Sto, ∃ p, ∃ ns : List Int, vs = [.ref S.1, .ref p] ∧ StoreOk S H ∧ At S H p (.lst (ns.map V.int)) ∧ 0 < ns.length ∧ ns.length < 1000 ∧ ∀ n H', InR n → StoreOk S H' → ExS S H H' → Q (.int n) H'
theorem ok_near {k : Nat} {f : Addr} {fd : FuncData} (F : Fun K "_law_near" "_law_near" s_law_near f fd) (T : Blt mg) (H_law_take : Has P w K mg base "_law_take" k ["store", "many"] spTake) (H_law_pick : Has P w K mg base "_law_pick" k ["store", "items"] spPick) : FnOk P w K mg base CX0 (k + 1) f fd ["store", "pool"] spNear := by
  refine F.ok sc_law_near (fun vs H Q E h => ?_) (fun cdv A outer s H vs Q E hr h => ?_)
  · obtain ⟨S, p, ns, rfl, _⟩ := h; rfl
  · obtain ⟨S, p, ns, rfl, hS, hA, l0, l1, h⟩ := h
    refine ⟨_, (pss_cons (ps_set (i := 2) sc_law_near.nd rfl (.inl rfl) (pe_op op_add (pe_callH H_law_pick hr (by rfl) (pa_cons (pv 0) (pa_cons (pv 1) pa_nil))) (pe_ix ix_list (pe_lst (pa_cons pe_int (pa_cons pe_int (pa_cons pe_int (pa_cons (pe_un un_neg pe_int) pa_nil))))) (pe_callH H_law_take hr (by rfl) (pa_cons (pv 0) (pa_cons pe_int pa_nil))) (fun _ _ => rfl))))
 (pss_one (ps_ret (pe_callB (call_max2 rfl) (by rfl) T.max (by decide +kernel) (pa_cons (pe_un un_neg (pe_op op_pow pe_int pe_int)) (pa_cons (pe_callB (call_min2 rfl) (by rfl) T.min (by decide +kernel) (pa_cons (pe_op op_pow pe_int pe_int) (pa_cons (pv 2) pa_nil))) pa_nil)))))), ?_⟩
    walk_at "rdE"
    refine ⟨S, _, rfl, hS, .inl ⟨p, _, rfl, hA, by simpa using l0, by rw [List.length_map]; omega, fun v H1 hv hS1 e1 => ?_⟩⟩
    obtain ⟨n, hn, rfl⟩ := List.mem_map.mp hv
    walk_at "rdE"
    refine ⟨sz (by simp), fun q nq => ?_⟩
    walk_at "rdE"
    refine ⟨S, 4, rfl, by omega, hS1.new nq, fun r H2 r0 r1 hS2 e2 => ?_⟩
    have hq := e2 _ _ (hS1.ne1 nq) upd_same
    have e3 := e1.trans ((ExS.new nq).trans e2)
    obtain ⟨hb, en⟩ := atI_get (xs := [V.int 0, .int 0, .int 1, .int (-1)]) (i := r) r0 (by simp; omega)
    refine rd_ixL hq en ?_
    obtain ⟨d, hd⟩ : ∃ d, [V.int 0, .int 0, .int 1, .int (-1)][r.toNat] = .int d := by
      have : r.toNat = 0 ∨ r.toNat = 1 ∨ r.toNat = 2 ∨ r.toNat = 3 := by omega
      rcases this with e | e | e | e <;> simp only [e] <;> exact ⟨_, rfl⟩
    rw [hd]
    walk_at "rdE"
    refine h _ H2 ?_ hS2 e3
    unfold InR; split <;> split <;> omega
def spBar : Sp := fun vs H Q _ => ∃ S : Sto, ∃ p, ∃ ns : List Int, vs = [.ref S.1, .ref p] ∧ StoreOk S H ∧ At S H p (.lst (ns.map V.int)) ∧ (∀ n ∈ ns, InR n) ∧ 0 < ns.length ∧ ns.length < 1000 ∧ ∀ v H', Bar v → StoreOk S H' → ExS S H H' → Q v H'
theorem ok_bar {k : Nat} {f : Addr} {fd : FuncData} (F : Fun K "_law_bar" "_law_bar" s_law_bar f fd) (T : Blt mg) (H_law_take : Has P w K mg base "_law_take" k ["store", "many"] spTake) (H_law_near : Has P w K mg base "_law_near" k ["store", "pool"] spNear) (H_law_pick : Has P w K mg base "_law_pick" k ["store", "items"] spPick) : FnOk P w K mg base CX0 (k + 1) f fd ["store", "pool"] spBar := by
  refine F.ok sc_law_bar (fun vs H Q E h => ?_) (fun cdv A outer s H vs Q E hr h => ?_)
  · obtain ⟨S, p, ns, rfl, _⟩ := h; rfl
  · obtain ⟨S, p, ns, rfl, hS, hA, hns, l0, l1, h⟩ := h
    refine ⟨_, (pss_cons (ps_set (i := 2) sc_law_bar.nd rfl (.inl rfl) (pe_callH H_law_take hr (by rfl) (pa_cons (pv 0) (pa_cons pe_int pa_nil))))
 (pss_cons (ps_if (pt_cmpR op_lt (pv 2) pe_int (nomark _)) (pss_one (ps_ret pe_non)) pss_nil)
 (pss_cons (ps_if (pt_cmpR op_eq (pv 2) pe_int (nomark _)) (pss_one (ps_ret (pe_callH H_law_near hr (by rfl) (pa_cons (pv 0) (pa_cons (pv 1) pa_nil))))) pss_nil)
 (pss_one (ps_ret (pe_callH H_law_pick hr (by rfl) (pa_cons (pv 0) (pa_cons (pv 1) pa_nil)))))))), ?_⟩
    walk_at "rdE"
    refine ⟨S, 4, rfl, by omega, hS, fun r H1 r0 r1 hS1 e1 => ?_⟩
    walk_at "rdE"
    refine if_dec (fun hk => ?_) (fun hk => ?_)
    · walk_at "rdE"
      exact h _ _ (.inl rfl) hS1 e1
    · walk_at "rdE"
      refine if_dec (fun hk => ?_) (fun hk => ?_)
      · walk_at "rdE"
        exact ⟨S, p, ns, rfl, hS1, hA.back e1, l0, l1, fun n H2 hn hS2 e2 => h _ _ (.inr ⟨n, rfl, hn⟩) hS2 (e1.trans e2)⟩
      · walk_at "rdE"
        refine ⟨S, _, rfl, hS1, .inl ⟨p, _, rfl, hA.back e1, by simpa using l0, by rw [List.length_map]; omega, fun v H2 hv hS2 e2 => ?_⟩⟩
        obtain ⟨n, hn, rfl⟩ := List.mem_map.mp hv
        exact h _ _ (.inr ⟨n, rfl, hns n hn⟩) hS2 (e1.trans e2)
end
abbrev s_law_ends : Stmt := topS 51
theorem sc_law_ends : FnScope ["store", "pool", "kind", "one", "other"] ["store", "pool"] (defScope s_law_ends) := ⟨rfl, rfl, rfl, by decide +kernel, rfl, by decide +kernel, by decide +kernel⟩
section
variable {P : Program} {w : World} {K : PySem.W.Frag} {mg : Str → Option Value} {base : Heap} {C : Addr}
def spEnds : Sp := fun vs H Q _ => ∃ S : Sto, ∃ p, ∃ ns : List Int, vs = [.ref S.1, .ref p] ∧ StoreOk S H ∧ At S H p (.lst (ns.map V.int)) ∧ 0 < ns.length ∧ ns.length < 1000 ∧
  ∀ q l h H', Bar l → Bar h → crossed l h = false → H q = none → At S H' q (.tup [l, h]) → StoreOk S H' → ExS S H H' → Q (.ref q) H'
theorem exs_free {S : Sto} {H H2 : Hp} {u : Addr} (e : ExS S H H2) (hS : StoreOk S H2) (n : H2 u = none) : H u = none := by
  cases q : H u with
  | none => rfl
  | some o => rw [e u o (hS.ne1 n) q] at n; cases n
theorem ok_ends {k : Nat} {f : Addr} {fd : FuncData} (F : Fun K "_law_ends" "_law_ends" s_law_ends f fd) (T : Blt mg) (H_law_take : Has P w K mg base "_law_take" k ["store", "many"] spTake) (H_law_near : Has P w K mg base "_law_near" k ["store", "pool"] spNear) : FnOk P w K mg base CX0 (k + 1) f fd ["store", "pool"] spEnds := by
  refine F.ok sc_law_ends (fun vs H Q E h => ?_) (fun cdv A outer s H vs Q E hr h => ?_)
  · obtain ⟨S, p, ns, rfl, _⟩ := h; rfl
  · obtain ⟨S, p, ns, rfl, hS, hA, l0, l1, h⟩ := h
    refine ⟨_, (pss_cons (ps_set (i := 2) sc_law_ends.nd rfl (.inl rfl) (pe_callH H_law_take hr (by rfl) (pa_cons (pv 0) (pa_cons pe_int pa_nil))))
 (pss_cons (ps_if (pt_cmpR op_lt (pv 2) pe_int (nomark _)) (pss_one (ps_ret (pe_tup (pa_cons pe_non (pa_cons pe_non pa_nil))))) pss_nil)
 (pss_cons (ps_set (i := 3) sc_law_ends.nd rfl (.inl rfl) (pe_callH H_law_near hr (by rfl) (pa_cons (pv 0) (pa_cons (pv 1) pa_nil))))
 (pss_cons (ps_if (pt_cmpR op_eq (pv 2) pe_int (nomark _)) (pss_one (ps_ret (pe_tup (pa_cons pe_non (pa_cons (pv 3) pa_nil))))) pss_nil)
 (pss_cons (ps_if (pt_cmpR op_eq (pv 2) pe_int (nomark _)) (pss_one (ps_ret (pe_tup (pa_cons (pv 3) (pa_cons pe_non pa_nil))))) pss_nil)
 (pss_cons (ps_if (pt_cmpR op_eq (pv 2) pe_int (nomark _)) (pss_one (ps_ret (pe_tup (pa_cons (pv 3) (pa_cons (pv 3) pa_nil))))) pss_nil)
 (pss_cons (ps_set (i := 4) sc_law_ends.nd rfl (.inl rfl) (pe_callH H_law_near hr (by rfl) (pa_cons (pv 0) (pa_cons (pv 1) pa_nil))))
 (pss_one (ps_ret (pe_tup (pa_cons (pe_callB (call_min2 rfl) (by rfl) T.min (by decide +kernel) (pa_cons (pv 3) (pa_cons (pv 4) pa_nil))) (pa_cons (pe_callB (call_max2 rfl) (by rfl) T.max (by decide +kernel) (pa_cons (pv 3) (pa_cons (pv 4) pa_nil))) pa_nil)))))))))))), ?_⟩
    have fin : ∀ {H1 : Hp} {l hh : V}, Bar l → Bar hh → crossed l hh = false → StoreOk S H1 → ExS S H H1 → [l, hh].length ≤ sizeLine ∧ ∀ q, H1 q = none → Q (.ref q) (upd H1 q (.tup [l, hh])) := fun {H1 l hh} b1 b2 c hS1 e1 =>
      ⟨sz (by simp), fun q nq => h q l hh _ b1 b2 c (exs_free e1 hS1 nq) (.new hS1 nq) (hS1.new nq) (e1.trans (ExS.new nq))⟩
    walk_at "rdB"
    refine ⟨S, 6, rfl, by omega, hS, fun r H1 r0 r1 hS1 e1 => ?_⟩
    walk_at "rdB"
    refine if_dec (fun hk => ?_) (fun hk => ?_)
    · walk_at "rdB"
      exact fin (.inl rfl) (.inl rfl) rfl hS1 e1
    · walk_at "rdB"
      refine ⟨S, p, ns, rfl, hS1, hA.back e1, l0, l1, fun n H2 hn hS2 e2 => ?_⟩
      have e2' := e1.trans e2
      walk_at "rdB"
      refine if_dec (fun hk2 => ?_) (fun hk2 => ?_)
      · walk_at "rdB"
        exact fin (.inl rfl) (.inr ⟨n, rfl, hn⟩) rfl hS2 e2'
      · walk_at "rdB"
        refine if_dec (fun hk3 => ?_) (fun hk3 => ?_)
        · walk_at "rdB"
          exact fin (.inr ⟨n, rfl, hn⟩) (.inl rfl) rfl hS2 e2'
        · walk_at "rdB"
          refine if_dec (fun hk5 => ?_) (fun hk5 => ?_)
          · walk_at "rdB"
            exact fin (.inr ⟨n, rfl, hn⟩) (.inr ⟨n, rfl, hn⟩) (decide_eq_false (by omega)) hS2 e2'
          · walk_at "rdB"
            refine ⟨S, p, ns, rfl, hS2, hA.back e2', l0, l1, fun m H3 hm hS3 e3 => ?_⟩
            walk_at "rdB"
            refine fin (.inr ⟨_, rfl, ?_⟩) (.inr ⟨_, rfl, ?_⟩) (decide_eq_false ?_) hS3 (e2'.trans e3)
            all_goals unfold InR at *
            all_goals (repeat' split)
            all_goals omega
end
abbrev s_law_edges : Stmt := topS 57
theorem sc_law_edges : FnScope ["store", "posts", "labels", "pool", "edges", "chain", "k", "one", "other", "ends", "kept", "span"] ["store", "posts", "labels", "pool"] (defScope s_law_edges) := ⟨rfl, rfl, rfl, by decide +kernel, rfl, by decide +kernel, by decide +kernel⟩
/-- a bond's row, and where it lies -/
structure Edg where
  a : Addr
  (n x y : Str)
  (l h : V)
def Edg.row (e : Edg) : List V := [.str e.n, .str e.x, .str e.y, e.l, e.h]
structure EdOk (P : List Str) (e : Edg) : Prop where
  x : e.x ∈ P
  y : e.y ∈ P
  ne : e.x ≠ e.y
  bl : Bar e.l
  bh : Bar e.h
  nc : crossed e.l e.h = false
section
variable {P : Program} {w : World} {K : PySem.W.Frag} {mg : Str → Option Value} {base : Heap}
theorem str_at {U : List Str} {i : Int} (h0 : 0 ≤ i) (h1 : i < U.length) : ∃ (hb : i.toNat < U.length), atI (U.map V.str) i = some (.str U[i.toNat]) := by
  obtain ⟨hb, e⟩ := atI_get (xs := U.map V.str) (i := i) h0 (by rw [List.length_map]; exact h1)
  have hb' : i.toNat < U.length := by rw [List.length_map] at hb; exact hb
  exact ⟨hb', by rw [e]; simp⟩
theorem nodup_get {U : List Str} (h : U.Nodup) {i j : Nat} (hi : i < U.length) (hj : j < U.length) (e : U[i] = U[j]) : i = j := by
  have p := List.pairwise_iff_getElem.mp (List.nodup_iff_pairwise_ne.mp h)
  rcases Nat.lt_trichotomy i j with q | q | q
  · exact absurd e (p i j hi hj q)
  · exact q
  · exact absurd e.symm (p j i hj hi q)
def spEdges : Sp := fun vs H Q _ => ∃ S : Sto, ∃ (pa la qa : Addr) (U W : List Str) (ns : List Int), vs = [.ref S.1, .ref pa, .ref la, .ref qa] ∧ StoreOk S H ∧ At S H pa (.lst (U.map V.str)) ∧ At S H la (.lst (W.map V.str)) ∧ At S H qa (.lst (ns.map V.int)) ∧ U.Nodup ∧ U.length ≤ 26 ∧ W.length ≤ 26 ∧ 0 < ns.length ∧ ns.length < 1000 ∧
  ∀ (p : Addr) (Es : List Edg) (H' : Hp), (∀ e ∈ Es, EdOk U e) → (Es = [] ∨ Es.map (·.n) = W) → H p = none → At S H' p (.lst (Es.map fun e => V.ref e.a)) → (∀ e ∈ Es, At S H' e.a (.tup e.row)) → StoreOk S H' → ExS S H H' → Q (.ref p) H'
theorem ok_edges {k : Nat} {f : Addr} {fd : FuncData} (F : Fun K "_law_edges" "_law_edges" s_law_edges f fd) (T : Blt mg) (H_law_take : Has P w K mg base "_law_take" k ["store", "many"] spTake) (H_law_pick : Has P w K mg base "_law_pick" k ["store", "items"] spPick) (H_law_ends : Has P w K mg base "_law_ends" k ["store", "pool"] spEnds) : FnOk P w K mg base CX0 (k + 1) f fd ["store", "posts", "labels", "pool"] spEdges := by
  refine F.ok sc_law_edges (fun vs H Q E h => ?_) (fun cdv A outer s H vs Q E hr h => ?_)
  · obtain ⟨S, pa, la, qa, U, W, ns, rfl, _⟩ := h; rfl
  · obtain ⟨S, pa, la, qa, U, W, ns, rfl, hS, hU, hW, hN, dU, lU, lW, n0, n1, h⟩ := h
    refine ⟨_, (pss_cons (ps_set (i := 4) sc_law_edges.nd rfl (.inl rfl) (pe_lst pa_nil))
 (pss_cons (ps_if (pt_cmpR op_lt (pe_callB call_len_seq (by rfl) T.len (by decide +kernel) (pa_cons (pv 1) pa_nil)) pe_int (nomark _)) (pss_one (ps_ret (pv 4))) pss_nil)
 (pss_cons (ps_set (i := 5) sc_law_edges.nd rfl (.inl rfl) (pe_cmpR op_eq (pe_callH H_law_take hr (by rfl) (pa_cons (pv 0) (pa_cons pe_int pa_nil))) pe_int (nomark _)))
 (pss_cons (ps_for PassesOwn.never rfl (pi_range1 rfl T.range (pa_cons (pe_callB call_len_seq (by rfl) T.len (by decide +kernel) (pa_cons (pv 2) pa_nil)) pa_nil)) (pg_name (i := 6) sc_law_edges.nd rfl (.inl rfl)) (pss_cons (ps_set (i := 7) sc_law_edges.nd rfl (.inl rfl) (pe_callH H_law_take hr (by rfl) (pa_cons (pv 0) (pa_cons (pe_callB call_len_seq (by rfl) T.len (by decide +kernel) (pa_cons (pv 1) pa_nil)) pa_nil))))
 (pss_cons (ps_set (i := 8) sc_law_edges.nd rfl (.inl rfl) (pe_op op_mod (pe_callTy call_int1 (by rfl) T.int (by decide +kernel) (pa_cons (pe_op op_add (pe_op op_add (pv 7) pe_int) (pe_callH H_law_take hr (by rfl) (pa_cons (pv 0) (pa_cons (pe_op op_sub (pe_callB call_len_seq (by rfl) T.len (by decide +kernel) (pa_cons (pv 1) pa_nil)) pe_int) pa_nil)))) pa_nil)) (pe_callB call_len_seq (by rfl) T.len (by decide +kernel) (pa_cons (pv 1) pa_nil))))
 (C8.pss_cut (ps_if (PW.pt (pw_and (pt_val (pv 5)) (pw_and1 (pt_cmpR op_lt (pe_op op_add (pv 6) pe_int) (pe_callB call_len_seq (by rfl) T.len (by decide +kernel) (pa_cons (pv 1) pa_nil)) (nomark _))))) (pss_cons (ps_set (i := 7) sc_law_edges.nd rfl (.inl rfl) (pe_op op_add (pv 6) pe_int))
 (pss_one (ps_set (i := 8) sc_law_edges.nd rfl (.inl rfl) (pe_op op_mod (pe_callTy call_int1 (by rfl) T.int (by decide +kernel) (pa_cons (pv 8) pa_nil)) (pe_op op_add (pv 6) pe_int))))) pss_nil)
 (pss_cons (ps_set (i := 9) sc_law_edges.nd rfl (.inl rfl) (pe_lst (pa_cons (pe_ix ix_list (pv 1) (pv 7) (fun _ _ => rfl)) (pa_cons (pe_ix ix_list (pv 1) (pv 8) (fun _ _ => rfl)) pa_nil))))
 (C8.pss_cut (ps_if (PW.pt (pw_and (pt_cmpR op_gt (pv 6) pe_int (nomark _)) (pw_and1 (pt_cmpR op_eq (pe_callH H_law_take hr (by rfl) (pa_cons (pv 0) (pa_cons pe_int pa_nil))) pe_int (nomark _))))) (pss_cons (ps_set (i := 10) sc_law_edges.nd rfl (.inl rfl) (pe_callH H_law_pick hr (by rfl) (pa_cons (pv 0) (pa_cons (pv 4) pa_nil))))
 (pss_one (ps_set (i := 9) sc_law_edges.nd rfl (.inl rfl) (pe_lst (pa_cons (pe_ix ix_seq (pv 10) pe_int (fun _ _ => rfl)) (pa_cons (pe_ix ix_seq (pv 10) pe_int (fun _ _ => rfl)) pa_nil)))))) pss_nil)
 (pss_cons (ps_set (i := 11) sc_law_edges.nd rfl (.inl rfl) (pe_callH H_law_ends hr (by rfl) (pa_cons (pv 0) (pa_cons (pv 3) pa_nil))))
 (pss_one (ps_expr (pe_bm PySem.F.plainAttrs_list PySem.F.slot_list_append PySem.F.type_list_append mt_append (pv 4) (pa_cons (pe_tup (pa_cons (pe_ix ix_list (pv 2) (pv 6) (fun _ _ => rfl)) (pa_cons (pe_ix ix_list (pv 9) pe_int (fun _ _ => rfl)) (pa_cons (pe_ix ix_list (pv 9) pe_int (fun _ _ => rfl)) (pa_cons (pe_ix ix_seq (pv 11) pe_int (fun _ _ => rfl)) (pa_cons (pe_ix ix_seq (pv 11) pe_int (fun _ _ => rfl)) pa_nil)))))) pa_nil)))))))))))
 (pss_one (ps_ret (pv 4))))))), ?_⟩
    walk_at "rdE"
    refine ⟨sz (by simp), fun ea nea => ?_⟩
    have hS1 := hS.new (o := .lst []) nea
    have e1 := ExS.new (S := S) (o := .lst []) nea
    have p1 := hS.ne1 nea
    have p2 := hS.ne2 nea
    walk_at "rdE"
    refine ⟨pa, _, rfl, .inl (sl_of (hU.back e1).2), ?_⟩
    walk_at "rdE"
    rw [List.length_map]
    refine if_dec (fun hl => ?_) (fun hl => ?_)
    · walk_at "rdE"
      exact h ea [] _ (by simp) (.inl rfl) nea ⟨p1, upd_same⟩ (by simp) hS1 e1
    · walk_at "rdE"
      refine ⟨S, 2, rfl, by omega, hS1, fun ch H2 c0 c1 hS2 e2 => ?_⟩
      have e2' := e1.trans e2
      walk_at "rdE"
      refine ⟨la, _, rfl, .inl (sl_of (hW.back e2').2), ?_⟩
      walk_at "rdE"
      rw [List.length_map]
      refine ⟨by omega, by omega, for_rng (fun i σ H' => ∃ y6 y7 y8 y9 y10 y11, ∃ Es : List Edg, σ = [some (.ref S.1), some (.ref pa), some (.ref la), some (.ref qa), some (.ref ea), some (.bl (decide (ch = 0))), y6, y7, y8, y9, y10, y11] ∧ (∀ e ∈ Es, EdOk U e) ∧ Es.map (·.n) = W.take i ∧ H' ea = some (.lst (Es.map fun e => V.ref e.a)) ∧ (∀ e ∈ Es, At S H' e.a (.tup e.row)) ∧ StoreOk S H' ∧ ExS S H H') ⟨_, _, _, _, _, _, [], rfl, by simp, rfl, e2 _ _ p1 upd_same, by simp, hS2, e2'⟩ ?_ ?_⟩
      · rintro i σ H3 hi ⟨y6, y7, y8, y9, y10, y11, Es, rfl, hE, hn, hea, hEA, hS3, e3⟩
        have hi : i < W.length := by omega
        have lE : Es.length = i := by
          have := congrArg List.length hn
          rw [List.length_map, List.length_take] at this
          omega
        walk_at "rdE"
        refine ⟨pa, _, rfl, .inl (sl_of (hU.back e3).2), ?_⟩
        walk_at "rdE"
        rw [List.length_map]
        refine ⟨S, _, rfl, by omega, hS3, fun o H4 o0 o1 hS4 e4 => ?_⟩
        have e4' := e3.trans e4
        walk_at "rdE"
        refine ⟨pa, _, rfl, .inl (sl_of (hU.back e4').2), ?_⟩
        walk_at "rdE"
        rw [List.length_map]
        refine ⟨S, _, rfl, by omega, hS4, fun t H5 t0 t1 hS5 e5 => ?_⟩
        have e5' := e4'.trans e5
        walk_at "rdE"
        refine ⟨pa, _, rfl, .inl (sl_of (hU.back e5').2), ?_⟩
        walk_at "rdE"
        rw [List.length_map]
        refine ⟨_, _, rfl, rfl, by omega, ?_⟩
        have t2 := Int.emod_nonneg (o + 1 + t) (show (U.length : Int) ≠ 0 by omega)
        have t3 := Int.emod_lt_of_pos (o + 1 + t) (show (0 : Int) < U.length by omega)
        have t4 : (o + 1 + t) % U.length ≠ o := by
          by_cases q : o + 1 + t < U.length
          · rw [Int.emod_eq_of_lt (by omega) q]; omega
          · have : (o + 1 + t) % U.length = o + 1 + t - U.length := by
              rw [← Int.sub_emod_right, Int.emod_eq_of_lt (by omega) (by omega)]
            rw [this]; omega
        have gen : ∀ q : Int, q = (o + 1 + t) % (U.length : Int) → q = (o + 1 + t) % (U.length : Int) := fun _ h => h
        walk_at "rdE"
        refine rd_cut (fun σ' H' => ∃ o t : Int, σ' = [some (.ref S.1), some (.ref pa), some (.ref la), some (.ref qa), some (.ref ea), some (.bl (decide (ch = 0))), some (.int i), some (.int o), some (.int t), y9, y10, y11] ∧ 0 ≤ o ∧ o < U.length ∧ 0 ≤ t ∧ t < U.length ∧ t ≠ o ∧ H' = H5) ?_ ?_
        · walk_at "rdE"
          refine if_dec (fun hc => ?_) (fun hc => ?_)
          · walk_at "rdE"
            refine ⟨pa, _, rfl, .inl (sl_of (hU.back e5').2), ?_⟩
            walk_at "rdE"
            rw [List.length_map]
            refine if_dec (fun hc2 => ?_) (fun hc2 => ?_)
            · walk_at "rdE"
              have t5 := Int.emod_nonneg ((o + 1 + t) % (U.length : Int)) (show (i : Int) + 1 ≠ 0 by omega)
              have t6 := Int.emod_lt_of_pos ((o + 1 + t) % (U.length : Int)) (show (0 : Int) < (i : Int) + 1 by omega)
              exact ⟨_, _, rfl, by omega, by omega, t5, by omega, by omega, rfl⟩
            · walk_at "rdE"
              exact ⟨o, ((o + 1 + t) % (U.length : Int)), rfl, o0, by omega, t2, t3, t4, rfl⟩
          · walk_at "rdE"
            exact ⟨o, ((o + 1 + t) % (U.length : Int)), rfl, o0, by omega, t2, t3, t4, rfl⟩
        · rintro σ' H6 ⟨o, t, rfl, o0, o1, t0, t1, ne, rfl⟩
          have e5'' := e4.trans e5
          have e5 := e5'
          obtain ⟨b1, a1⟩ := str_at o0 o1
          obtain ⟨b2, a2⟩ := str_at t0 t1
          have nxy : U[o.toNat] ≠ U[t.toNat] := fun q => ne (by have := nodup_get dU b1 b2 q; omega)
          have m1 := List.getElem_mem b1
          have m2 := List.getElem_mem b2
          generalize U[o.toNat] = x at a1 nxy m1
          generalize U[t.toNat] = y at a2 nxy m2
          walk_at "rdE"
          refine rd_ixL (hU.back e5).2 a1 ?_
          walk_at "rdE"
          refine rd_ixL (hU.back e5).2 a2 ?_
          walk_at "rdE"
          refine ⟨sz (by simp), fun ga nga => ?_⟩
          have g1 := hS5.ne1 nga
          have s7 := same_new (o := .lst [.str x, .str y]) nga
          have hS7 := hS5.new (o := .lst [.str x, .str y]) nga
          have e7 := e5.trans (ExS.new (S := S) (o := .lst [.str x, .str y]) nga)
          have hea7 := s7 _ _ (e5'' _ _ p1 hea)
          have hEA7 : ∀ e ∈ Es, At S (upd H6 ga (.lst [.str x, .str y])) e.a (.tup e.row) := fun e he => ((hEA e he).back e5'').back (ExS.new nga)
          walk_at "rdE"
          refine rd_cut (fun σ' H' => ∃ (g : Addr) (x y : Str) (y10 : Option V), σ' = [some (.ref S.1), some (.ref pa), some (.ref la), some (.ref qa), some (.ref ea), some (.bl (decide (ch = 0))), some (.int i), some (.int o), some (.int t), some (.ref g), y10, y11] ∧ x ∈ U ∧ y ∈ U ∧ x ≠ y ∧ At S H' g (.lst [.str x, .str y]) ∧ H' ea = some (.lst (Es.map fun e => V.ref e.a)) ∧ (∀ e ∈ Es, At S H' e.a (.tup e.row)) ∧ StoreOk S H' ∧ ExS S H H') ?_ ?_
          · walk_at "rdE"
            refine if_dec (fun hi0 => ?_) (fun hi0 => ?_)
            · walk_at "rdE"
              refine ⟨S, 6, rfl, by omega, hS7, fun r H8 r0 r1 hS8 e8 => ?_⟩
              have hg8 : At S H8 ga (.lst [.str x, .str y]) := ⟨g1, e8 _ _ g1 upd_same⟩
              have hea8 := e8 _ _ p1 hea7
              have hEA8 : ∀ e ∈ Es, At S H8 e.a (.tup e.row) := fun e he => (hEA7 e he).back e8
              walk_at "rdE"
              refine if_dec (fun h5 => ?_) (fun h5 => ?_)
              · walk_at "rdE"
                refine ⟨S, _, rfl, hS8, .inl ⟨ea, _, rfl, ⟨p1, hea8⟩, by rw [List.length_map]; omega, by rw [List.length_map]; omega, fun v H9 hv hS9 e9 => ?_⟩⟩
                obtain ⟨ed, hed, rfl⟩ := List.mem_map.mp hv
                have o := hE ed hed
                have hed9 := ((hEA8 ed hed).back e9).2
                walk_at "rdE"
                refine rd_ixQT hed9 rfl ?_
                walk_at "rdE"
                refine rd_ixQT hed9 rfl ?_
                walk_at "rdE"
                refine ⟨sz (by simp), fun gb ngb => ?_⟩
                exact ⟨gb, ed.y, ed.x, _, rfl, o.y, o.x, fun q => o.ne q.symm, .new hS9 ngb, same_new ngb _ _ (e9 _ _ p1 hea8), fun e he => ((hEA8 e he).back e9).back (ExS.new ngb), hS9.new ngb, ((e7.trans e8).trans e9).trans (ExS.new ngb)⟩
              · walk_at "rdE"
                exact ⟨ga, x, y, _, rfl, m1, m2, nxy, hg8, hea8, hEA8, hS8, e7.trans e8⟩
            · walk_at "rdE"
              exact ⟨ga, x, y, _, rfl, m1, m2, nxy, ⟨g1, upd_same⟩, hea7, hEA7, hS7, e7⟩
          · rintro σ' H8 ⟨g, x, y, y10, rfl, m1, m2, nxy, hg, hea8, hEA8, hS8, e8⟩
            walk_at "rdE"
            refine ⟨S, qa, ns, rfl, hS8, hN.back e8, n0, n1, fun q l hh H9 bl bh nc nq hq hS9 e9 => ?_⟩
            have e9' := e8.trans e9
            have hea9 := e9 _ _ p1 hea8
            walk_at "rdE"
            refine ⟨.inl ⟨rfl, _, .inl (.inl hea9)⟩, ?_⟩
            walk_at "rdE"
            obtain ⟨b3, a3⟩ := str_at (U := W) (i := (i : Int)) (by omega) (by omega)
            refine rd_ixL (hW.back e9').2 a3 ?_
            walk_at "rdE"
            refine rd_ixL (hg.back e9).2 rfl ?_
            walk_at "rdE"
            refine rd_ixL (hg.back e9).2 rfl ?_
            walk_at "rdE"
            refine rd_ixQT hq.2 rfl ?_
            walk_at "rdE"
            refine rd_ixQT hq.2 rfl ?_
            walk_at "rdE"
            refine ⟨sz (by simp), fun ta nta => ?_⟩
            have hea10 := same_new (o := .tup [.str (W[(i : Int).toNat]), .str x, .str y, l, hh]) nta _ _ hea9
            refine ⟨ea, _, _, rfl, rfl, hea10, by rw [List.length_map]; exact Nat.lt_of_le_of_lt (by omega : Es.length ≤ 26) (by decide), ?_⟩
            have nte : ta ≠ ea := (ne_of_none hea9 nta).symm
            have hSa := hS9.new (o := .tup [.str (W[(i : Int).toNat]), .str x, .str y, l, hh]) nta
            refine ⟨_, _, _, _, _, _, Es ++ [⟨ta, W[(i : Int).toNat], x, y, l, hh⟩], rfl, fun e he => ?_, ?_, by rw [upd_same, List.map_append]; rfl, fun e he => ?_, store_upd hSa p1 p2, (e9'.trans (ExS.new nta)).mut nea⟩
            · rcases List.mem_append.mp he with q1 | q1
              · exact hE e q1
              · rw [List.mem_singleton.mp q1]
                exact ⟨m1, m2, nxy, bl, bh, nc⟩
            · rw [List.map_append, hn, List.take_add_one, List.getElem?_eq_getElem hi]
              simp
            · rcases List.mem_append.mp he with q1 | q1
              · have hx := ((hEA8 e q1).back e9).back (ExS.new (o := .tup [.str (W[(i : Int).toNat]), .str x, .str y, l, hh]) nta)
                have ne2 : e.a ≠ ea := fun q2 => by have := hx.2; rw [q2, hea10] at this; cases this
                exact ⟨hx.1, by rw [upd_ne ne2]; exact hx.2⟩
              · rw [List.mem_singleton.mp q1]
                exact ⟨hS9.ne1 nta, by rw [upd_ne nte]; exact upd_same⟩
      · rintro σ H3 ⟨y6, y7, y8, y9, y10, y11, Es, rfl, hE, hn, hea, hEA, hS3, e3⟩
        walk_at "rdE"
        exact h ea Es H3 hE (.inr (by rw [hn]; simp)) nea ⟨p1, hea⟩ hEA hS3 e3
end
abbrev s_law_plan : Stmt := topS 56
theorem sc_law_plan : FnScope ["store", "lamps_top", "bonds_top", "pool", "many", "kind", "ties", "posts", "labels", "nodes", "post", "label"] ["store", "lamps_top", "bonds_top"] (defScope s_law_plan) := ⟨rfl, rfl, rfl, by decide +kernel, rfl, by decide +kernel, by decide +kernel⟩
theorem op_notIn_seqK {X : Cx} {K : PySem.W.Frag} (e : X.K = K) : OpR X (compareOp .NotIn) (rIn K true) := e ▸ op_notIn_seq
/-- a lamp's row, and where it lies -/
structure Nod where
  a : Addr
  n : Str
  b : V
def Nod.row (e : Nod) : List V := [.str e.n, e.b]
structure PlanD (Ns : List Nod) (Es : List Edg) (ns : List Int) : Prop where
  dn : (Ns.map (·.n)).Nodup
  gn : ∀ e ∈ Ns, isNm e.n = true ∧ Bar e.b
  l1 : 1 ≤ Ns.length
  l10 : Ns.length ≤ 10
  ee : ∀ e ∈ Es, EdOk (Ns.map (·.n)) e ∧ isNm e.n = true
  de : (Es.map (·.n)).Nodup
  l16 : Es.length ≤ 16
  p2 : 2 ≤ ns.length
  p6 : ns.length ≤ 6
  pr : ∀ n ∈ ns, InR n
  pw : ns.Pairwise (· < ·)
structure PlanAt (S : Sto) (H : Hp) (p na ea qa : Addr) (Ns : List Nod) (Es : List Edg) (ns : List Int) : Prop where
  hp : At S H p (.lst [.ref na, .ref ea, .ref qa])
  hn : At S H na (.lst (Ns.map fun e => V.ref e.a))
  he : At S H ea (.lst (Es.map fun e => V.ref e.a))
  hq : At S H qa (.lst (ns.map V.int))
  an : ∀ e ∈ Ns, At S H e.a (.tup e.row)
  ae : ∀ e ∈ Es, At S H e.a (.tup e.row)
section
variable {P : Program} {w : World} {K : PySem.W.Frag} {mg : Str → Option Value} {base : Heap}
def spPlan : Sp := fun vs H Q _ => ∃ S : Sto, ∃ lt bt : Nat, vs = [.ref S.1, .int lt, .int bt] ∧ 1 ≤ lt ∧ lt ≤ 10 ∧ bt ≤ 16 ∧ StoreOk S H ∧
  ∀ (p na ea qa : Addr) (Ns : List Nod) (Es : List Edg) (ns : List Int) (H' : Hp), PlanD Ns Es ns → PlanAt S H' p na ea qa Ns Es ns → H p = none → StoreOk S H' → ExS S H H' → Q (.ref p) H'
theorem ok_plan {k : Nat} {f : Addr} {fd : FuncData} (F : Fun K "_law_plan" "_law_plan" s_law_plan f fd) (T : Blt mg) (H_law_take : Has P w K mg base "_law_take" k ["store", "many"] spTake) (H_law_pool : Has P w K mg base "_law_pool" k ["store"] spPool) (H_law_names : Has P w K mg base "_law_names" k ["store", "many"] spNames)
    (H_law_bar : Has P w K mg base "_law_bar" k ["store", "pool"] spBar) (H_law_edges : Has P w K mg base "_law_edges" k ["store", "posts", "labels", "pool"] spEdges) : FnOk P w K mg base CX0 (k + 1) f fd ["store", "lamps_top", "bonds_top"] spPlan := by
  refine F.ok sc_law_plan (fun vs H Q E h => ?_) (fun cdv A outer s H vs Q E hr h => ?_)
  · obtain ⟨S, lt, bt, rfl, _⟩ := h; rfl
  · obtain ⟨S, lt, bt, rfl, lt1, lt10, bt16, hS, h⟩ := h
    refine ⟨_, (pss_cons (ps_set (i := 3) sc_law_plan.nd rfl (.inr rfl) (pe_callH H_law_pool hr (by rfl) (pa_cons (pv 0) pa_nil)))
 (pss_cons (ps_set (i := 4) sc_law_plan.nd rfl (.inl rfl) (pe_op op_add pe_int (pe_callH H_law_take hr (by rfl) (pa_cons (pv 0) (pa_cons pe_int pa_nil)))))
 (pss_cons (ps_set (i := 5) sc_law_plan.nd rfl (.inl rfl) (pe_callH H_law_take hr (by rfl) (pa_cons (pv 0) (pa_cons pe_int pa_nil))))
 (C8.pss_cut (ps_if (pt_cmpR op_eq (pv 5) pe_int (nomark _)) (pss_one (ps_set (i := 4) sc_law_plan.nd rfl (.inl rfl) pe_int)) pss_nil)
 (C8.pss_cut (ps_if (pt_cmpR op_eq (pv 5) pe_int (nomark _)) (pss_one (ps_set (i := 4) sc_law_plan.nd rfl (.inl rfl) (pv 1))) pss_nil)
 (pss_cons (ps_set (i := 6) sc_law_plan.nd rfl (.inl rfl) (pe_op op_add (pe_op op_sub (pv 4) pe_int) (pe_callH H_law_take hr (by rfl) (pa_cons (pv 0) (pa_cons pe_int pa_nil)))))
 (pss_cons (ps_set (i := 5) sc_law_plan.nd rfl (.inl rfl) (pe_callH H_law_take hr (by rfl) (pa_cons (pv 0) (pa_cons pe_int pa_nil))))
 (C8.pss_cut (ps_if (pt_cmpR op_eq (pv 5) pe_int (nomark _)) (pss_one (ps_set (i := 6) sc_law_plan.nd rfl (.inl rfl) pe_int)) pss_nil)
 (C8.pss_cut (ps_if (pt_cmpR op_eq (pv 5) pe_int (nomark _)) (pss_one (ps_set (i := 6) sc_law_plan.nd rfl (.inl rfl) (pv 2))) pss_nil)
 (pss_cons (ps_set (i := 7) sc_law_plan.nd rfl (.inr rfl) (pe_callH H_law_names hr (by rfl) (pa_cons (pv 0) (pa_cons (pv 4) pa_nil))))
 (pss_cons (ps_set (i := 8) sc_law_plan.nd rfl (.inl rfl) (pe_callH H_law_names hr (by rfl) (pa_cons (pv 0) (pa_cons (pv 6) pa_nil))))
 (C8.pss_cut (ps_if (pt_cmpR op_eq (pe_callH H_law_take hr (by rfl) (pa_cons (pv 0) (pa_cons pe_int pa_nil))) pe_int (nomark _)) (pss_one (ps_set (i := 8) sc_law_plan.nd rfl (.inl rfl) (pe_slice sl_list (pe_op op_cat (pv 7) (pe_lc (own := [("label", 11)]) (g := (gName 11)) (by rfl) sc_law_plan.nd (pi_list (pv 8)) (blkOk_by (own := [("label", 11)]) (N := ["store", "lamps_top", "bonds_top", "pool", "many", "kind", "ties", "posts", "labels", "nodes", "post", "label"]) (sc := defScope s_law_plan) (by decide +kernel)) (fun _ _ _ _ _ => (pg_name (i := 11) sc_law_plan.nd rfl (.inl rfl))) (fun _ _ _ _ _ => (pts_one (pt_cmpR (op_notIn_seqK (K := K) rfl) (pv 11) (pv 7) (by rfl)))) (fun _ _ _ _ _ => (pv 11)))) po_none (po_some (pv 6))))) pss_nil)
 (pss_cons (ps_setLc (i := 9) (own := [("post", 10)]) (g := (gName 10)) (by rfl) sc_law_plan.nd rfl rfl (sw_true rfl rfl rfl (by decide +kernel)) (pi_list (pv 7)) (blkOk_by (own := [("post", 10)]) (N := ["store", "lamps_top", "bonds_top", "pool", "many", "kind", "ties", "posts", "labels", "nodes", "post", "label"]) (sc := defScope s_law_plan) (by decide +kernel)) (fun _ _ _ _ _ => (pg_name (i := 10) sc_law_plan.nd rfl (.inl rfl))) (fun _ _ _ _ _ => pts_nil) (fun _ _ _ _ _ => (pe_tup (pa_cons (pv 10) (pa_cons (pe_callH H_law_bar hr (by rfl) (pa_cons (pv 0) (pa_cons (pv 3) pa_nil))) pa_nil)))))
 (pss_one (ps_ret (pe_lst (pa_cons (pv 9) (pa_cons (pe_callH H_law_edges hr (by rfl) (pa_cons (pv 0) (pa_cons (pv 7) (pa_cons (pv 8) (pa_cons (pv 3) pa_nil))))) (pa_cons (pv 3) pa_nil))))))))))))))))))), ?_⟩
    walk_at "rdE"
    refine ⟨S, rfl, hS, fun qa ns H1 hns pw p2 p6 hq hS1 e1 => ?_⟩
    walk_at "rdE"
    refine ⟨S, 5, rfl, by omega, hS1, fun m H2 m0 m1 hS2 e2 => ?_⟩
    walk_at "rdE"
    refine ⟨S, 10, rfl, by omega, hS2, fun kd H3 k0 k1 hS3 e3 => ?_⟩
    have e3' := (e1.trans e2).trans e3
    walk_at "rdE"
    refine rd_cut (fun σ' H' => ∃ m : Nat, σ' = [some (.ref S.1), some (.int lt), some (.int bt), some (.ref qa), some (.int m), some (.int kd), none, none, none, none, none, none] ∧ 1 ≤ m ∧ m ≤ 10 ∧ H' = H3) ?_ ?_
    · walk_at "rdE"
      refine if_dec (fun hk => ?_) (fun hk => ?_)
      · walk_at "rdE"
        exact ⟨1, rfl, by omega, by omega, rfl⟩
      · walk_at "rdE"
        obtain ⟨mn, rfl⟩ : ∃ n : Nat, m = n := ⟨m.toNat, by omega⟩
        exact ⟨2 + mn, rfl, by omega, by omega, rfl⟩
    · rintro σ' H4 ⟨m, rfl, m0, m1, rfl⟩
      refine rd_cut (fun σ' H' => ∃ m : Nat, σ' = [some (.ref S.1), some (.int lt), some (.int bt), some (.ref qa), some (.int m), some (.int kd), none, none, none, none, none, none] ∧ 1 ≤ m ∧ m ≤ 10 ∧ H' = H4) ?_ ?_
      · walk_at "rdE"
        refine if_dec (fun hk => ?_) (fun hk => ?_)
        · walk_at "rdE"
          exact ⟨lt, rfl, by omega, by omega, rfl⟩
        · walk_at "rdE"
          exact ⟨m, rfl, by omega, by omega, rfl⟩
      · rintro σ' H5 ⟨m, rfl, m0, m1, rfl⟩
        walk_at "rdE"
        refine ⟨S, 4, rfl, by omega, hS3, fun u H6 u0 u1 hS6 e6 => ?_⟩
        walk_at "rdE"
        refine ⟨S, 10, rfl, by omega, hS6, fun kd2 H7 k20 k21 hS7 e7 => ?_⟩
        have e7' := (e3'.trans e6).trans e7
        walk_at "rdE"
        refine rd_cut (fun σ' H' => ∃ t : Nat, σ' = [some (.ref S.1), some (.int lt), some (.int bt), some (.ref qa), some (.int m), some (.int kd2), some (.int t), none, none, none, none, none] ∧ t ≤ 16 ∧ H' = H7) ?_ ?_
        · walk_at "rdE"
          refine if_dec (fun hk => ?_) (fun hk => ?_)
          · walk_at "rdE"
            exact ⟨0, rfl, by omega, rfl⟩
          · walk_at "rdE"
            obtain ⟨un, rfl⟩ : ∃ n : Nat, u = n := ⟨u.toNat, by omega⟩
            obtain ⟨mn, rfl⟩ : ∃ n : Nat, m = n + 1 := ⟨m - 1, by omega⟩
            exact ⟨mn + un, by simp, by omega, rfl⟩
        · rintro σ' H8 ⟨t, rfl, t16, rfl⟩
          refine rd_cut (fun σ' H' => ∃ t : Nat, σ' = [some (.ref S.1), some (.int lt), some (.int bt), some (.ref qa), some (.int m), some (.int kd2), some (.int t), none, none, none, none, none] ∧ t ≤ 16 ∧ H' = H8) ?_ ?_
          · walk_at "rdE"
            refine if_dec (fun hk => ?_) (fun hk => ?_)
            · walk_at "rdE"
              exact ⟨bt, rfl, by omega, rfl⟩
            · walk_at "rdE"
              exact ⟨t, rfl, by omega, rfl⟩
          · rintro σ' H9 ⟨t, rfl, t16, rfl⟩
            walk_at "rdE"
            refine ⟨S, m, rfl, by omega, hS7, fun pa U H10 gU dU lU _ hpa hS10 e10 => ?_⟩
            walk_at "rdE"
            refine ⟨S, t, rfl, by omega, hS10, fun la W H11 gW dW lW _ hla hS11 e11 => ?_⟩
            have e11' := (e7'.trans e10).trans e11
            walk_at "rdE"
            refine rd_cut (fun σ' H' => ∃ (la : Addr) (W : List Str) (y10 y11 : Option V), σ' = [some (.ref S.1), some (.int lt), some (.int bt), some (.ref qa), some (.int m), some (.int kd2), some (.int t), some (.ref pa), some (.ref la), none, y10, y11] ∧ (∀ z ∈ W, isNm z = true) ∧ W.Nodup ∧ W.length ≤ 16 ∧ At S H' la (.lst (W.map V.str)) ∧ StoreOk S H' ∧ ExS S H11 H') ?_ ?_
            · walk_at "rdE"
              refine ⟨S, 4, rfl, by omega, hS11, fun r H12 r0 r1 hS12 e12 => ?_⟩
              walk_at "rdE"
              refine if_dec (fun hr3 => ?_) (fun hr3 => ?_)
              · walk_at "rdE"
                have hla12 := hla.back e12
                have hpa12 := (hpa.back e11).back e12
                refine ⟨la, rfl, ⟨_, sl_of hla12.2⟩, ?_⟩
                refine fun D nD => lc_list (xs := W.map V.str) (fun i H' => H' D = some (.lst (((W.take i).filter (fun z => decide (z ∉ U))).map V.str)) ∧ Same H12 H') ⟨upd_same, same_new nD⟩ (fun i H' _ hp => sl_of (hp.2 _ _ hla12.2)) ?_ ?_
                · rintro i x H' hx ⟨hD, sm⟩
                  obtain ⟨z, hz, rfl⟩ := get_strs hx
                  refine ⟨rfl, ?_⟩
                  have stp : (W.take (i + 1)).filter (fun z => decide (z ∉ U)) = (W.take i).filter (fun z => decide (z ∉ U)) ++ (if z ∈ U then [] else [z]) := by
                    rw [List.take_add_one, hz, List.filter_append]
                    by_cases q : z ∈ U <;> simp [q]
                  walk_at "rdE"
                  refine ⟨pa, _, rfl, .inl (sl_of (sm _ _ hpa12.2)), rfl, flat_strs _, ?_⟩
                  rw [inV_strs]
                  refine ⟨_, rfl, ?_⟩
                  refine if_ndec (fun hn => ?_) (fun hn => ?_)
                  · walk_at "rdE"
                    refine ⟨_, hD, ?_, ?_, same_mut sm nD⟩
                    · rw [List.length_map]
                      have h1 := List.length_filter_le (fun z => decide (z ∉ U)) (W.take i)
                      have h2 : (W.take i).length ≤ 16 := by rw [List.length_take]; omega
                      exact Nat.lt_of_le_of_lt (by omega : _ ≤ 16) (by decide)
                    · rw [upd_same, stp, if_neg hn, List.map_append]; rfl
                  · refine ⟨?_, sm⟩
                    rw [stp, if_pos hn, List.append_nil]; exact hD
                · rintro H' ⟨hD, sm⟩
                  rw [List.length_map, List.take_length] at hD
                  walk_at "rdE"
                  have hf := List.length_filter_le (fun z => decide (z ∉ U)) W
                  have fW : ∀ z ∈ W.filter (fun z => decide (z ∉ U)), z ∈ W ∧ z ∉ U := fun z hz => by simpa using hz
                  have dF : (W.filter (fun z => decide (z ∉ U))).Nodup := dW.filter _
                  generalize W.filter (fun z => decide (z ∉ U)) = G at *
                  refine ⟨pa, D, _, _, rfl, rfl, sm _ _ hpa12.2, hD, sz (by rw [List.length_map, List.length_map]; omega), fun x1 n1 => ?_⟩
                  walk_at "rdE"
                  refine ⟨x1, _, rfl, sl_of upd_same, fun x2 n2 => ?_⟩
                  have hSx := hS12.same sm
                  have dA : (U ++ G).Nodup := by
                    rw [List.nodup_append]
                    exact ⟨dU, dF, fun a ha b hb e => by rw [← e] at hb; exact (fW a hb).2 ha⟩
                  have ec : cutV (U.map V.str ++ G.map V.str) none (some (t : Int)) = ((U ++ G).take t).map V.str := by
                    rw [cut_to, ← List.map_append, List.map_take]
                  rw [ec]
                  refine ⟨x2, _, _, _, rfl, fun z hz => ?_, dA.sublist (List.take_sublist _ _), by rw [List.length_take]; omega, .new (hSx.new n1) n2, (hSx.new n1).new n2, ((e12.trans (same_ex sm)).trans (ExS.new n1)).trans (ExS.new n2)⟩
                  rcases List.mem_append.mp (List.mem_of_mem_take hz) with q | q
                  · exact gU z q
                  · exact gW z (fW z q).1
              · walk_at "rdE"
                exact ⟨la, W, _, _, rfl, gW, dW, by omega, hla.back e12, hS12, e12⟩
            · rintro σ' H12 ⟨la, W, y10, y11, rfl, gW, dW, lW, hla, hS12, e12⟩
              walk_at "rdE"
              have hpa12 := (hpa.back e11).back e12
              have hq12 : At S H12 qa (.lst (ns.map V.int)) := ((((hq.back e2).back e3).back (e6.trans e7)).back (e10.trans e11)).back e12
              have eA := e11'.trans e12
              refine ⟨pa, rfl, ⟨_, sl_of hpa12.2⟩, ?_⟩
              refine fun D nD => lc_list (xs := U.map V.str) (fun i H' => ∃ Ns : List Nod, Ns.map (·.n) = U.take i ∧ H' D = some (.lst (Ns.map fun e => V.ref e.a)) ∧ (∀ e ∈ Ns, At S H' e.a (.tup e.row) ∧ Bar e.b) ∧ StoreOk S H' ∧ ExS S H12 H' ∧ D ≠ S.1 ∧ D ≠ S.2) ⟨[], rfl, upd_same, by simp, hS12.new nD, ExS.new nD, hS12.ne1 nD, hS12.ne2 nD⟩ (fun i H' _ hp => ?_) ?_ ?_
              · obtain ⟨Ns, _, _, _, _, e6, _⟩ := hp
                exact sl_of (hpa12.back e6).2
              · rintro i x H13 hx ⟨Ns, hn, hD, hA, hS13, e13, d1, d2⟩
                obtain ⟨z, hz, rfl⟩ := get_strs hx
                refine ⟨rfl, ?_⟩
                walk_at "rdE"
                refine ⟨S, qa, ns, rfl, hS13, hq12.back e13, hns, by omega, by omega, fun v H14 bv hS14 e14 => ?_⟩
                have hD14 := e14 _ _ d1 hD
                walk_at "rdE"
                refine ⟨sz (by simp), fun ta nta => ?_⟩
                have hD15 := same_new (o := .tup [.str z, v]) nta _ _ hD14
                have lN : Ns.length ≤ 10 := by
                  have := congrArg List.length hn
                  rw [List.length_map, List.length_take] at this
                  omega
                have nte : ta ≠ D := (ne_of_none hD14 nta).symm
                refine ⟨_, hD15, by rw [List.length_map]; exact Nat.lt_of_le_of_lt lN (by decide), Ns ++ [⟨ta, z, v⟩], ?_, by rw [upd_same, List.map_append]; rfl, fun e he => ?_, store_upd (hS14.new nta) d1 d2, ((e13.trans e14).trans (ExS.new nta)).mut nD, d1, d2⟩
                · rw [List.map_append, hn, List.take_add_one, hz]; rfl
                · rcases List.mem_append.mp he with q1 | q1
                  · obtain ⟨ha, hb⟩ := hA e q1
                    have hx := (ha.back e14).back (ExS.new (o := .tup [.str z, v]) nta)
                    have ne2 : e.a ≠ D := fun q2 => by have := hx.2; rw [q2, hD15] at this; cases this
                    exact ⟨⟨hx.1, by rw [upd_ne ne2]; exact hx.2⟩, hb⟩
                  · rw [List.mem_singleton.mp q1]
                    exact ⟨⟨hS14.ne1 nta, by rw [upd_ne nte]; exact upd_same⟩, bv⟩
              · rintro H13 ⟨Ns, hn, hD, hA, hS13, e13, d1, d2⟩
                have hn : Ns.map (·.n) = U := by rw [hn, List.length_map, List.take_length]
                have lN : Ns.length = m := by rw [← lU, ← hn, List.length_map]
                walk_at "rdE"
                refine ⟨S, pa, la, qa, U, W, ns, rfl, hS13, hpa12.back e13, hla.back e13, hq12.back e13, dU, by omega, by omega, by omega, by omega, fun ea Es H14 hE hW _ hea hEA hS14 e14 => ?_⟩
                walk_at "rdE"
                refine ⟨sz (by simp), fun lp nlp => ?_⟩
                have eB := (eA.trans e13).trans e14
                have eN := ExS.new (S := S) (o := .lst [.ref D, .ref ea, .ref qa]) nlp
                refine h lp D ea qa Ns Es ns _ ⟨by rw [hn]; exact dU, fun e he => ⟨gU _ (by rw [← hn]; exact List.mem_map_of_mem he), (hA e he).2⟩, by omega, by omega, fun e he => ⟨by rw [hn]; exact hE e he, ?_⟩, ?_, ?_, p2, p6, hns, pw⟩ ⟨.new hS14 nlp, (At.back e14 ⟨d1, hD⟩).back eN, hea.back eN, ((hq12.back e13).back e14).back eN, fun e he => ((hA e he).1.back e14).back eN, fun e he => (hEA e he).back eN⟩ (eB.free hS14 nlp) (hS14.new nlp) (eB.trans eN)
                · rcases hW with rfl | hW
                  · cases he
                  · exact gW _ (by rw [← hW]; exact List.mem_map_of_mem he)
                · rcases hW with rfl | hW
                  · exact List.nodup_nil
                  · rw [hW]; exact dW
                · rcases hW with rfl | hW
                  · exact Nat.zero_le _
                  · have := congrArg List.length hW
                    rw [List.length_map] at this
                    omega
end
abbrev sBadNumber___init__ : Stmt := inClass (topS 4) 0
theorem scBadNumber___init__ : FnScope ["self", "number"] ["self", "number"] (defScope sBadNumber___init__) := ⟨rfl, rfl, rfl, by decide +kernel, rfl, by decide +kernel, by decide +kernel⟩
abbrev sBadSpan___init__ : Stmt := inClass (topS 5) 0
theorem scBadSpan___init__ : FnScope ["self", "low", "high"] ["self", "low", "high"] (defScope sBadSpan___init__) := ⟨rfl, rfl, rfl, by decide +kernel, rfl, by decide +kernel, by decide +kernel⟩
abbrev sis_number : Stmt := topS 12
theorem scis_number : FnScope ["value"] ["value"] (defScope sis_number) := ⟨rfl, rfl, rfl, by decide +kernel, rfl, by decide +kernel, by decide +kernel⟩
abbrev scheck_number : Stmt := topS 13
theorem sccheck_number : FnScope ["value"] ["value"] (defScope scheck_number) := ⟨rfl, rfl, rfl, by decide +kernel, rfl, by decide +kernel, by decide +kernel⟩
abbrev scheck_open_number : Stmt := topS 14
theorem sccheck_open_number : FnScope ["value"] ["value"] (defScope scheck_open_number) := ⟨rfl, rfl, rfl, by decide +kernel, rfl, by decide +kernel, by decide +kernel⟩
abbrev sare_crossed : Stmt := topS 16
theorem scare_crossed : FnScope ["low", "high"] ["low", "high"] (defScope sare_crossed) := ⟨rfl, rfl, rfl, by decide +kernel, rfl, by decide +kernel, by decide +kernel⟩
abbrev scheck_low_high : Stmt := topS 15
theorem sccheck_low_high : FnScope ["low", "high"] ["low", "high"] (defScope scheck_low_high) := ⟨rfl, rfl, rfl, by decide +kernel, rfl, by decide +kernel, by decide +kernel⟩
abbrev sSpan___init__ : Stmt := inClass (topS 22) 0
theorem scSpan___init__ : FnScope ["self", "low", "high"] ["self", "low", "high"] (defScope sSpan___init__) := ⟨rfl, rfl, rfl, by decide +kernel, rfl, by decide +kernel, by decide +kernel⟩
abbrev sSpan___contains__ : Stmt := inClass (topS 22) 2
theorem scSpan___contains__ : FnScope ["self", "light", "above_low"] ["self", "light"] (defScope sSpan___contains__) := ⟨rfl, rfl, rfl, by decide +kernel, rfl, by decide +kernel, by decide +kernel⟩
abbrev sBadName___init__ : Stmt := inClass (topS 3) 0
theorem scBadName___init__ : FnScope ["self", "name"] ["self", "name"] (defScope sBadName___init__) := ⟨rfl, rfl, rfl, by decide +kernel, rfl, by decide +kernel, by decide +kernel⟩
abbrev sis_name : Stmt := topS 32
theorem scis_name : FnScope ["text", "sign"] ["text"] (defScope sis_name) := ⟨rfl, rfl, rfl, by decide +kernel, rfl, by decide +kernel, by decide +kernel⟩
abbrev sDoubled___init__ : Stmt := inClass (topS 6) 0
theorem scDoubled___init__ : FnScope ["self", "name"] ["self", "name"] (defScope sDoubled___init__) := ⟨rfl, rfl, rfl, by decide +kernel, rfl, by decide +kernel, by decide +kernel⟩
abbrev scheck_name : Stmt := topS 33
theorem sccheck_name : FnScope ["text"] ["text"] (defScope scheck_name) := ⟨rfl, rfl, rfl, by decide +kernel, rfl, by decide +kernel, by decide +kernel⟩
abbrev scheck_unlike : Stmt := topS 24
theorem sccheck_unlike : FnScope ["items", "seen", "item"] ["items"] (defScope scheck_unlike) := ⟨rfl, rfl, rfl, by decide +kernel, rfl, by decide +kernel, by decide +kernel⟩
abbrev sSelfBond___init__ : Stmt := inClass (topS 7) 0
theorem scSelfBond___init__ : FnScope ["self", "bond"] ["self", "bond"] (defScope sSelfBond___init__) := ⟨rfl, rfl, rfl, by decide +kernel, rfl, by decide +kernel, by decide +kernel⟩
abbrev sUnknown___init__ : Stmt := inClass (topS 8) 0
theorem scUnknown___init__ : FnScope ["self", "name"] ["self", "name"] (defScope sUnknown___init__) := ⟨rfl, rfl, rfl, by decide +kernel, rfl, by decide +kernel, by decide +kernel⟩
abbrev sOutOfRange___init__ : Stmt := inClass (topS 9) 0
theorem scOutOfRange___init__ : FnScope ["self", "number", "low", "high"] ["self", "number", "low", "high"] (defScope sOutOfRange___init__) := ⟨rfl, rfl, rfl, by decide +kernel, rfl, by decide +kernel, by decide +kernel⟩
abbrev scheck_between : Stmt := topS 25
theorem sccheck_between : FnScope ["number", "low", "high"] ["number", "low", "high"] (defScope scheck_between) := ⟨rfl, rfl, rfl, by decide +kernel, rfl, by decide +kernel, by decide +kernel⟩
abbrev slook_up : Stmt := topS 26
theorem sclook_up : FnScope ["table", "name"] ["table", "name"] (defScope slook_up) := ⟨rfl, rfl, rfl, by decide +kernel, rfl, by decide +kernel, by decide +kernel⟩
local macro_rules | `(tactic| walk_at "sideF") => `(tactic| first | assumption | exact Z.sl_of (by assumption) | exact upd_same | (show (0 : Int) < _; omega) | exact Or.inl ⟨by omega, by omega⟩ | exact Or.inr ⟨by omega, by omega⟩)
local macro_rules | `(tactic| walk_at "wiped") => `(tactic| (repeat rw [Z.wipe_set (by decide)]) <;> first | rfl | exact Z.wipe_wipe)
local macro_rules | `(tactic| walk_at "tyofF") => `(tactic| first | exact TyOf.int _ | exact TyOf.bl _ | exact TyOf.non | exact TyOf.str _ | (apply TyOf.lst; assumption) | (apply TyOf.tup; assumption))
local macro_rules | `(tactic| walk_at "rd1F") => `(tactic| ((with_reducible refine rd_ixL (xs := ?xs) (v := ?v) ?hh ?he ?_); (case hh => first | exact upd_same | assumption); (case he => exact rfl)))
local macro_rules | `(tactic| walk_at "rd1F") => `(tactic| ((with_reducible refine rd_I ?hc ?_); (case hc => walk_at "sideF")))
local macro_rules | `(tactic| walk_at "rd1F") => `(tactic| ((with_reducible refine rd_isiT (b := ?b) (by assumption) ?k ?_); (case k => with_reducible first | exact kb_tuple_int | exact kb_tuple_bool | exact kb_tuple_str | exact kb_tuple_dict | exact kb_tuple_list | exact kb_tuple_tuple)))
local macro_rules | `(tactic| walk_at "rd1F") => `(tactic| ((with_reducible refine rd_isiL (b := ?b) (by assumption) ?k ?_); (case k => with_reducible first | exact kb_list_int | exact kb_list_bool | exact kb_list_str | exact kb_list_dict | exact kb_list_list | exact kb_list_tuple)))
local macro_rules | `(tactic| walk_at "rd1F") => `(tactic| ((with_reducible refine rd_isi (a := ?a) (b := ?b) ?ty ?k ?_); (case ty => first | exact TyOf.int _ | exact TyOf.bl _ | exact TyOf.non | exact TyOf.str _); (case k => with_reducible first | exact kb_int_int | exact kb_int_bool | exact kb_int_str | exact kb_int_dict | exact kb_int_list | exact kb_int_tuple | exact kb_bool_int | exact kb_bool_bool | exact kb_bool_str | exact kb_bool_dict | exact kb_bool_list | exact kb_bool_tuple | exact kb_NoneType_int | exact kb_NoneType_bool | exact kb_NoneType_str | exact kb_NoneType_dict | exact kb_NoneType_list | exact kb_NoneType_tuple | exact kb_str_int | exact kb_str_bool | exact kb_str_str | exact kb_str_dict | exact kb_str_list | exact kb_str_tuple)))
local macro_rules | `(tactic| walk_at "rd1F") => `(tactic| ((with_reducible refine rd_setS (j := ?j) ?he ?_); (case he => exact rfl)))
local macro_rules | `(tactic| walk_at "rd1F") => `(tactic| ((with_reducible refine rd_var (v := ?v) ?hv ?_); (case hv => exact rfl)))
local macro_rules | `(tactic| walk_at "rd1F") => `(tactic| with_reducible refine rd_asgT ?_)
local macro_rules | `(tactic| walk_at "rd1F") => `(tactic| with_reducible refine rd_gNm ?_)
local macro_rules | `(tactic| walk_at "rd1F") => `(tactic| with_reducible refine rd_gN ?_)
local macro_rules | `(tactic| walk_at "rd1F") => `(tactic| with_reducible refine rd_gC ?_)
local macro_rules | `(tactic| walk_at "rd1F") => `(tactic| with_reducible refine rd_frz ?_)
local macro_rules | `(tactic| walk_at "rd1F") => `(tactic| with_reducible refine rd_dc ?_)
local macro_rules | `(tactic| walk_at "rd1F") => `(tactic| with_reducible refine rd_iOwn ?_)
local macro_rules | `(tactic| walk_at "rd1F") => `(tactic| with_reducible refine rd_iItems ?_)
local macro_rules | `(tactic| walk_at "rd1F") => `(tactic| with_reducible refine rd_li ?_)
local macro_rules | `(tactic| walk_at "rd1F") => `(tactic| with_reducible refine rd_din ?_)
local macro_rules | `(tactic| walk_at "rd1F") => `(tactic| with_reducible refine rd_dget ?_)
local macro_rules | `(tactic| walk_at "rd1F") => `(tactic| with_reducible refine rd_mtN ?_)
local macro_rules | `(tactic| walk_at "rd1F") => `(tactic| with_reducible refine rd_mt ?_)
local macro_rules | `(tactic| walk_at "rd1F") => `(tactic| with_reducible refine rd_smI ?_)
local macro_rules | `(tactic| walk_at "rd1F") => `(tactic| with_reducible refine rd_smK ?_)
local macro_rules | `(tactic| walk_at "rd1F") => `(tactic| with_reducible refine rd_sm ?_)
local macro_rules | `(tactic| walk_at "rd1F") => `(tactic| with_reducible refine rd_prop ?_)
local macro_rules | `(tactic| walk_at "rd1F") => `(tactic| with_reducible refine rd_st2 ?_)
local macro_rules | `(tactic| walk_at "rd1F") => `(tactic| with_reducible refine rd_nl ?_)
local macro_rules | `(tactic| walk_at "rd1F") => `(tactic| with_reducible refine rd_st1 ?_)
local macro_rules | `(tactic| walk_at "rd1F") => `(tactic| with_reducible refine rd_fmt ?_)
local macro_rules | `(tactic| walk_at "rd1F") => `(tactic| with_reducible refine rd_js0 ?_)
local macro_rules | `(tactic| walk_at "rd1F") => `(tactic| with_reducible refine rd_js ?_)
local macro_rules | `(tactic| walk_at "rd1F") => `(tactic| with_reducible refine rd_neS ?_)
local macro_rules | `(tactic| walk_at "rd1F") => `(tactic| with_reducible refine rd_isS ?_)
local macro_rules | `(tactic| walk_at "rd1F") => `(tactic| with_reducible refine rd_m1 ?_)
local macro_rules | `(tactic| walk_at "rd1F") => `(tactic| with_reducible refine rd_m0 ?_)
local macro_rules | `(tactic| walk_at "rd1F") => `(tactic| with_reducible refine rd_pass ?_)
local macro_rules | `(tactic| walk_at "rd1F") => `(tactic| with_reducible refine rd_raise ?_)
local macro_rules | `(tactic| walk_at "rd1F") => `(tactic| with_reducible refine rd_iSeq ?_)
local macro_rules | `(tactic| walk_at "rd1F") => `(tactic| with_reducible refine rd_iStr ?_)
local macro_rules | `(tactic| walk_at "rd1F") => `(tactic| with_reducible refine rd_si ?_)
local macro_rules | `(tactic| walk_at "rd1F") => `(tactic| with_reducible refine rd_ii ?_)
local macro_rules | `(tactic| walk_at "rd1F") => `(tactic| with_reducible refine rd_callSD ?_)
local macro_rules | `(tactic| walk_at "rd1F") => `(tactic| with_reducible refine rd_callNS ?_)
local macro_rules | `(tactic| walk_at "rd1F") => `(tactic| with_reducible refine rd_yes ?_)
local macro_rules | `(tactic| walk_at "rd1F") => `(tactic| with_reducible refine rd_dnotin ?_)
local macro_rules | `(tactic| walk_at "rd1F") => `(tactic| with_reducible refine rd_dput ?_)
local macro_rules | `(tactic| walk_at "rd1F") => `(tactic| with_reducible refine rd_dnewK ?_)
local macro_rules | `(tactic| walk_at "rd1F") => `(tactic| with_reducible refine rd_lrv ?_)
local macro_rules | `(tactic| walk_at "rd1F") => `(tactic| with_reducible refine rd_makeS ?_)
local macro_rules | `(tactic| walk_at "rd1F") => `(tactic| with_reducible refine rd_make ?_)
local macro_rules | `(tactic| walk_at "rd1F") => `(tactic| with_reducible refine rd_sfld ?_)
local macro_rules | `(tactic| walk_at "rd1F") => `(tactic| with_reducible refine rd_fld ?_)
local macro_rules | `(tactic| walk_at "rd1F") => `(tactic| with_reducible refine rd_i1 ?_)
local macro_rules | `(tactic| walk_at "rd1F") => `(tactic| with_reducible refine rd_s1 ?_)
local macro_rules | `(tactic| walk_at "rd1F") => `(tactic| with_reducible refine rd_ss ?_)
local macro_rules | `(tactic| walk_at "rd1F") => `(tactic| with_reducible refine rd_p40 ?_)
local macro_rules | `(tactic| walk_at "rd1F") => `(tactic| with_reducible refine rd_p30 ?_)
local macro_rules | `(tactic| walk_at "rd1F") => `(tactic| with_reducible refine rd_p18 ?_)
local macro_rules | `(tactic| walk_at "rd1F") => `(tactic| with_reducible refine rd_p13 ?_)
local macro_rules | `(tactic| walk_at "rd1F") => `(tactic| with_reducible refine rd_p12 ?_)
local macro_rules | `(tactic| walk_at "rd1F") => `(tactic| with_reducible refine rd_p11 ?_)
local macro_rules | `(tactic| walk_at "rd1F") => `(tactic| with_reducible refine rd_p9 ?_)
local macro_rules | `(tactic| walk_at "rd1F") => `(tactic| with_reducible refine rd_xf ?_)
local macro_rules | `(tactic| walk_at "rd1F") => `(tactic| with_reducible refine rd_ckw ?_)
local macro_rules | `(tactic| walk_at "rd1F") => `(tactic| with_reducible refine rd_mkO ?_)
local macro_rules | `(tactic| walk_at "rd1F") => `(tactic| with_reducible refine rd_callKS ?_)
local macro_rules | `(tactic| walk_at "rd1F") => `(tactic| with_reducible refine rd_callS ?_)
local macro_rules | `(tactic| walk_at "rd1F") => `(tactic| with_reducible refine rd_lc ?_)
local macro_rules | `(tactic| walk_at "rd1F") => `(tactic| with_reducible refine rd_iTup ?_)
local macro_rules | `(tactic| walk_at "rd1F") => `(tactic| with_reducible refine rd_iList ?_)
local macro_rules | `(tactic| walk_at "rd1F") => `(tactic| with_reducible refine rd_iRng1 ?_)
local macro_rules | `(tactic| walk_at "rd1F") => `(tactic| with_reducible refine rd_for ?_)
local macro_rules | `(tactic| walk_at "rd1F") => `(tactic| with_reducible refine rd_nopart ?_)
local macro_rules | `(tactic| walk_at "rd1F") => `(tactic| with_reducible refine rd_part ?_)
local macro_rules | `(tactic| walk_at "rd1F") => `(tactic| with_reducible refine rd_neB ?_)
local macro_rules | `(tactic| walk_at "rd1F") => `(tactic| with_reducible refine rd_eqS ?_)
local macro_rules | `(tactic| walk_at "rd1F") => `(tactic| with_reducible refine rd_eqB ?_)
local macro_rules | `(tactic| walk_at "rd1F") => `(tactic| with_reducible refine if_nN_ref ?_)
local macro_rules | `(tactic| walk_at "rd1F") => `(tactic| with_reducible refine if_nN_str ?_)
local macro_rules | `(tactic| walk_at "rd1F") => `(tactic| with_reducible refine if_nN_bl ?_)
local macro_rules | `(tactic| walk_at "rd1F") => `(tactic| with_reducible refine if_nN_int ?_)
local macro_rules | `(tactic| walk_at "rd1F") => `(tactic| with_reducible refine if_n_ref ?_)
local macro_rules | `(tactic| walk_at "rd1F") => `(tactic| with_reducible refine if_n_str ?_)
local macro_rules | `(tactic| walk_at "rd1F") => `(tactic| with_reducible refine if_n_bl ?_)
local macro_rules | `(tactic| walk_at "rd1F") => `(tactic| with_reducible refine if_n_int ?_)
local macro_rules | `(tactic| walk_at "rd1F") => `(tactic| with_reducible refine if_nnN ?_)
local macro_rules | `(tactic| walk_at "rd1F") => `(tactic| with_reducible refine if_nt ?_)
local macro_rules | `(tactic| walk_at "rd1F") => `(tactic| with_reducible refine if_nf ?_)
local macro_rules | `(tactic| walk_at "rd1F") => `(tactic| with_reducible refine if_nn ?_)
local macro_rules | `(tactic| walk_at "rd1F") => `(tactic| with_reducible refine iteF ?_)
local macro_rules | `(tactic| walk_at "rd1F") => `(tactic| with_reducible refine iteT ?_)
local macro_rules | `(tactic| walk_at "rd1F") => `(tactic| with_reducible refine rd_asgS ?_)
local macro_rules | `(tactic| walk_at "rd1F") => `(tactic| with_reducible refine rd_chain ?_)
local macro_rules | `(tactic| walk_at "rd1F") => `(tactic| with_reducible refine rd_bm ?_)
local macro_rules | `(tactic| walk_at "rd1F") => `(tactic| with_reducible refine rd_sl ?_)
local macro_rules | `(tactic| walk_at "rd1F") => `(tactic| with_reducible refine rd_tup ?_)
local macro_rules | `(tactic| walk_at "rd1F") => `(tactic| with_reducible refine rd_lst ?_)
local macro_rules | `(tactic| walk_at "rd1F") => `(tactic| with_reducible refine rd_neI ?_)
local macro_rules | `(tactic| walk_at "rd1F") => `(tactic| with_reducible refine rd_if ?_)
local macro_rules | `(tactic| walk_at "rd1F") => `(tactic| with_reducible refine rd_notV ?_)
local macro_rules | `(tactic| walk_at "rd1F") => `(tactic| with_reducible refine rd_orV ?_)
local macro_rules | `(tactic| walk_at "rd1F") => `(tactic| with_reducible refine rd_andV ?_)
local macro_rules | `(tactic| walk_at "rd1F") => `(tactic| with_reducible refine rd_drop ?_)
local macro_rules | `(tactic| walk_at "rd1F") => `(tactic| with_reducible refine rd_next ?_)
local macro_rules | `(tactic| walk_at "rd1F") => `(tactic| with_reducible refine rd_U ?_)
local macro_rules | `(tactic| walk_at "rd1F") => `(tactic| with_reducible refine rd_un ?_)
local macro_rules | `(tactic| walk_at "rd1F") => `(tactic| with_reducible refine rd_or ?_)
local macro_rules | `(tactic| walk_at "rd1F") => `(tactic| with_reducible refine rd_and ?_)
local macro_rules | `(tactic| walk_at "rd1F") => `(tactic| with_reducible refine rd_not ?_)
local macro_rules | `(tactic| walk_at "rd1F") => `(tactic| with_reducible refine rd_tB ?_)
local macro_rules | `(tactic| walk_at "rd1F") => `(tactic| with_reducible refine rd_test ?_)
local macro_rules | `(tactic| walk_at "rd1F") => `(tactic| with_reducible refine rd_ifS ?_)
local macro_rules | `(tactic| walk_at "rd1F") => `(tactic| with_reducible refine rd_ret ?_)
local macro_rules | `(tactic| walk_at "rd1F") => `(tactic| with_reducible refine rd_min2 ?_)
local macro_rules | `(tactic| walk_at "rd1F") => `(tactic| with_reducible refine rd_max2 ?_)
local macro_rules | `(tactic| walk_at "rd1F") => `(tactic| with_reducible refine rd_int1 ?_)
local macro_rules | `(tactic| walk_at "rd1F") => `(tactic| with_reducible refine rd_nn ?_)
local macro_rules | `(tactic| walk_at "rd1F") => `(tactic| with_reducible refine rd_bx ?_)
local macro_rules | `(tactic| walk_at "rd1F") => `(tactic| with_reducible refine rd_eqI ?_)
local macro_rules | `(tactic| walk_at "rd1F") => `(tactic| with_reducible refine rd_I0 ?_)
local macro_rules | `(tactic| walk_at "rd1F") => `(tactic| with_reducible refine rd_call ?_)
local macro_rules | `(tactic| walk_at "rd1F") => `(tactic| with_reducible refine rd_cb ?_)
local macro_rules | `(tactic| walk_at "rd1F") => `(tactic| with_reducible refine rd_nil ?_)
local macro_rules | `(tactic| walk_at "rd1F") => `(tactic| with_reducible refine rd_cons ?_)
local macro_rules | `(tactic| walk_at "rd1F") => `(tactic| with_reducible refine rd_op ?_)
local macro_rules | `(tactic| walk_at "rd1F") => `(tactic| with_reducible refine rd_c ?_)
local macro_rules | `(tactic| walk_at "rd1F") => `(tactic| with_reducible refine rd_asg ?_)
local macro_rules | `(tactic| walk_at "rd1F") => `(tactic| with_reducible refine rd_seq ?_)
local macro_rules | `(tactic| walk_at "rdF") => `(tactic| repeat walk_at "rd1F")
theorem hu_of' {A : Around} {k : Nat} (hr : Room k A) : A.units + 1 < cLine := hu_of hr
structure HasMk (P : Program) (w : World) (K : PySem.W.Frag) (mg : Str → Option Value) (base : Heap) (CX : CXT) (C : Addr) (x : Str) (k : Nat) (ps : List Str) (dvs : List V) (sp : Sp) : Prop where
  ex : ∃ f fd ds, FnOk P w K mg base CX k f fd ps sp ∧ Mk K C f ∧ mg x = some (.ref C) ∧ Vals dvs ds ∧ Binds K fd ps ds
theorem HasMk.mono {P : Program} {w : World} {K : PySem.W.Frag} {mg : Str → Option Value} {base : Heap} {CX : CXT} {C : Addr} {x : Str} {j k : Nat} {ps : List Str} {dvs : List V} {sp : Sp} (h : HasMk P w K mg base CX C x j ps dvs sp) (l : j ≤ k) : HasMk P w K mg base CX C x k ps dvs sp := by
  obtain ⟨f, fd, ds, F, r⟩ := h.ex
  exact ⟨f, fd, ds, F.mono l, r⟩
theorem pe_makeHS {X : Cx} {CX : CXT} {C : Addr} {x : Str} {k : Nat} {ps : List Str} {dvs : List V} {sp : Sp} {E : L2.St → XK} {p pos : Pos} {e : Expr} {es : List Expr} {t : TA} (h : HasMk X.prog X.w X.K X.mg X.base CX C x k ps dvs sp) (hr : Room (k + 1) X.A) (hg : Gl X x) (hx : ∀ σ, PassesAt CX X σ (E σ)) (ha : PA X (e :: es) t)
    (hdb : (x == ("__debug__" : Str)) = false := by decide) (he : starEach (e :: es) X.env = (false, eval e X.env) :: starEach es X.env := by rfl) (hpl : (backTo pos (starEach es X.env)).any (·.1) = false := by rfl) :
    PE X (.Call (.Name x p) (e :: es) [] pos) (tMakeS C sp dvs E t) := by
  obtain ⟨f, fd, ds, F, M, hm, hd, hb⟩ := h.ex
  exact pe_makeS M F hr hg hm hb hd hx ha hdb he hpl
def spIsNum : Sp := fun vs H Q _ => ∃ v, vs = [v] ∧ Sc v ∧ Q (.bl (isNum v)) H
def spIsName : Sp := fun vs H Q _ => ∃ z : Str, vs = [.str z] ∧ z.length ≤ 1000 ∧ ∀ H', Same H H' → Q (.bl (isNm z)) H'
section
variable {P : Program} {w : World} {K : PySem.W.Frag} {mg : Str → Option Value} {base : Heap} {C CE CB CD : Addr}
theorem ok_BadNumber_init {k : Nat} {f : Addr} {fd : FuncData} (F : Fun K "__init__" "BadNumber.__init__" sBadNumber___init__ f fd) : FnOk P w K mg base CX0 (k + 1) f fd ["self", "number"] (spInit1 K "number") := by
  refine F.ok scBadNumber___init__ (fun vs H Q E h => ?_) (fun cdv A outer s H vs Q E hr h => ?_)
  · obtain ⟨a, C, v, rfl, _⟩ := h; rfl
  · obtain ⟨a, C, v, rfl, ox, nf, ha, h⟩ := h
    refine ⟨_, (pss_one (ps_ost (pv 0) (pv 1))), ?_⟩
    exact ⟨v, rfl, .ref a, rfl, a, C, rfl, ox, nf, .inl ⟨ha, h⟩⟩
theorem ok_p_is_number {k : Nat} {f : Addr} {fd : FuncData} (F : Fun K "is_number" "is_number" sis_number f fd) (T : Blt mg) : FnOk P w K mg base CX0 (k + 1) f fd ["value"] spIsNum := by
  refine F.ok scis_number (fun vs H Q E h => ?_) (fun cdv A outer s H vs Q E hr h => ?_)
  · obtain ⟨v, rfl, _⟩ := h; rfl
  · obtain ⟨v, rfl, hv, h⟩ := h
    refine ⟨_, (pss_one (ps_ret (pe_and (pe_callB call_isi (by rfl) T.isinstance (by decide +kernel) (pa_cons (pv 0) (pa_cons (pe_bltn (v := .ty "int") rfl T.int (by decide +kernel) rfl) pa_nil))) (pe_and (pe_not (pe_callB call_isi (by rfl) T.isinstance (by decide +kernel) (pa_cons (pv 0) (pa_cons (pe_bltn (v := .ty "bool") rfl T.bool (by decide +kernel) rfl) pa_nil)))) (pe_one (pe_chain op_le op_le (pe_un un_neg (pe_globI rfl T.g_LIMIT)) (pv 0) (pe_globI rfl T.g_LIMIT))))))), ?_⟩
    cases v <;> first | exact hv.elim | skip
    · walk_at "rdF"; exact h
    · walk_at "rdF"; exact h
    · rename_i n
      walk_at "rdF"
      have hh : ∀ b : Bool, b = isNum (.int n) → Q (.bl b) H := fun b e => by rw [e]; exact h
      refine if_dec (fun h1 => ?_) (fun h1 => ?_)
      · walk_at "rdF"
        refine hh _ ?_
        unfold isNum InR; simp [h1]
      · refine hh _ ?_
        unfold isNum InR; simp [h1]
    · walk_at "rdF"; exact h
def Err (E : XK) (C : Addr) (H : Hp) (v : V) : Prop := ∀ d H', Same H H' → H' d = some (.xd [("number", v)]) → E (.ref C) (some d) H'
def spCheck (C : Addr) : Sp := fun vs H Q E => ∃ v, vs = [v] ∧ Sc v ∧ (isNum v = true → Q v H) ∧ (isNum v = false → Err E C H v)
theorem ok_check_number {k : Nat} {f : Addr} {fd : FuncData} (F : Fun K "check_number" "check_number" scheck_number f fd) (T : Blt mg) (E_BadNumber : ErrC K mg "BadNumber" C) (I_BadNumber : HasI P w K mg base C 1 ["self", "number"] (spInit1 K "number")) (N_BadNumber_number : PySem.W.findIn K (.ref C) "number" = some none)
    (His_number : Has P w K mg base "is_number" k ["value"] spIsNum) (hk : 2 ≤ k) : FnOk P w K mg base (L2.CX P w) (k + 1) f fd ["value"] (spCheck C) := by
  refine F.okX sccheck_number (fun vs H Q E h => ?_) (fun cdv A outer s H vs Q E hr h => ?_)
  · obtain ⟨v, rfl, _⟩ := h; rfl
  · obtain ⟨v, rfl, hv, h1, h2⟩ := h
    refine ⟨_, (pss_cons (ps_if (pt_not (pt_val (pe_callH His_number hr (by rfl) (pa_cons (pv 0) pa_nil)))) (pss_one (ps_raiseC rfl (takes_of rfl rfl rfl rfl) E_BadNumber I_BadNumber hr (by omega) (by rfl) (pa_cons (pv 0) pa_nil))) pss_nil)
 (pss_one (ps_ret (pv 0)))), ?_⟩
    walk_at "rdF"
    refine ⟨v, rfl, hv, ?_⟩
    walk_at "rdF"
    refine if_nbool (fun hn => ?_) (fun hn => ?_)
    · walk_at "rdF"
      exact rd_mk1 E_BadNumber.ox N_BadNumber_number fun d H' _ sm e => h2 hn d H' sm e
    · walk_at "rdF"
      exact h1 hn
def spCheckO (C : Addr) : Sp := fun vs H Q E => ∃ v, vs = [v] ∧ Sc v ∧ (isOpen v = true → Q v H) ∧ (isOpen v = false → Err E C H v)
theorem ok_check_open_number {k : Nat} {f : Addr} {fd : FuncData} (F : Fun K "check_open_number" "check_open_number" scheck_open_number f fd) (T : Blt mg) (Hcheck_number : HasX P w K mg base "check_number" k ["value"] (spCheck C)) : FnOk P w K mg base (L2.CX P w) (k + 1) f fd ["value"] (spCheckO C) := by
  refine F.okX sccheck_open_number (fun vs H Q E h => ?_) (fun cdv A outer s H vs Q E hr h => ?_)
  · obtain ⟨v, rfl, _⟩ := h; rfl
  · obtain ⟨v, rfl, hv, h1, h2⟩ := h
    refine ⟨_, (pss_cons (ps_if (pt_cmpR op_isN (pv 0) pe_non (nomark _)) (pss_one (ps_ret pe_non)) pss_nil)
 (pss_one (ps_ret (pe_callX Hcheck_number hr (by rfl) (takes_of rfl rfl rfl rfl) (pa_cons (pv 0) pa_nil))))), ?_⟩
    cases v <;> first | exact hv.elim | skip
    · walk_at "rdF"; exact h1 rfl
    all_goals walk_at "rdF"
    all_goals exact ⟨_, rfl, trivial, h1, h2⟩
theorem ok_BadSpan_init {k : Nat} {f : Addr} {fd : FuncData} (F : Fun K "__init__" "BadSpan.__init__" sBadSpan___init__ f fd) : FnOk P w K mg base CX0 (k + 1) f fd ["self", "low", "high"] (spInit2 K "low" "high") := by
  refine F.ok scBadSpan___init__ (fun vs H Q E h => ?_) (fun cdv A outer s H vs Q E hr h => ?_)
  · obtain ⟨a, C, u, v, rfl, _⟩ := h; rfl
  · obtain ⟨a, C, u, v, rfl, ox, nf, ng, ha, h⟩ := h
    refine ⟨_, (pss_cons (ps_ost (pv 0) (pv 1))
 (pss_one (ps_ost (pv 0) (pv 2)))), ?_⟩
    exact ⟨u, rfl, .ref a, rfl, a, C, rfl, ox, nf, .inl ⟨ha, fun dx ndx ne => ⟨v, rfl, .ref a, rfl, a, C, rfl, ox, ng, .inr ⟨dx, [("low", u)], upd_same, by rw [upd_ne ne]; exact upd_same, by simp, h dx ndx ne⟩⟩⟩⟩
def spCrossed : Sp := fun vs H Q _ => ∃ x y, vs = [x, y] ∧ NI x ∧ NI y ∧ Q (.bl (crossed x y)) H
theorem ok_are_crossed {k : Nat} {f : Addr} {fd : FuncData} (F : Fun K "are_crossed" "are_crossed" sare_crossed f fd) (T : Blt mg) : FnOk P w K mg base CX0 (k + 1) f fd ["low", "high"] spCrossed := by
  refine F.ok scare_crossed (fun vs H Q E h => ?_) (fun cdv A outer s H vs Q E hr h => ?_)
  · obtain ⟨x, y, rfl, _⟩ := h; rfl
  · obtain ⟨x, y, rfl, hx, hy, h⟩ := h
    refine ⟨_, (pss_one (ps_ret (pe_and (pe_cmpR op_notN (pv 0) pe_non (nomark _)) (pe_and (pe_cmpR op_notN (pv 1) pe_non (nomark _)) (pe_one (pe_cmpR op_gt (pv 0) (pv 1) (nomark _))))))), ?_⟩
    rcases hx with rfl | ⟨i, rfl⟩ <;> rcases hy with rfl | ⟨j, rfl⟩ <;> walk_at "rdF" <;> exact h
def ErrB (E : XK) (C : Addr) (H : Hp) (x y : V) : Prop := ∀ d H', Same H H' → H' d = some (.xd [("high", y), ("low", x)]) → E (.ref C) (some d) H'
def spLowHigh (C : Addr) : Sp := fun vs H Q E => ∃ x y, vs = [x, y] ∧ NI x ∧ NI y ∧ (crossed x y = false → Q .non H) ∧ (crossed x y = true → ErrB E C H x y)
theorem ok_check_low_high {k : Nat} {f C2 : Addr} {fd : FuncData} (F : Fun K "check_low_high" "check_low_high" scheck_low_high f fd) (T : Blt mg) (E_BadSpan : ErrC K mg "BadSpan" C2) (I_BadSpan : HasI P w K mg base C2 1 ["self", "low", "high"] (spInit2 K "low" "high")) (N1 : PySem.W.findIn K (.ref C2) "low" = some none) (N2 : PySem.W.findIn K (.ref C2) "high" = some none)
    (Hare_crossed : Has P w K mg base "are_crossed" k ["low", "high"] spCrossed) (hk : 2 ≤ k) : FnOk P w K mg base (L2.CX P w) (k + 1) f fd ["low", "high"] (spLowHigh C2) := by
  refine F.okX sccheck_low_high (fun vs H Q E h => ?_) (fun cdv A outer s H vs Q E hr h => ?_)
  · obtain ⟨x, y, rfl, _⟩ := h; rfl
  · obtain ⟨x, y, rfl, hx, hy, h1, h2⟩ := h
    refine ⟨_, (pss_one (ps_if (pt_val (pe_callH Hare_crossed hr (by rfl) (pa_cons (pv 0) (pa_cons (pv 1) pa_nil)))) (pss_one (ps_raiseC rfl (takes_of rfl rfl rfl rfl) E_BadSpan I_BadSpan hr (by omega) (by rfl) (pa_cons (pv 0) (pa_cons (pv 1) pa_nil)))) pss_nil)), ?_⟩
    walk_at "rdF"
    refine ⟨x, y, rfl, hx, hy, ?_⟩
    walk_at "rdF"
    refine if_bool (fun hc => ?_) (fun hc => ?_)
    · walk_at "rdF"
      exact rd_mk2 E_BadSpan.ox N1 N2 fun d H' _ sm e => h2 hc d H' sm e
    · walk_at "rdF"
      exact h1 hc
structure SpC (K : PySem.W.Frag) (C : Addr) : Prop where
  cl : Cls K C
  nl : NoAttr K C "low"
  nh : NoAttr K C "high"
abbrev spn (l h : V) : List (Str × V) := [("low", l), ("high", h)]
theorem spn_low {l h : V} : (spn l h).lookup ("low" : Str) = some l := by simp [spn, List.lookup]
theorem spn_high {l h : V} : (spn l h).lookup ("high" : Str) = some h := by
  have e : (("high" : Str) == ("low" : Str)) = false := by decide
  simp [spn, List.lookup, e]
def spSpanI (C CE CB : Addr) : Sp := fun vs H Q E => ∃ (a dx : Addr) (l h : V), vs = [.ref a, l, h] ∧ H a = some (.ins C dx []) ∧ Sc l ∧ Sc h ∧ (isOpen l = true → isOpen h = true → crossed l h = false → Q .non (upd H a (.ins C dx (spn l h)))) ∧
  (isOpen l = false → Err E CE H l) ∧ (isOpen l = true → isOpen h = false → Err E CE H h) ∧ (isOpen l = true → isOpen h = true → crossed l h = true → ErrB E CB H l h)
theorem open_NI {x : V} (h : isOpen x = true) : NI x := by
  cases x <;> first | exact .inl rfl | exact .inr ⟨_, rfl⟩ | cases h
theorem ok_span_init {k : Nat} {f : Addr} {fd : FuncData} (F : FunD K "__init__" "Span.__init__" (defArgs sSpan___init__) (defBody sSpan___init__) (defScope sSpan___init__) [.non, .non] [] f fd) (T : Blt mg) (S : SpC K C)
    (Hcheck_open_number : HasX P w K mg base "check_open_number" k ["value"] (spCheckO CE)) (Hcheck_low_high : HasX P w K mg base "check_low_high" k ["low", "high"] (spLowHigh CB)) : FnOk P w K mg base (L2.CX P w) (k + 1) f fd ["self", "low", "high"] (spSpanI C CE CB) := by
  refine F.ok scSpan___init__ (fun vs H Q E h => ?_) (fun cdv A outer s H vs Q E hr h => ?_)
  · obtain ⟨a, dx, l, h, rfl, _⟩ := h; rfl
  · obtain ⟨a, dx, l, hh, rfl, ha, sl, sh, h1, h2, h3, h4⟩ := h
    refine ⟨_, (pss_cons (ps_expr (pe_callX Hcheck_open_number hr (by rfl) (takes_of rfl rfl rfl rfl) (pa_cons (pv 1) pa_nil)))
 (pss_cons (ps_expr (pe_callX Hcheck_open_number hr (by rfl) (takes_of rfl rfl rfl rfl) (pa_cons (pv 2) pa_nil)))
 (pss_cons (ps_expr (pe_callX Hcheck_low_high hr (by rfl) (takes_of rfl rfl rfl rfl) (pa_cons (pv 1) (pa_cons (pv 2) pa_nil))))
 (pss_cons (ps_fld (pv 0) (pv 1) rfl)
 (pss_one (ps_fld (pv 0) (pv 2) rfl)))))), ?_⟩
    walk_at "rdF"
    refine ⟨l, rfl, sl, fun ol => ?_, h2⟩
    walk_at "rdF"
    refine ⟨hh, rfl, sh, fun oh => ?_, h3 ol⟩
    walk_at "rdF"
    refine ⟨l, hh, rfl, open_NI ol, open_NI oh, fun nc => ?_, h4 ol oh⟩
    walk_at "rdF"
    refine ⟨a, C, dx, _, rfl, ha, S.cl, S.nl, by simp, ?_⟩
    walk_at "rdF"
    refine ⟨a, C, dx, _, rfl, upd_same, S.cl, S.nh, by simp [putF], ?_⟩
    have e : putF "high" hh (putF "low" l []) = spn l hh := by
      have e0 : ¬ (("low" : Str) = ("high" : Str)) := by decide
      simp [putF, spn, e0]
    rw [upd_upd, e]
    walk_at "rdF"
    exact h1 ol oh nc
def lets_ (l h : V) (n : Int) : Bool := (match l with | .int i => decide (i ≤ n) | _ => true) && (match h with | .int j => decide (n ≤ j) | _ => true)
def spContains (C : Addr) : Sp := fun vs H Q _ => ∃ (a dx : Addr) (l h : V) (n : Int), vs = [.ref a, .int n] ∧ H a = some (.ins C dx (spn l h)) ∧ NI l ∧ NI h ∧ Q (.bl (lets_ l h n)) H
theorem ok_contains {k : Nat} {f : Addr} {fd : FuncData} (F : Fun K "__contains__" "Span.__contains__" sSpan___contains__ f fd) (T : Blt mg) (S : SpC K C) : FnOk P w K mg base CX0 (k + 1) f fd ["self", "light"] (spContains C) := by
  refine F.ok scSpan___contains__ (fun vs H Q E h => ?_) (fun cdv A outer s H vs Q E hr h => ?_)
  · obtain ⟨a, dx, l, h, n, rfl, _⟩ := h; rfl
  · obtain ⟨a, dx, l, hh, n, rfl, ha, hl, hh', h⟩ := h
    refine ⟨_, (pss_cons (ps_set (i := 2) scSpan___contains__.nd rfl (.inl rfl) (pe_or (pe_cmpR op_isN (pe_fld (pv 0) rfl) pe_non (nomark _)) (pe_one (pe_cmpR op_le (pe_fld (pv 0) rfl) (pv 1) (nomark _)))))
 (pss_one (ps_ret (pe_and (pv 2) (pe_one (pe_or (pe_cmpR op_isN (pe_fld (pv 0) rfl) pe_non (nomark _)) (pe_one (pe_cmpR op_le (pv 1) (pe_fld (pv 0) rfl) (nomark _))))))))), ?_⟩
    rcases hl with rfl | ⟨i, rfl⟩
    · walk_at "rdF"
      refine ⟨a, C, dx, _, .non, rfl, ha, S.cl, S.nl, spn_low, ?_⟩
      walk_at "rdF"
      refine ⟨a, C, dx, _, hh, rfl, ha, S.cl, S.nh, spn_high, ?_⟩
      rcases hh' with rfl | ⟨j, rfl⟩
      · walk_at "rdF"
        exact h
      · walk_at "rdF"
        refine ⟨a, C, dx, _, .int j, rfl, ha, S.cl, S.nh, spn_high, ?_⟩
        walk_at "rdF"
        simpa [lets_] using h
    · walk_at "rdF"
      refine ⟨a, C, dx, _, .int i, rfl, ha, S.cl, S.nl, spn_low, ?_⟩
      walk_at "rdF"
      refine ⟨a, C, dx, _, .int i, rfl, ha, S.cl, S.nl, spn_low, ?_⟩
      walk_at "rdF"
      refine if_dec (fun hi => ?_) (fun hi => ?_)
      · have e : lets_ (.int i) hh n = lets_ .non hh n := by simp [lets_, hi]
        rw [e] at h
        walk_at "rdF"
        refine ⟨a, C, dx, _, hh, rfl, ha, S.cl, S.nh, spn_high, ?_⟩
        rcases hh' with rfl | ⟨j, rfl⟩
        · walk_at "rdF"
          exact h
        · walk_at "rdF"
          refine ⟨a, C, dx, _, .int j, rfl, ha, S.cl, S.nh, spn_high, ?_⟩
          walk_at "rdF"
          simpa [lets_] using h
      · have e : lets_ (.int i) hh n = false := by simp [lets_, hi]
        rw [e] at h
        walk_at "rdF"
        exact h
theorem ok_BadName_init {k : Nat} {f : Addr} {fd : FuncData} (F : Fun K "__init__" "BadName.__init__" sBadName___init__ f fd) : FnOk P w K mg base CX0 (k + 1) f fd ["self", "name"] (spInit1 K "name") := by
  refine F.ok scBadName___init__ (fun vs H Q E h => ?_) (fun cdv A outer s H vs Q E hr h => ?_)
  · obtain ⟨a, C, v, rfl, _⟩ := h; rfl
  · obtain ⟨a, C, v, rfl, ox, nf, ha, h⟩ := h
    refine ⟨_, (pss_one (ps_ost (pv 0) (pv 1))), ?_⟩
    exact ⟨v, rfl, .ref a, rfl, a, C, rfl, ox, nf, .inl ⟨ha, h⟩⟩
theorem ok_p_is_name {k : Nat} {f : Addr} {fd : FuncData} (F : Fun K "is_name" "is_name" sis_name f fd) (T : Blt mg) : FnOk P w K mg base CX0 (k + 1) f fd ["text"] spIsName := by
  refine F.ok scis_name (fun vs H Q E h => ?_) (fun cdv A outer s H vs Q E hr h => ?_)
  · obtain ⟨z, rfl, _⟩ := h; rfl
  · obtain ⟨z, rfl, hz, h⟩ := h
    have h0 := h H (Same.refl H)
    refine ⟨_, (pss_cons (ps_if (PW.pt (pw_or (pt_cmpR op_lt (pe_callB call_len_str (by rfl) T.len (by decide +kernel) (pa_cons (pv 0) pa_nil)) pe_int (nomark _)) (pw_or1 (pt_cmpR op_gt (pe_callB call_len_str (by rfl) T.len (by decide +kernel) (pa_cons (pv 0) pa_nil)) (pe_globI rfl T.g_LONGEST_NAME) (nomark _))))) (pss_one (ps_ret pe_bl)) pss_nil)
 (pss_one (ps_ret (pe_and (pe_cmpR op_in_sign (pe_ix ix_str (pv 0) pe_int (fun _ _ => rfl)) (pe_globS rfl T.g_LETTERS) (by rfl)) (pe_one (pe_callB (cr_all rfl) (by rfl) T.all (by decide +kernel) (pa_cons (pe_lc (own := [("sign", 1)]) (g := (gName 1)) (by rfl) scis_name.nd (pi_str (pv 0)) (blkOk_by (own := [("sign", 1)]) (N := ["text", "sign"]) (sc := defScope sis_name) (by decide +kernel)) (fun _ _ _ _ _ => (pg_name (i := 1) scis_name.nd rfl (.inl rfl))) (fun _ _ _ _ _ => pts_nil) (fun _ _ _ _ _ => (pe_cmpR op_in_sign (pv 1) (pe_globS rfl T.g_LETTERS_AND_DIGITS) (by rfl)))) pa_nil))))))), ?_⟩
    walk_at "rdF"
    refine ⟨sz (by omega), ?_⟩
    walk_at "rdF"
    refine if_dec (fun h1 => ?_) (fun h1 => ?_)
    · walk_at "rdF"
      rw [isNm_zero (by omega)] at h0
      exact h0
    · walk_at "rdF"
      refine ⟨sz (by omega), ?_⟩
      obtain ⟨c, l, e⟩ : ∃ c l, z.cps.toList = c :: l := by
        cases e : z.cps.toList with
        | nil => have := len_l z; rw [e] at this; simp at this; omega
        | cons c l => exact ⟨c, l, rfl⟩
      have en := isNm_of e
      rw [en] at h h0
      walk_at "rdF"
      refine if_dec (fun h8 => ?_) (fun h8 => ?_)
      · walk_at "rdF"
        rw [decide_eq_false (by omega)] at h0
        exact h0
      · rw [decide_eq_true (by omega : z.length ≤ 8), Bool.true_and] at h h0
        walk_at "rdF"
        refine rd_ixS (c := c) (by omega) (by rw [e]; exact atI_zero) ?_
        walk_at "rdF"
        refine rd_inS ?_
        walk_at "rdF"
        refine if_dec (fun hc => ?_) (fun hc => ?_)
        · walk_at "rdF"
          rw [show decide (c ∈ lets.cps.toList) = true from decide_eq_true hc, Bool.true_and] at h
          refine fun D nD => lc_sgn (fun i H' => H' = upd H D (.lst ((z.cps.toList.take i).map fun d => V.bl (decide (d ∈ letsD.cps.toList))))) rfl ?_ ?_
          · rintro i d H1 hd rfl
            refine ⟨rfl, ?_⟩
            walk_at "rdF"
            refine rd_inS ?_
            walk_at "rdF"
            refine ⟨_, upd_same, ?_, ?_⟩
            · rw [List.length_map, List.length_take, len_l]
              exact Nat.lt_of_le_of_lt (by omega : _ ≤ 1000) (by decide)
            · rw [upd_upd, List.take_add_one, hd, List.map_append]; rfl
          · rintro H1 rfl
            refine ⟨D, z.cps.toList.map fun d => decide (d ∈ letsD.cps.toList), rfl, sl_of ?_, ?_⟩
            · rw [upd_same, ← len_l, List.take_length, List.map_map]; rfl
            · rw [List.all_map]
              exact h _ (same_new nD)
        · walk_at "rdF"
          rw [show decide (c ∈ lets.cps.toList) = false from decide_eq_false hc] at h0
          exact h0
def ErrN (E : XK) (C : Addr) (H : Hp) (v : V) : Prop := ∀ d H', Same H H' → H' d = some (.xd [("name", v)]) → E (.ref C) (some d) H'
theorem ErrN.same {E : XK} {C : Addr} {H H' : Hp} {v : V} (h : ErrN E C H v) (s : Same H H') : ErrN E C H' v := fun d H2 s2 e => h d H2 (s.trans s2) e
theorem ok_Doubled_init {k : Nat} {f : Addr} {fd : FuncData} (F : Fun K "__init__" "Doubled.__init__" sDoubled___init__ f fd) : FnOk P w K mg base CX0 (k + 1) f fd ["self", "name"] (spInit1 K "name") := by
  refine F.ok scDoubled___init__ (fun vs H Q E h => ?_) (fun cdv A outer s H vs Q E hr h => ?_)
  · obtain ⟨a, C, v, rfl, _⟩ := h; rfl
  · obtain ⟨a, C, v, rfl, ox, nf, ha, h⟩ := h
    refine ⟨_, (pss_one (ps_ost (pv 0) (pv 1))), ?_⟩
    exact ⟨v, rfl, .ref a, rfl, a, C, rfl, ox, nf, .inl ⟨ha, h⟩⟩
def spCheckName (C : Addr) : Sp := fun vs H Q E => ∃ z : Str, vs = [.str z] ∧ z.length ≤ 1000 ∧ (isNm z = true → ∀ H', Same H H' → Q (.str z) H') ∧ (isNm z = false → ErrN E C H (.str z))
theorem ok_check_name {k : Nat} {f : Addr} {fd : FuncData} (F : Fun K "check_name" "check_name" scheck_name f fd) (T : Blt mg) (E_BadName : ErrC K mg "BadName" C) (I_BadName : HasI P w K mg base C 1 ["self", "name"] (spInit1 K "name")) (N_BadName_name : PySem.W.findIn K (.ref C) "name" = some none)
    (His_name : Has P w K mg base "is_name" k ["text"] spIsName) (hk : 2 ≤ k) : FnOk P w K mg base (L2.CX P w) (k + 1) f fd ["text"] (spCheckName C) := by
  refine F.okX sccheck_name (fun vs H Q E h => ?_) (fun cdv A outer s H vs Q E hr h => ?_)
  · obtain ⟨v, rfl, _⟩ := h; rfl
  · obtain ⟨z, rfl, hz, h1, h2⟩ := h
    refine ⟨_, (pss_cons (ps_if (pt_not (pt_val (pe_callH His_name hr (by rfl) (pa_cons (pv 0) pa_nil)))) (pss_one (ps_raiseC rfl (takes_of rfl rfl rfl rfl) E_BadName I_BadName hr (by omega) (by rfl) (pa_cons (pv 0) pa_nil))) pss_nil)
 (pss_one (ps_ret (pv 0)))), ?_⟩
    walk_at "rdF"
    refine ⟨z, rfl, hz, fun H1 s1 => ?_⟩
    walk_at "rdF"
    refine if_nbool (fun hn => ?_) (fun hn => ?_)
    · walk_at "rdF"
      exact rd_mk1 E_BadName.ox N_BadName_name fun d H' nd sm e => h2 hn d H' (s1.trans sm) e
    · walk_at "rdF"
      exact h1 hn H1 s1
def spCheckUnlike (CD : Addr) : Sp := fun vs H Q E => ∃ a, ∃ U : List Str, vs = [.ref a] ∧ Strs H a U ∧ U.length ≤ 2000 ∧ (firstDup [] U = none → ∀ H', Same H H' → Q .non H') ∧ (∀ z, firstDup [] U = some z → ErrN E CD H (.str z))
theorem ok_check_unlike {k : Nat} {f : Addr} {fd : FuncData} (F : Fun K "check_unlike" "check_unlike" scheck_unlike f fd) (T : Blt mg) (E_Doubled : ErrC K mg "Doubled" CD) (I_Doubled : HasI P w K mg base CD 1 ["self", "name"] (spInit1 K "name")) (N_Doubled_name : PySem.W.findIn K (.ref CD) "name" = some none) (hk : 2 ≤ k) : FnOk P w K mg base (L2.CX P w) (k + 1) f fd ["items"] (spCheckUnlike CD) := by
  refine F.okX sccheck_unlike (fun vs H Q E h => ?_) (fun cdv A outer s H vs Q E hr h => ?_)
  · obtain ⟨a, U, rfl, _⟩ := h; rfl
  · obtain ⟨a, U, rfl, hA, hl, h1, h2⟩ := h
    refine ⟨_, (pss_cons (ps_set (i := 1) sccheck_unlike.nd rfl (.inl rfl) (pe_callTy0 cr_set0K (by rfl) T.set (by decide +kernel)))
 (pss_one (ps_for (passes_of rfl) rfl (pi_seq (pv 0)) (pg_name (i := 2) sccheck_unlike.nd rfl (.inl rfl)) (pss_cons (ps_if (pt_cmpR or_sinK (pv 2) (pv 1) (by rfl)) (pss_one (ps_raiseC rfl (takes_of rfl rfl rfl rfl) E_Doubled I_Doubled hr (by omega) (by rfl) (pa_cons (pv 2) pa_nil))) pss_nil)
 (pss_one (ps_expr (pe_saddK (pv 1) (pa_cons (pv 2) pa_nil)))))))), ?_⟩
    walk_at "rdF"
    refine ⟨rfl, fun p np => ?_⟩
    walk_at "rdF"
    have sp := same_new (o := SetK P w p (fun _ => false) 0) np
    refine ⟨a, rfl, for_strs (hA.same sp) (fun i σ H' => ∃ y, ∃ Sx : Key → Bool, ∃ n, σ = [some (.ref a), some (.ref p), y] ∧ H' p = some (SetK P w p Sx n) ∧ n ≤ i ∧ (∀ x : Str, Sx (.inr x) = decide (x ∈ U.take i)) ∧ firstDup (U.take i) (U.drop i) = firstDup [] U ∧ Same H H') ⟨_, _, _, rfl, upd_same, Nat.le_refl _, by simp, rfl, sp⟩ ?_ ?_ ?_⟩
    · rintro i σ H' ⟨y, Sx, n, rfl, _, _, _, _, sm⟩
      intro o ho
      rcases hA with hA | hA <;> (obtain rfl := Option.some.inj ((sp _ _ hA).symm.trans ho); exact sm _ _ hA)
    · rintro i z σ H' hz ⟨y, Sx, n, rfl, hp, hn, hS, hD, sm⟩
      have hil : i < U.length := (List.getElem?_eq_some_iff.mp hz).1
      rw [dup_step hz] at hD
      walk_at "rdF"
      refine ⟨.inr z, p, Sx, n, rfl, rfl, hp, ?_⟩
      refine ⟨Sx (.inr z), rfl, ?_⟩
      rw [hS z]
      refine if_dec (fun hin => ?_) (fun hout => ?_)
      · rw [if_pos hin] at hD
        refine rd_mkO ?_
        walk_at "rdF"
        exact rd_mk1 E_Doubled.ox N_Doubled_name fun d H2 nd s2 e => h2 z hD.symm d H2 (sm.trans s2) e
      · rw [if_neg hout] at hD
        walk_at "rdF"
        refine ⟨.ref p, rfl, ⟨p, Sx, n, rfl, hp⟩, .str z, rfl, p, .inr z, Sx, n, rfl, rfl, hp, Nat.lt_of_le_of_lt (by omega : n + 1 ≤ 2000) (by decide), ?_⟩
        walk_at "rdF"
        refine ⟨_, _, _, rfl, upd_same, ?_, fun x => ?_, hD, same_mut sm np⟩
        · split <;> omega
        · exact (congrArg (fun b => b || decide ((Sum.inr x : Key) = Sum.inr z)) (hS x)).trans (take_mem x hz)
    · rintro σ H' ⟨y, Sx, n, rfl, hp, hn, hS, hD, sm⟩
      rw [dup_end] at hD
      exact h1 hD.symm H' sm
def ErrF (E : XK) (C : Addr) (H : Hp) (fs : List (Str × V)) : Prop := ∀ d H', Same H H' → H' d = some (.xd fs) → E (.ref C) (some d) H'
theorem ErrF.same {E : XK} {C : Addr} {H H' : Hp} {fs : List (Str × V)} (h : ErrF E C H fs) (s : Same H H') : ErrF E C H' fs := fun d H2 s2 e => h d H2 (s.trans s2) e
theorem ok_SelfBond_init {k : Nat} {f : Addr} {fd : FuncData} (F : Fun K "__init__" "SelfBond.__init__" sSelfBond___init__ f fd) : FnOk P w K mg base CX0 (k + 1) f fd ["self", "bond"] (spInit1 K "bond") := by
  refine F.ok scSelfBond___init__ (fun vs H Q E h => ?_) (fun cdv A outer s H vs Q E hr h => ?_)
  · obtain ⟨a, C, v, rfl, _⟩ := h; rfl
  · obtain ⟨a, C, v, rfl, ox, nf, ha, h⟩ := h
    refine ⟨_, (pss_one (ps_ost (pv 0) (pv 1))), ?_⟩
    exact ⟨v, rfl, .ref a, rfl, a, C, rfl, ox, nf, .inl ⟨ha, h⟩⟩
theorem ok_Unknown_init {k : Nat} {f : Addr} {fd : FuncData} (F : Fun K "__init__" "Unknown.__init__" sUnknown___init__ f fd) : FnOk P w K mg base CX0 (k + 1) f fd ["self", "name"] (spInit1 K "name") := by
  refine F.ok scUnknown___init__ (fun vs H Q E h => ?_) (fun cdv A outer s H vs Q E hr h => ?_)
  · obtain ⟨a, C, v, rfl, _⟩ := h; rfl
  · obtain ⟨a, C, v, rfl, ox, nf, ha, h⟩ := h
    refine ⟨_, (pss_one (ps_ost (pv 0) (pv 1))), ?_⟩
    exact ⟨v, rfl, .ref a, rfl, a, C, rfl, ox, nf, .inl ⟨ha, h⟩⟩
def spInit3 (K : PySem.W.Frag) (f g j : Str) : Sp := fun vs H Q _ => ∃ (a C : Addr) (u v t : V), vs = [.ref a, u, v, t] ∧ OexC K C ∧ PySem.W.findIn K (.ref C) f = some none ∧ PySem.W.findIn K (.ref C) g = some none ∧ PySem.W.findIn K (.ref C) j = some none ∧ H a = some (exo a C none) ∧
  ∀ dx, H dx = none → dx ≠ a → Q .non (upd (upd (upd (upd H dx (exd dx [(f, u)])) a (exo a C (some dx))) dx (exd dx [(g, v), (f, u)])) dx (exd dx [(j, t), (g, v), (f, u)]))
theorem rd_mk3 {K : PySem.W.Frag} {C : Addr} {f g j : Str} {u v t : V} {H1 : Hp} {W : XK} (T : OexC K C) (nf : PySem.W.findIn K (.ref C) f = some none) (ng : PySem.W.findIn K (.ref C) g = some none) (nj : PySem.W.findIn K (.ref C) j = some none) (h : ∀ d H', H1 d = none → Same H1 H' → H' d = some (.xd [(j, t), (g, v), (f, u)]) → W (.ref C) (some d) H') :
    [u, v, t].length ≤ 1000 ∧ ∀ a, H1 a = none → spInit3 K f g j (.ref a :: ([u, v, t] ++ [])) (upd H1 a (exo a C none))
      (fun v H2 => v = .non ∧ ∃ (d : Addr) (fs : List (Str × V)), H2 a = some (exo a C (some d)) ∧ H2 d = some (exd d fs) ∧ H1 d = none ∧ W (.ref C) (some d) (upd (del H2 a) d (.xd fs))) (fun _ _ _ => False) := by
  refine ⟨by simp, fun a na => ⟨a, C, u, v, t, rfl, T, nf, ng, nj, upd_same, fun dx ndx ne => ?_⟩⟩
  have nd : H1 dx = none := by rw [upd_ne ne] at ndx; exact ndx
  refine ⟨rfl, dx, [(j, t), (g, v), (f, u)], by rw [upd_ne ne.symm, upd_ne ne.symm]; exact upd_same, upd_same, nd, h dx _ nd (fun b o hb => ?_) upd_same⟩
  have h1 := ne_of_none hb na
  have h2 := ne_of_none hb nd
  rw [upd_ne h2, del_ne h1, upd_ne h2, upd_ne h2, upd_ne h1, upd_ne h2, upd_ne h1]
  exact hb
theorem ok_OutOfRange_init {k : Nat} {f : Addr} {fd : FuncData} (F : Fun K "__init__" "OutOfRange.__init__" sOutOfRange___init__ f fd) : FnOk P w K mg base CX0 (k + 1) f fd ["self", "number", "low", "high"] (spInit3 K "number" "low" "high") := by
  refine F.ok scOutOfRange___init__ (fun vs H Q E h => ?_) (fun cdv A outer s H vs Q E hr h => ?_)
  · obtain ⟨a, C, u, v, t, rfl, _⟩ := h; rfl
  · obtain ⟨a, C, u, v, t, rfl, ox, nf, ng, nj, ha, h⟩ := h
    refine ⟨_, (pss_cons (ps_ost (pv 0) (pv 1))
 (pss_cons (ps_ost (pv 0) (pv 2))
 (pss_one (ps_ost (pv 0) (pv 3))))), ?_⟩
    exact ⟨u, rfl, .ref a, rfl, a, C, rfl, ox, nf, .inl ⟨ha, fun dx ndx ne => ⟨v, rfl, .ref a, rfl, a, C, rfl, ox, ng, .inr ⟨dx, [("number", u)], upd_same, by rw [upd_ne ne]; exact upd_same, by simp, ⟨t, rfl, .ref a, rfl, a, C, rfl, ox, nj, .inr ⟨dx, _, by rw [upd_ne ne.symm]; exact upd_same, upd_same, by simp, h dx ndx ne⟩⟩⟩⟩⟩⟩
def spBetween (C : Addr) : Sp := fun vs H Q E => ∃ n l h : Int, vs = [.int n, .int l, .int h] ∧ (l ≤ n → n ≤ h → Q .non H) ∧ (¬ (l ≤ n ∧ n ≤ h) → ErrF E C H [("high", .int h), ("low", .int l), ("number", .int n)])
theorem ok_check_between {k : Nat} {f : Addr} {fd : FuncData} (F : Fun K "check_between" "check_between" scheck_between f fd) (T : Blt mg) (E_OutOfRange : ErrC K mg "OutOfRange" C) (I_OutOfRange : HasI P w K mg base C 1 ["self", "number", "low", "high"] (spInit3 K "number" "low" "high")) (N1 : PySem.W.findIn K (.ref C) "number" = some none) (N2 : PySem.W.findIn K (.ref C) "low" = some none) (N3 : PySem.W.findIn K (.ref C) "high" = some none) (hk : 2 ≤ k) : FnOk P w K mg base (L2.CX P w) (k + 1) f fd ["number", "low", "high"] (spBetween C) := by
  refine F.okX sccheck_between (fun vs H Q E h => ?_) (fun cdv A outer s H vs Q E hr h => ?_)
  · obtain ⟨n, l, h, rfl, _⟩ := h; rfl
  · obtain ⟨n, l, hh, rfl, h1, h2⟩ := h
    refine ⟨_, (pss_one (ps_if (PW.pt (pw_or (pt_cmpR op_lt (pv 0) (pv 1) (nomark _)) (pw_or1 (pt_cmpR op_gt (pv 0) (pv 2) (nomark _))))) (pss_one (ps_raiseC rfl (takes_of rfl rfl rfl rfl) E_OutOfRange I_OutOfRange hr (by omega) (by rfl) (pa_cons (pv 0) (pa_cons (pv 1) (pa_cons (pv 2) pa_nil))))) pss_nil)), ?_⟩
    walk_at "rdF"
    refine if_dec (fun c1 => ?_) (fun c1 => ?_)
    · walk_at "rdF"
      exact rd_mk3 E_OutOfRange.ox N1 N2 N3 fun d H' _ sm e => h2 (by omega) d H' sm e
    · walk_at "rdF"
      refine if_dec (fun c2 => ?_) (fun c2 => ?_)
      · walk_at "rdF"
        exact rd_mk3 E_OutOfRange.ox N1 N2 N3 fun d H' _ sm e => h2 (by omega) d H' sm e
      · walk_at "rdF"
        exact h1 (by omega) (by omega)
def spLookUp (C : Addr) : Sp := fun vs H Q E => ∃ (a : Addr) (z : Str) (kvs : List (Key × V)), vs = [.ref a, .str z] ∧ Rd H a (.dK kvs) ∧ (∀ v, valV kvs (.inr z) = some v → Q v H) ∧ (valV kvs (.inr z) = none → ErrF E C H [("name", .str z)])
theorem ok_look_up {k : Nat} {f : Addr} {fd : FuncData} (F : Fun K "look_up" "look_up" slook_up f fd) (T : Blt mg) (E_Unknown : ErrC K mg "Unknown" C) (I_Unknown : HasI P w K mg base C 1 ["self", "name"] (spInit1 K "name")) (N1 : PySem.W.findIn K (.ref C) "name" = some none) (hk : 2 ≤ k) : FnOk P w K mg base (L2.CX P w) (k + 1) f fd ["table", "name"] (spLookUp C) := by
  refine F.okX sclook_up (fun vs H Q E h => ?_) (fun cdv A outer s H vs Q E hr h => ?_)
  · obtain ⟨a, z, kvs, rfl, _⟩ := h; rfl
  · obtain ⟨a, z, kvs, rfl, ha, h1, h2⟩ := h
    refine ⟨_, (pss_cons (ps_if (pt_cmp (pc_dnotin (hu_of hr) (pv 1) (pv 0)) (by rfl)) (pss_one (ps_raiseC rfl (takes_of rfl rfl rfl rfl) E_Unknown I_Unknown hr (by omega) (by rfl) (pa_cons (pv 1) pa_nil))) pss_nil)
 (pss_one (ps_ret (pe_dget (hu_of' hr) (pv 0) (pv 1) (fun _ _ => rfl))))), ?_⟩
    walk_at "rdF"
    refine ⟨a, _, rfl, dget_rd ha, ?_⟩
    walk_at "rdF"
    cases e : valV kvs (.inr z) with
    | none =>
      refine iteT ?_
      walk_at "rdF"
      exact rd_mk1 E_Unknown.ox N1 fun d H' _ sm e' => h2 e d H' sm e'
    | some v =>
      refine iteF ?_
      walk_at "rdF"
      exact ⟨a, v, rfl, by have := dget_rd (z := z) ha; rw [e] at this; exact this, h1 v e⟩
end
abbrev scheck_row_numbers : Stmt := topS 38
theorem sccheck_row_numbers : FnScope ["lamps", "bonds", "_", "ceiling", "spans", "low", "high"] ["lamps", "bonds"] (defScope scheck_row_numbers) := ⟨rfl, rfl, rfl, by decide +kernel, rfl, by decide +kernel, by decide +kernel⟩
structure BR where
  n : Str
  x : Str
  y : Str
  l : V
  h : V
def LampRow (d : PyData) (r : Str × V) : Prop := isSeq d = true ∧ kids d = [.str r.1, vD r.2] ∧ r.1.length ≤ 1000 ∧ Sc r.2
def BondRow (d : PyData) (r : BR) : Prop := isSeq d = true ∧ kids d = [.str r.n, .str r.x, .str r.y, vD r.l, vD r.h] ∧ r.n.length ≤ 1000 ∧ Sc r.l ∧ Sc r.h
structure RowsD {α : Type} (R : PyData → α → Prop) (d : PyData) (L : List α) : Prop where
  sq : isSeq d = true
  len : (kids d).length = L.length
  at_ : ∀ (i : Nat) (e : PyData), (kids d)[i]? = some e → ∃ r, L[i]? = some r ∧ R e r
def First {α : Type} (p : α → Prop) (l : List α) (v : α) : Prop := ∃ l1 l2, l = l1 ++ v :: l2 ∧ (∀ u ∈ l1, ¬ p u) ∧ p v
theorem First.mem {α : Type} {p : α → Prop} {l : List α} {v : α} (h : First p l v) : v ∈ l := by
  obtain ⟨l1, l2, rfl, _⟩ := h; simp
inductive PErr where
  | name (z : Str) | num (v : V) | span (l h : V) | dbl (z : Str) | self (z : Str) | unk (z : Str) | range (n l h : Int)
structure ECs where
  nm : Addr
  num : Addr
  sp : Addr
  dbl : Addr
  self : Addr
  unk : Addr
  rng : Addr
def ECs.of (c : ECs) : PErr → Addr
  | .name _ => c.nm | .num _ => c.num | .span _ _ => c.sp | .dbl _ => c.dbl | .self _ => c.self | .unk _ => c.unk | .range _ _ _ => c.rng
def PErr.flds : PErr → List (Str × V)
  | .name z => [("name", .str z)] | .num v => [("number", v)] | .span l h => [("high", h), ("low", l)] | .dbl z => [("name", .str z)] | .self z => [("bond", .str z)] | .unk z => [("name", .str z)]
  | .range n l h => [("high", .int h), ("low", .int l), ("number", .int n)]
def Raises (c : ECs) (E : XK) (H : Hp) (e : PErr) : Prop := ErrF E (c.of e) H e.flds
theorem Raises.same {c : ECs} {E : XK} {H H' : Hp} {e : PErr} (h : Raises c E H e) (s : Same H H') : Raises c E H' e := ErrF.same h s
abbrev lampNs (L : List (Str × V)) : List Str := L.map (·.1)
abbrev bondNs (B : List BR) : List Str := B.map (·.n)
def numsOf (L : List (Str × V)) (B : List BR) : List V := L.map (·.2) ++ B.flatMap fun r => [r.l, r.h]
def endsOf (B : List BR) : List Str := B.flatMap fun r => [r.x, r.y]
section
variable {P : Program} {w : World} {K : PySem.W.Frag} {mg : Str → Option Value} {base : Heap} {C CE CB CD : Addr} {U : Addr → Prop}
theorem RowsD.row {α : Type} {R : PyData → α → Prop} {d : PyData} {L : List α} (h : RowsD R d L) {i : Nat} {e : PyData} (he : (kids d)[i]? = some e) : ∃ r, L[i]? = some r ∧ R e r ∧ L = L.take i ++ r :: L.drop (i + 1) := by
  obtain ⟨r, h1, h2⟩ := h.at_ i e he
  refine ⟨r, h1, h2, ?_⟩
  obtain ⟨hl, e1⟩ := List.getElem?_eq_some_iff.mp h1
  rw [← e1]; simp
theorem take_succ {α : Type} {L : List α} {i : Nat} {r : α} (h : L[i]? = some r) : L.take (i + 1) = L.take i ++ [r] := by rw [List.take_add_one, h]; rfl
theorem isOpen_NI {x : V} (h : isOpen x = true) : NI x := by
  cases x <;> first | exact .inl rfl | exact .inr ⟨_, rfl⟩ | cases h
theorem RepQ.any {H : Hp} {v : V} {d : PyData} (h : RepQ K U H v d) : RepQ K (fun _ => True) H v d := h.to fun p o _ e => ⟨trivial, e⟩
theorem rep2 {H : Hp} {xs : List V} {a b : PyData} (h : RepL U H xs [a, b]) : ∃ u v, xs = [u, v] ∧ Rep U H u a ∧ Rep U H v b := by
  cases h with
  | cons h1 h => cases h with
    | cons h2 h => cases h; exact ⟨_, _, rfl, h1, h2⟩
theorem rep5 {H : Hp} {xs : List V} {a b c d e : PyData} (h : RepL U H xs [a, b, c, d, e]) : ∃ u v w x y, xs = [u, v, w, x, y] ∧ Rep U H u a ∧ Rep U H v b ∧ Rep U H w c ∧ Rep U H x d ∧ Rep U H y e := by
  cases h with
  | cons h1 h => cases h with
    | cons h2 h => cases h with
      | cons h3 h => cases h with
        | cons h4 h => cases h with
          | cons h5 h => cases h; exact ⟨_, _, _, _, _, rfl, h1, h2, h3, h4, h5⟩
def spRowNums (K : PySem.W.Frag) (CE CB : Addr) : Sp := fun vs H Q E => ∃ (U : Addr → Prop) (lv bv : V) (dl db : PyData) (L : List (Str × V)) (B : List BR), vs = [lv, bv] ∧ RepQ K U H lv dl ∧ RepQ K U H bv db ∧ RowsD LampRow dl L ∧ RowsD BondRow db B ∧ B.length ≤ 1000 ∧
  ((∀ v ∈ numsOf L B, isOpen v = true) → (∀ r ∈ B, crossed r.l r.h = false) → ∀ H', Same H H' → Q .non H') ∧ (∀ v, First (fun v => isOpen v = false) (numsOf L B) v → Err E CE H v) ∧ (∀ r, (∀ v ∈ numsOf L B, isOpen v = true) → First (fun r : BR => crossed r.l r.h = true) B r → ErrB E CB H r.l r.h)
def spanOf (e : PyData) : PyData := .tuple [(kids e).getD 3 .none, (kids e).getD 4 .none]
def spanD (r : BR) : PyData := .tuple [vD r.l, vD r.h]
theorem Ex.toSame {H H' : Hp} (e : Ex (fun _ => True) H H') : Same H H' := fun p o h => e.keep p o trivial h
theorem nums_first {L : List (Str × V)} {B : List BR} {i : Nat} {r : Str × V} (h : L[i]? = some r) (ho : ∀ q ∈ L.take i, isOpen q.2 = true) (hb : isOpen r.2 = false) : First (fun v => isOpen v = false) (numsOf L B) r.2 := by
  obtain ⟨hl, e1⟩ := List.getElem?_eq_some_iff.mp h
  have eL : L = L.take i ++ r :: L.drop (i + 1) := by rw [← e1]; simp
  refine ⟨(L.take i).map (·.2), (L.drop (i + 1)).map (·.2) ++ B.flatMap fun r => [r.l, r.h], ?_, fun u hu => ?_, hb⟩
  · unfold numsOf
    conv => lhs; rw [eL]
    simp
  · obtain ⟨q, hq, rfl⟩ := List.mem_map.mp hu
    simp [ho q hq]
theorem nums_first2 {L : List (Str × V)} {B : List BR} {i : Nat} {r : BR} (h : B[i]? = some r) (hL : ∀ q ∈ L, isOpen q.2 = true) (ho : ∀ q ∈ B.take i, isOpen q.l = true ∧ isOpen q.h = true) :
    (isOpen r.l = false → First (fun v => isOpen v = false) (numsOf L B) r.l) ∧ (isOpen r.l = true → isOpen r.h = false → First (fun v => isOpen v = false) (numsOf L B) r.h) := by
  obtain ⟨hl, e1⟩ := List.getElem?_eq_some_iff.mp h
  have eB : B = B.take i ++ r :: B.drop (i + 1) := by rw [← e1]; simp
  have hpre : ∀ u ∈ L.map (·.2) ++ (B.take i).flatMap fun r => [r.l, r.h], ¬ isOpen u = false := fun u hu => by
    rcases List.mem_append.mp hu with hu | hu
    · obtain ⟨q, hq, rfl⟩ := List.mem_map.mp hu
      simp [hL q hq]
    · obtain ⟨q, hq, hu⟩ := List.mem_flatMap.mp hu
      obtain ⟨a, b⟩ := ho q hq
      simp at hu
      rcases hu with rfl | rfl
      · rw [a]; simp
      · rw [b]; simp
  refine ⟨fun hb => ⟨_, r.h :: (B.drop (i + 1)).flatMap fun r => [r.l, r.h], ?_, hpre, hb⟩, fun ha hb => ⟨(L.map (·.2) ++ (B.take i).flatMap fun r => [r.l, r.h]) ++ [r.l], (B.drop (i + 1)).flatMap fun r => [r.l, r.h], ?_, fun u hu => ?_, hb⟩⟩
  · unfold numsOf
    conv => lhs; rw [eB]
    simp
  · unfold numsOf
    conv => lhs; rw [eB]
    simp
  · rcases List.mem_append.mp hu with hu | hu
    · exact hpre u hu
    · rw [List.mem_singleton.mp hu]; simp [ha]
theorem nums_all {L : List (Str × V)} {B : List BR} (hL : ∀ q ∈ L, isOpen q.2 = true) (hB : ∀ q ∈ B, isOpen q.l = true ∧ isOpen q.h = true) : ∀ v ∈ numsOf L B, isOpen v = true := fun v hv => by
  rcases List.mem_append.mp hv with hu | hu
  · obtain ⟨q, hq, rfl⟩ := List.mem_map.mp hu
    exact hL q hq
  · obtain ⟨q, hq, hu⟩ := List.mem_flatMap.mp hu
    obtain ⟨a, b⟩ := hB q hq
    simp at hu
    rcases hu with rfl | rfl
    · exact a
    · exact b
theorem first_at {B : List BR} {p : BR → Prop} {i : Nat} {r : BR} (h : B[i]? = some r) (ho : ∀ q ∈ B.take i, ¬ p q) (hb : p r) : First p B r := by
  obtain ⟨hl, e1⟩ := List.getElem?_eq_some_iff.mp h
  exact ⟨B.take i, B.drop (i + 1), by rw [← e1]; simp, ho, hb⟩
theorem take_all {α : Type} {L : List α} {p : α → Prop} {i : Nat} {r : α} (h : L[i]? = some r) (ho : ∀ q ∈ L.take i, p q) (hr : p r) : ∀ q ∈ L.take (i + 1), p q := fun q hq => by
  rw [take_succ h] at hq
  rcases List.mem_append.mp hq with hq | hq
  · exact ho q hq
  · rw [List.mem_singleton.mp hq]; exact hr
theorem ok_check_row_numbers {k : Nat} {f : Addr} {fd : FuncData} (F : Fun K "check_row_numbers" "check_row_numbers" scheck_row_numbers f fd) (T : Blt mg) (Hcheck_open_number : HasX P w K mg base "check_open_number" k ["value"] (spCheckO CE)) (Hcheck_low_high : HasX P w K mg base "check_low_high" k ["low", "high"] (spLowHigh CB)) : FnOk P w K mg base (L2.CX P w) (k + 1) f fd ["lamps", "bonds"] (spRowNums K CE CB) := by
  refine F.okX sccheck_row_numbers (fun vs H Q E h => ?_) (fun cdv A outer s H vs Q E hr h => ?_)
  · obtain ⟨U, lv, bv, dl, db, L, B, rfl, _⟩ := h; rfl
  · obtain ⟨U0, lv, bv, dl, db, L, B, rfl, hl, hb, rl, rb, lB, h1, h2, h3⟩ := h
    refine ⟨_, (pss_cons (ps_for (passes_of rfl) rfl (pi_seq (pv 0)) (pg_seqU (K := K) rfl rfl (pgs_cons (pg_name (i := 2) sccheck_row_numbers.nd rfl (.inl rfl)) (pgs_cons (pg_name (i := 3) sccheck_row_numbers.nd rfl (.inl rfl)) pgs_nil))) (pss_one (ps_expr (pe_callX Hcheck_open_number hr (by rfl) (takes_of rfl rfl rfl rfl) (pa_cons (pv 3) pa_nil)))))
 (pss_cons (ps_setLc (i := 4) (own := [("_", 2), ("low", 5), ("high", 6)]) (g := (gSeq K 5 (gCons (gName 2) (gCons (gName 2) (gCons (gName 2) (gCons (gName 5) (gCons (gName 6) gNil))))))) (by rfl) sccheck_row_numbers.nd rfl rfl (sw_true rfl rfl rfl (by decide +kernel)) (pi_seq (pv 1)) (blkOk_by (own := [("_", 2), ("low", 5), ("high", 6)]) (N := ["lamps", "bonds", "_", "ceiling", "spans", "low", "high"]) (sc := defScope scheck_row_numbers) (by decide +kernel)) (fun _ _ _ _ _ => (pg_seqU (K := K) rfl rfl (pgs_cons (pg_name (i := 2) sccheck_row_numbers.nd rfl (.inl rfl)) (pgs_cons (pg_name (i := 2) sccheck_row_numbers.nd rfl (.inl rfl)) (pgs_cons (pg_name (i := 2) sccheck_row_numbers.nd rfl (.inl rfl)) (pgs_cons (pg_name (i := 5) sccheck_row_numbers.nd rfl (.inl rfl)) (pgs_cons (pg_name (i := 6) sccheck_row_numbers.nd rfl (.inl rfl)) pgs_nil))))))) (fun _ _ _ _ _ => pts_nil) (fun _ _ _ _ _ => (pe_tup (pa_cons (pv 5) (pa_cons (pv 6) pa_nil)))))
 (pss_cons (ps_for (passes_of rfl) rfl (pi_seq (pv 4)) (pg_seqU (K := K) rfl rfl (pgs_cons (pg_name (i := 5) sccheck_row_numbers.nd rfl (.inl rfl)) (pgs_cons (pg_name (i := 6) sccheck_row_numbers.nd rfl (.inl rfl)) pgs_nil))) (pss_cons (ps_expr (pe_callX Hcheck_open_number hr (by rfl) (takes_of rfl rfl rfl rfl) (pa_cons (pv 5) pa_nil)))
 (pss_one (ps_expr (pe_callX Hcheck_open_number hr (by rfl) (takes_of rfl rfl rfl rfl) (pa_cons (pv 6) pa_nil))))))
 (pss_one (ps_for (passes_of rfl) rfl (pi_seq (pv 4)) (pg_seqU (K := K) rfl rfl (pgs_cons (pg_name (i := 5) sccheck_row_numbers.nd rfl (.inl rfl)) (pgs_cons (pg_name (i := 6) sccheck_row_numbers.nd rfl (.inl rfl)) pgs_nil))) (pss_one (ps_expr (pe_callX Hcheck_low_high hr (by rfl) (takes_of rfl rfl rfl rfl) (pa_cons (pv 5) (pa_cons (pv 6) pa_nil)))))))))), ?_⟩
    walk_at "rdF"
    refine for_seqR (U := fun _ => True) hl.any rl.sq (fun i σ H' => ∃ y2 y3, σ = [some lv, some bv, y2, y3, none, none, none] ∧ Same H H' ∧ ∀ r ∈ L.take i, isOpen r.2 = true) ⟨_, _, rfl, Same.refl _, by simp⟩ (fun i σ H' h => ?_) ?_ ?_
    · obtain ⟨_, _, _, s, _⟩ := h; exact .same s
    · rintro i x e σ H' he hx ⟨y2, y3, rfl, sm, ho⟩
      obtain ⟨r, hr', lr, _⟩ := rl.row he
      refine rd_gSeq hx lr.1 (by rw [lr.2.1]; rfl) fun xs rx => ?_
      rw [lr.2.1] at rx
      obtain ⟨u, v, rfl, ru, rv⟩ := rep2 rx
      cases ru.strI
      cases rv.scI lr.2.2.2
      walk_at "rdF"
      refine ⟨_, rfl, lr.2.2.2, fun ok => ?_, fun bad => ?_⟩
      · walk_at "rdF"
        exact ⟨_, _, rfl, sm, take_all hr' ho ok⟩
      · exact ErrF.same (fs := [("number", r.2)]) (h2 _ (nums_first hr' ho bad)) sm
    · rintro σ H1 ⟨y2, y3, rfl, s1, hL⟩
      rw [rl.len, List.take_length] at hL
      walk_at "rdF"
      refine lc_seq (U := fun _ => True) (fun ds => ds.map spanOf) (fun _ => True) (hb.any.same s1) rb.sq (fun _ _ => trivial) rfl (fun _ _ => trivial) ?_ ?_
      · rintro D i x e H' uD nD he hx hI
        obtain ⟨r, hr', br, _⟩ := rb.row he
        refine rd_gSeq hx br.1 (by rw [br.2.1]; rfl) fun xs rx => ?_
        rw [br.2.1] at rx
        obtain ⟨a1, a2, a3, a4, a5, rfl, r1, r2, r3, r4, r5⟩ := rep5 rx
        cases r4.scI br.2.2.2.1
        cases r5.scI br.2.2.2.2
        walk_at "rdF"
        refine ⟨rfl, ?_⟩
        walk_at "rdF"
        refine ⟨sz (by simp), fun p np => ?_⟩
        refine hI.put (e := spanD r) (.new np) trivial nD (fun _ => trivial) (.tup ⟨trivial, hI.ne np⟩ upd_same (.cons (.sc br.2.2.2.1) (.cons (.sc br.2.2.2.2) .nil))) ?_ ?_
        · rw [List.length_map, List.length_take, rb.len]; omega
        · rw [take_succ he, List.map_append]
          show _ = _ ++ [spanD r]
          unfold spanD
          show _ ++ [spanOf e] = _
          unfold spanOf
          rw [br.2.1]; rfl
      · rintro sp acc H2 e2 _ _ hsp hacc _
        have s2 := s1.trans e2.toSame
        have rsp : Rep (fun _ => True) H2 (.ref sp) (.list ((kids db).map spanOf)) := .lst trivial hsp (hacc.less fun _ _ => trivial)
        have row : ∀ (i : Nat) (e : PyData), (kids (.list ((kids db).map spanOf)))[i]? = some e → ∃ r, B[i]? = some r ∧ e = spanD r ∧ Sc r.l ∧ Sc r.h := fun i e he => by
          have he : ((kids db).map spanOf)[i]? = some e := he
          rw [List.getElem?_map] at he
          cases q : (kids db)[i]? with
          | none => rw [q] at he; cases he
          | some e0 =>
            rw [q] at he
            obtain ⟨r, hr', br, _⟩ := rb.row q
            have e1 : spanOf e0 = e := Option.some.inj he
            refine ⟨r, hr', ?_, br.2.2.2.1, br.2.2.2.2⟩
            rw [← e1]; unfold spanOf spanD; rw [br.2.1]; rfl
        have lsp : (kids (.list ((kids db).map spanOf))).length = B.length := by show ((kids db).map spanOf).length = _; rw [List.length_map, rb.len]
        walk_at "rdF"
        refine for_seqR (U := fun _ => True) (.inl rsp) rfl (fun i σ H' => ∃ y2 y3 y5 y6, σ = [some lv, some bv, y2, y3, some (.ref sp), y5, y6] ∧ Same H2 H' ∧ ∀ r ∈ B.take i, isOpen r.l = true ∧ isOpen r.h = true) ⟨_, _, _, _, rfl, Same.refl _, by simp⟩ (fun i σ H' h => ?_) ?_ ?_
        · obtain ⟨_, _, _, _, _, s, _⟩ := h; exact .same s
        · rintro i x e σ H' he hx ⟨y2, y3, y5, y6, rfl, sm, ho⟩
          obtain ⟨r, hr', rfl, sl, sh⟩ := row i e he
          obtain ⟨f1, f2⟩ := nums_first2 hr' hL ho
          refine rd_gSeq hx rfl rfl fun xs rx => ?_
          obtain ⟨u, v, rfl, ru, rv⟩ := rep2 rx
          cases ru.scI sl
          cases rv.scI sh
          walk_at "rdF"
          refine ⟨_, rfl, sl, fun ok => ?_, fun bad => ErrF.same (fs := [("number", r.l)]) (h2 _ (f1 bad)) (s2.trans sm)⟩
          walk_at "rdF"
          refine ⟨_, rfl, sh, fun ok2 => ?_, fun bad => ErrF.same (fs := [("number", r.h)]) (h2 _ (f2 ok bad)) (s2.trans sm)⟩
          walk_at "rdF"
          exact ⟨_, _, _, _, rfl, sm, take_all hr' ho ⟨ok, ok2⟩⟩
        · rintro σ H3 ⟨y2, y3, y5, y6, rfl, s3, hB⟩
          rw [lsp, List.take_length] at hB
          walk_at "rdF"
          refine for_seqR (U := fun _ => True) (.inl (rsp.same s3)) rfl (fun i σ H' => ∃ y2 y3 y5 y6, σ = [some lv, some bv, y2, y3, some (.ref sp), y5, y6] ∧ Same H3 H' ∧ ∀ r ∈ B.take i, ¬ crossed r.l r.h = true) ⟨_, _, _, _, rfl, Same.refl _, by simp⟩ (fun i σ H' h => ?_) ?_ ?_
          · obtain ⟨_, _, _, _, _, s, _⟩ := h; exact .same s
          · rintro i x e σ H' he hx ⟨y2, y3, y5, y6, rfl, sm, ho⟩
            obtain ⟨r, hr', rfl, sl, sh⟩ := row i e he
            obtain ⟨ol, oh⟩ := hB r (List.mem_of_getElem? hr')
            refine rd_gSeq hx rfl rfl fun xs rx => ?_
            obtain ⟨u, v, rfl, ru, rv⟩ := rep2 rx
            cases ru.scI sl
            cases rv.scI sh
            walk_at "rdF"
            refine ⟨_, _, rfl, isOpen_NI ol, isOpen_NI oh, fun ok => ?_, fun bad => ErrF.same (fs := [("high", r.h), ("low", r.l)]) (h3 r (nums_all hL hB) (first_at hr' ho bad)) ((s2.trans s3).trans sm)⟩
            walk_at "rdF"
            exact ⟨_, _, _, _, rfl, sm, take_all hr' ho (by simp [ok])⟩
          · rintro σ H4 ⟨y2, y3, y5, y6, rfl, s4, hC⟩
            rw [lsp, List.take_length] at hC
            walk_at "rdF"
            exact h1 (nums_all hL hB) (fun r hr => by simpa using hC r hr) H4 ((s2.trans s3).trans s4)
end
abbrev scheck_row_ends : Stmt := topS 39
theorem sccheck_row_ends : FnScope ["lamp_names", "bonds", "bond", "first", "second", "_", "end"] ["lamp_names", "bonds"] (defScope scheck_row_ends) := ⟨rfl, rfl, rfl, by decide +kernel, rfl, by decide +kernel, by decide +kernel⟩
abbrev scheck_rows : Stmt := topS 37
theorem sccheck_rows : FnScope ["lamps", "bonds", "lamp_names", "bond_names", "name", "row"] ["lamps", "bonds"] (defScope scheck_rows) := ⟨rfl, rfl, rfl, by decide +kernel, rfl, by decide +kernel, by decide +kernel⟩
abbrev skept_bond_row : Stmt := topS 40
theorem sckept_bond_row : FnScope ["row", "name", "first", "second", "low", "high"] ["row"] (defScope skept_bond_row) := ⟨rfl, rfl, rfl, by decide +kernel, rfl, by decide +kernel, by decide +kernel⟩
section
variable {P : Program} {w : World} {K : PySem.W.Frag} {mg : Str → Option Value} {base : Heap} {C CE CB CD CU CS CN CR : Addr}
def spRowEnds (K : PySem.W.Frag) (CS CU : Addr) : Sp := fun vs H Q E => ∃ (U : Addr → Prop) (np : Addr) (bv : V) (db : PyData) (N : List Str) (B : List BR), vs = [.ref np, bv] ∧ H np = some (.lst (N.map V.str)) ∧ RepQ K U H bv db ∧ RowsD BondRow db B ∧
  ((∀ r ∈ B, r.x ≠ r.y) → (∀ z ∈ endsOf B, z ∈ N) → ∀ H', Same H H' → Q .non H') ∧ (∀ r, First (fun r : BR => r.x = r.y) B r → ErrF E CS H [("bond", .str r.n)]) ∧ (∀ z, (∀ r ∈ B, r.x ≠ r.y) → First (fun z => z ∉ N) (endsOf B) z → ErrF E CU H [("name", .str z)])
theorem ends_first {B : List BR} {N : List Str} {i : Nat} {r : BR} (h : B[i]? = some r) (ho : ∀ q ∈ B.take i, q.x ∈ N ∧ q.y ∈ N) :
    (r.x ∉ N → First (fun z => z ∉ N) (endsOf B) r.x) ∧ (r.x ∈ N → r.y ∉ N → First (fun z => z ∉ N) (endsOf B) r.y) := by
  obtain ⟨hl, e1⟩ := List.getElem?_eq_some_iff.mp h
  have eB : B = B.take i ++ r :: B.drop (i + 1) := by rw [← e1]; simp
  have hpre : ∀ u ∈ (B.take i).flatMap fun r => [r.x, r.y], ¬ u ∉ N := fun u hu => by
    obtain ⟨q, hq, hu⟩ := List.mem_flatMap.mp hu
    obtain ⟨a, b⟩ := ho q hq
    simp at hu
    rcases hu with rfl | rfl
    · exact fun c => c a
    · exact fun c => c b
  refine ⟨fun hb => ⟨_, r.y :: (B.drop (i + 1)).flatMap fun r => [r.x, r.y], ?_, hpre, hb⟩, fun ha hb => ⟨((B.take i).flatMap fun r => [r.x, r.y]) ++ [r.x], (B.drop (i + 1)).flatMap fun r => [r.x, r.y], ?_, fun u hu => ?_, hb⟩⟩
  · unfold endsOf
    conv => lhs; rw [eB]
    simp
  · unfold endsOf
    conv => lhs; rw [eB]
    simp
  · rcases List.mem_append.mp hu with hu | hu
    · exact hpre u hu
    · rw [List.mem_singleton.mp hu]; exact fun c => c ha
theorem ends_all {B : List BR} {N : List Str} (h : ∀ q ∈ B, q.x ∈ N ∧ q.y ∈ N) : ∀ z ∈ endsOf B, z ∈ N := fun z hz => by
  obtain ⟨q, hq, hu⟩ := List.mem_flatMap.mp hz
  simp at hu
  rcases hu with rfl | rfl
  · exact (h q hq).1
  · exact (h q hq).2
theorem decStr {a b : Str} : decide (V.str a = V.str b) = decide (a = b) := by simp
theorem ok_check_row_ends {k : Nat} {f : Addr} {fd : FuncData} (F : Fun K "check_row_ends" "check_row_ends" scheck_row_ends f fd) (T : Blt mg) (E_SelfBond : ErrC K mg "SelfBond" CS) (I_SelfBond : HasI P w K mg base CS 1 ["self", "bond"] (spInit1 K "bond")) (N1 : PySem.W.findIn K (.ref CS) "bond" = some none) (E_Unknown : ErrC K mg "Unknown" CU) (I_Unknown : HasI P w K mg base CU 1 ["self", "name"] (spInit1 K "name")) (N2 : PySem.W.findIn K (.ref CU) "name" = some none) (hk : 2 ≤ k) : FnOk P w K mg base (L2.CX P w) (k + 1) f fd ["lamp_names", "bonds"] (spRowEnds K CS CU) := by
  refine F.okX sccheck_row_ends (fun vs H Q E h => ?_) (fun cdv A outer s H vs Q E hr h => ?_)
  · obtain ⟨U, np, bv, db, N, B, rfl, _⟩ := h; rfl
  · obtain ⟨U0, np, bv, db, N, B, rfl, hN, hb, rb, h1, h2, h3⟩ := h
    refine ⟨_, (pss_cons (ps_for (passes_of rfl) rfl (pi_seq (pv 1)) (pg_seqU (K := K) rfl rfl (pgs_cons (pg_name (i := 2) sccheck_row_ends.nd rfl (.inl rfl)) (pgs_cons (pg_name (i := 3) sccheck_row_ends.nd rfl (.inl rfl)) (pgs_cons (pg_name (i := 4) sccheck_row_ends.nd rfl (.inl rfl)) (pgs_cons (pg_name (i := 5) sccheck_row_ends.nd rfl (.inl rfl)) (pgs_cons (pg_name (i := 5) sccheck_row_ends.nd rfl (.inl rfl)) pgs_nil)))))) (pss_one (ps_if (pt_cmpR op_eq (pv 3) (pv 4) (nomark _)) (pss_one (ps_raiseC rfl (takes_of rfl rfl rfl rfl) E_SelfBond I_SelfBond hr (by omega) (by rfl) (pa_cons (pv 2) pa_nil))) pss_nil)))
 (pss_one (ps_for (passes_of rfl) rfl (pi_seq (pv 1)) (pg_seqU (K := K) rfl rfl (pgs_cons (pg_name (i := 5) sccheck_row_ends.nd rfl (.inl rfl)) (pgs_cons (pg_name (i := 3) sccheck_row_ends.nd rfl (.inl rfl)) (pgs_cons (pg_name (i := 4) sccheck_row_ends.nd rfl (.inl rfl)) (pgs_cons (pg_name (i := 5) sccheck_row_ends.nd rfl (.inl rfl)) (pgs_cons (pg_name (i := 5) sccheck_row_ends.nd rfl (.inl rfl)) pgs_nil)))))) (pss_one (ps_for (passes_of rfl) rfl (pi_tup (pe_tup (pa_cons (pv 3) (pa_cons (pv 4) pa_nil)))) (pg_name (i := 6) sccheck_row_ends.nd rfl (.inl rfl)) (pss_one (ps_if (pt_cmpR (op_notin_seqR (K := K) rfl) (pv 6) (pv 0) (by rfl)) (pss_one (ps_raiseC rfl (takes_of rfl rfl rfl rfl) E_Unknown I_Unknown hr (by omega) (by rfl) (pa_cons (pv 6) pa_nil))) pss_nil))))))), ?_⟩
    walk_at "rdF"
    refine for_seqR (U := fun _ => True) hb.any rb.sq (fun i σ H' => ∃ y2 y3 y4 y5 y6, σ = [some (.ref np), some bv, y2, y3, y4, y5, y6] ∧ Same H H' ∧ ∀ r ∈ B.take i, ¬ r.x = r.y) ⟨_, _, _, _, _, rfl, Same.refl _, by simp⟩ (fun i σ H' h => ?_) ?_ ?_
    · obtain ⟨_, _, _, _, _, _, s, _⟩ := h; exact .same s
    · rintro i x e σ H' he hx ⟨y2, y3, y4, y5, y6, rfl, sm, ho⟩
      obtain ⟨r, hr', br, _⟩ := rb.row he
      refine rd_gSeq hx br.1 (by rw [br.2.1]; rfl) fun xs rx => ?_
      rw [br.2.1] at rx
      obtain ⟨a1, a2, a3, a4, a5, rfl, r1, r2, r3, r4, r5⟩ := rep5 rx
      cases r1.strI
      cases r2.strI
      cases r3.strI
      walk_at "rdF"
      rw [decStr]
      refine if_dec (fun hxy => ?_) (fun hxy => ?_)
      · walk_at "rdF"
        exact rd_mk1 E_SelfBond.ox N1 fun d H'' _ s' e' => h2 r (first_at hr' ho hxy) d H'' (sm.trans s') e'
      · walk_at "rdF"
        exact ⟨_, _, _, _, _, rfl, sm, take_all hr' ho hxy⟩
    · rintro σ H1 ⟨y2, y3, y4, y5, y6, rfl, s1, hS⟩
      rw [rb.len, List.take_length] at hS
      walk_at "rdF"
      refine for_seqR (U := fun _ => True) (hb.any.same s1) rb.sq (fun i σ H' => ∃ y2 y3 y4 y5 y6, σ = [some (.ref np), some bv, y2, y3, y4, y5, y6] ∧ Same H1 H' ∧ ∀ r ∈ B.take i, r.x ∈ N ∧ r.y ∈ N) ⟨_, _, _, _, _, rfl, Same.refl _, by simp⟩ (fun i σ H' h => ?_) ?_ ?_
      · obtain ⟨_, _, _, _, _, _, s, _⟩ := h; exact .same s
      · rintro i x e σ H' he hx ⟨y2, y3, y4, y5, y6, rfl, sm, ho⟩
        obtain ⟨r, hr', br, _⟩ := rb.row he
        obtain ⟨f1, f2⟩ := ends_first (N := N) hr' ho
        have sA := s1.trans sm
        refine rd_gSeq hx br.1 (by rw [br.2.1]; rfl) fun xs rx => ?_
        rw [br.2.1] at rx
        obtain ⟨a1, a2, a3, a4, a5, rfl, r1, r2, r3, r4, r5⟩ := rep5 rx
        cases r1.strI
        cases r2.strI
        cases r3.strI
        walk_at "rdF"
        refine ⟨sz (by simp), fun tp ntp => ?_⟩
        have st := same_new (o := .tup [.str r.x, .str r.y]) ntp
        refine ⟨tp, rfl, ⟨_, st_of upd_same⟩, L2.for_tup (xs := [.str r.x, .str r.y]) (fun j σ H'' => ∃ y2 y3 y4 y5 y6, σ = [some (.ref np), some bv, y2, y3, y4, y5, y6] ∧ Same (upd H' tp (.tup [.str r.x, .str r.y])) H'' ∧ (1 ≤ j → r.x ∈ N) ∧ (2 ≤ j → r.y ∈ N)) ⟨_, _, _, _, _, rfl, Same.refl _, by simp, by simp⟩ (fun j σ H'' _ h => ?_) ?_ ?_⟩
        · obtain ⟨_, _, _, _, _, _, s, _⟩ := h
          exact st_of (s _ _ upd_same)
        · rintro j v σ H'' hv ⟨y2, y3, y4, y5, y6, rfl, sm2, hx1, hx2⟩
          have sB := (sA.trans st).trans sm2
          have hN' := sB _ _ hN
          have hv' : ∃ z, v = .str z ∧ ((j = 0 ∧ z = r.x) ∨ (j = 1 ∧ z = r.y)) := by
            match j with
            | 0 => simp at hv; exact ⟨_, hv.symm, .inl ⟨rfl, rfl⟩⟩
            | 1 => simp at hv; exact ⟨_, hv.symm, .inr ⟨rfl, rfl⟩⟩
            | j + 2 => simp at hv
          obtain ⟨z, rfl, hz⟩ := hv'
          walk_at "rdF"
          refine ⟨np, _, rfl, .inl (sl_of hN'), rfl, flat_strs _, ?_⟩
          rw [inV_strs]
          refine ⟨_, rfl, ?_⟩
          refine if_ndec (fun hn => ?_) (fun hn => ?_)
          · walk_at "rdF"
            refine rd_mk1 E_Unknown.ox N2 fun d H3 _ s' e' => ?_
            refine h3 z hS ?_ d H3 (sB.trans s') e'
            rcases hz with ⟨rfl, rfl⟩ | ⟨rfl, rfl⟩
            · exact f1 hn
            · exact f2 (hx1 (by omega)) hn
          · walk_at "rdF"
            refine ⟨_, _, _, _, _, rfl, sm2, fun _ => ?_, fun _ => ?_⟩
            · rcases hz with ⟨rfl, rfl⟩ | ⟨rfl, rfl⟩
              · exact hn
              · exact hx1 (by omega)
            · rcases hz with ⟨rfl, rfl⟩ | ⟨rfl, rfl⟩
              · omega
              · exact hn
        · rintro σ H'' ⟨y2, y3, y4, y5, y6, rfl, sm2, hx1, hx2⟩
          exact ⟨_, _, _, _, _, rfl, (sm.trans st).trans sm2, take_all hr' ho ⟨hx1 (by simp), hx2 (by simp)⟩⟩
      · rintro σ H2 ⟨y2, y3, y4, y5, y6, rfl, s2, hE⟩
        rw [rb.len, List.take_length] at hE
        walk_at "rdF"
        exact h1 hS (ends_all hE) H2 (s1.trans s2)
structure Right1 (L : List (Str × V)) (B : List BR) : Prop where
  nm : ∀ z ∈ lampNs L ++ bondNs B, isNm z = true
structure Right2 (L : List (Str × V)) (B : List BR) : Prop extends Right1 L B where
  num : ∀ v ∈ numsOf L B, isOpen v = true
structure Right3 (L : List (Str × V)) (B : List BR) : Prop extends Right2 L B where
  sp : ∀ r ∈ B, crossed r.l r.h = false
structure Right4 (L : List (Str × V)) (B : List BR) : Prop extends Right3 L B where
  dl : (lampNs L).Nodup
structure Right5 (L : List (Str × V)) (B : List BR) : Prop extends Right4 L B where
  db : (bondNs B).Nodup
structure Right6 (L : List (Str × V)) (B : List BR) : Prop extends Right5 L B where
  sf : ∀ r ∈ B, r.x ≠ r.y
structure Right7 (L : List (Str × V)) (B : List BR) : Prop extends Right6 L B where
  unk : ∀ z ∈ endsOf B, z ∈ lampNs L
structure Right8 (L : List (Str × V)) (B : List BR) : Prop extends Right7 L B where
  l1 : 1 ≤ L.length
  l10 : L.length ≤ 10
structure Right (L : List (Str × V)) (B : List BR) : Prop extends Right8 L B where
  l16 : B.length ≤ 16
inductive Wrong (L : List (Str × V)) (B : List BR) : PErr → Prop where
  | name {z : Str} : First (fun z => isNm z = false) (lampNs L ++ bondNs B) z → Wrong L B (.name z)
  | num {v : V} : Right1 L B → First (fun v => isOpen v = false) (numsOf L B) v → Wrong L B (.num v)
  | span {r : BR} : Right2 L B → First (fun r : BR => crossed r.l r.h = true) B r → Wrong L B (.span r.l r.h)
  | dblL {z : Str} : Right3 L B → firstDup [] (lampNs L) = some z → Wrong L B (.dbl z)
  | dblB {z : Str} : Right4 L B → firstDup [] (bondNs B) = some z → Wrong L B (.dbl z)
  | self {r : BR} : Right5 L B → First (fun r : BR => r.x = r.y) B r → Wrong L B (.self r.n)
  | unk {z : Str} : Right6 L B → First (fun z => z ∉ lampNs L) (endsOf B) z → Wrong L B (.unk z)
  | lamps : Right7 L B → ¬ ((1 : Int) ≤ L.length ∧ (L.length : Int) ≤ 10) → Wrong L B (.range L.length 1 10)
  | bonds : Right8 L B → ¬ ((0 : Int) ≤ B.length ∧ (B.length : Int) ≤ 16) → Wrong L B (.range B.length 0 16)
def spCheckRows (K : PySem.W.Frag) (c : ECs) : Sp := fun vs H Q E => ∃ (U : Addr → Prop) (lv bv : V) (dl db : PyData) (L : List (Str × V)) (B : List BR), vs = [lv, bv] ∧ RepQ K U H lv dl ∧ RepQ K U H bv db ∧ RowsD LampRow dl L ∧ RowsD BondRow db B ∧ L.length ≤ 1000 ∧ B.length ≤ 1000 ∧
  (Right L B → ∀ H', Same H H' → Q .non H') ∧ (∀ e, Wrong L B e → Raises c E H e)
theorem heads_l {dl : PyData} {L : List (Str × V)} (h : RowsD LampRow dl L) : (kids dl).map (fun e => (kids e).getD 0 .none) = (lampNs L).map PyData.str := by
  apply List.ext_getElem?
  intro i
  rw [List.getElem?_map, List.getElem?_map, List.getElem?_map]
  cases q : (kids dl)[i]? with
  | none =>
    have hl := List.getElem?_eq_none_iff.mp q
    rw [List.getElem?_eq_none (by rw [← h.len]; exact hl)]; rfl
  | some e =>
    obtain ⟨r, h1, h2, _⟩ := h.row q
    rw [h1]
    show some ((kids e).getD 0 .none) = _
    rw [h2.2.1]; rfl
theorem heads_b {db : PyData} {B : List BR} (h : RowsD BondRow db B) : (kids db).map (fun e => (kids e).getD 0 .none) = (bondNs B).map PyData.str := by
  apply List.ext_getElem?
  intro i
  rw [List.getElem?_map, List.getElem?_map, List.getElem?_map]
  cases q : (kids db)[i]? with
  | none =>
    have hl := List.getElem?_eq_none_iff.mp q
    rw [List.getElem?_eq_none (by rw [← h.len]; exact hl)]; rfl
  | some e =>
    obtain ⟨r, h1, h2, _⟩ := h.row q
    rw [h1]
    show some ((kids e).getD 0 .none) = _
    rw [h2.2.1]; rfl
theorem name_len {dl : PyData} {L : List (Str × V)} (h : RowsD LampRow dl L) : ∀ z ∈ lampNs L, z.length ≤ 1000 := fun z hz => by
  obtain ⟨r, hr, rfl⟩ := List.mem_map.mp hz
  obtain ⟨i, hi, e⟩ := List.mem_iff_getElem.mp hr
  have hk : i < (kids dl).length := by rw [h.len]; exact hi
  obtain ⟨r', h1, h2, _⟩ := h.row (List.getElem?_eq_getElem hk)
  rw [List.getElem?_eq_getElem hi] at h1
  have : L[i] = r' := Option.some.inj h1
  rw [← e, this]; exact h2.2.2.1
theorem name_lenB {db : PyData} {B : List BR} (h : RowsD BondRow db B) : ∀ z ∈ bondNs B, z.length ≤ 1000 := fun z hz => by
  obtain ⟨r, hr, rfl⟩ := List.mem_map.mp hz
  obtain ⟨i, hi, e⟩ := List.mem_iff_getElem.mp hr
  have hk : i < (kids db).length := by rw [h.len]; exact hi
  obtain ⟨r', h1, h2, _⟩ := h.row (List.getElem?_eq_getElem hk)
  rw [List.getElem?_eq_getElem hi] at h1
  have : B[i] = r' := Option.some.inj h1
  rw [← e, this]; exact h2.2.2.1
theorem first_list {α : Type} {L : List α} {p : α → Prop} {i : Nat} {r : α} (h : L[i]? = some r) (ho : ∀ q ∈ L.take i, ¬ p q) (hb : p r) : First p L r := by
  obtain ⟨hl, e1⟩ := List.getElem?_eq_some_iff.mp h
  exact ⟨L.take i, L.drop (i + 1), by rw [← e1]; simp, ho, hb⟩
theorem ok_check_rows {k : Nat} {f : Addr} {fd : FuncData} {c : ECs} (F : Fun K "check_rows" "check_rows" scheck_rows f fd) (T : Blt mg) (Hcheck_name : HasX P w K mg base "check_name" k ["text"] (spCheckName c.nm)) (Hcheck_row_numbers : HasX P w K mg base "check_row_numbers" k ["lamps", "bonds"] (spRowNums K c.num c.sp)) (Hcheck_unlike : HasX P w K mg base "check_unlike" k ["items"] (spCheckUnlike c.dbl))
    (Hcheck_row_ends : HasX P w K mg base "check_row_ends" k ["lamp_names", "bonds"] (spRowEnds K c.self c.unk)) (Hcheck_between : HasX P w K mg base "check_between" k ["number", "low", "high"] (spBetween c.rng)) : FnOk P w K mg base (L2.CX P w) (k + 1) f fd ["lamps", "bonds"] (spCheckRows K c) := by
  refine F.okX sccheck_rows (fun vs H Q E h => ?_) (fun cdv A outer s H vs Q E hr h => ?_)
  · obtain ⟨U, lv, bv, dl, db, L, B, rfl, _⟩ := h; rfl
  · obtain ⟨U0, lv, bv, dl, db, L, B, rfl, hl, hb, rl, rb, lL, lB, h1, h2⟩ := h
    refine ⟨_, (pss_cons (ps_setLc (i := 2) (own := [("row", 5)]) (g := (gName 5)) (by rfl) sccheck_rows.nd rfl rfl (sw_true rfl rfl rfl (by decide +kernel)) (pi_seq (pv 0)) (blkOk_by (own := [("row", 5)]) (N := ["lamps", "bonds", "lamp_names", "bond_names", "name", "row"]) (sc := defScope scheck_rows) (by decide +kernel)) (fun _ _ _ _ _ => (pg_name (i := 5) sccheck_rows.nd rfl (.inl rfl))) (fun _ _ _ _ _ => pts_nil) (fun _ _ _ _ _ => (pe_ix (ix_seqR (K := K) rfl) (pv 5) pe_int (fun _ _ => rfl))))
 (pss_cons (ps_setLc (i := 3) (own := [("row", 5)]) (g := (gName 5)) (by rfl) sccheck_rows.nd rfl rfl (sw_true rfl rfl rfl (by decide +kernel)) (pi_seq (pv 1)) (blkOk_by (own := [("row", 5)]) (N := ["lamps", "bonds", "lamp_names", "bond_names", "name", "row"]) (sc := defScope scheck_rows) (by decide +kernel)) (fun _ _ _ _ _ => (pg_name (i := 5) sccheck_rows.nd rfl (.inl rfl))) (fun _ _ _ _ _ => pts_nil) (fun _ _ _ _ _ => (pe_ix (ix_seqR (K := K) rfl) (pv 5) pe_int (fun _ _ => rfl))))
 (pss_cons (ps_for (passes_of rfl) rfl (pi_seq (pe_op op_cat (pv 2) (pv 3))) (pg_name (i := 4) sccheck_rows.nd rfl (.inl rfl)) (pss_one (ps_expr (pe_callX Hcheck_name hr (by rfl) (takes_of rfl rfl rfl rfl) (pa_cons (pv 4) pa_nil)))))
 (pss_cons (ps_expr (pe_callX Hcheck_row_numbers hr (by rfl) (takes_of rfl rfl rfl rfl) (pa_cons (pv 0) (pa_cons (pv 1) pa_nil))))
 (pss_cons (ps_expr (pe_callX Hcheck_unlike hr (by rfl) (takes_of rfl rfl rfl rfl) (pa_cons (pv 2) pa_nil)))
 (pss_cons (ps_expr (pe_callX Hcheck_unlike hr (by rfl) (takes_of rfl rfl rfl rfl) (pa_cons (pv 3) pa_nil)))
 (pss_cons (ps_expr (pe_callX Hcheck_row_ends hr (by rfl) (takes_of rfl rfl rfl rfl) (pa_cons (pv 2) (pa_cons (pv 1) pa_nil))))
 (pss_cons (ps_expr (pe_callX Hcheck_between hr (by rfl) (takes_of rfl rfl rfl rfl) (pa_cons (pe_callB call_len_seq (by rfl) T.len (by decide +kernel) (pa_cons (pv 0) pa_nil)) (pa_cons pe_int (pa_cons (pe_globI rfl T.g_MOST_LAMPS) pa_nil)))))
 (pss_one (ps_expr (pe_callX Hcheck_between hr (by rfl) (takes_of rfl rfl rfl rfl) (pa_cons (pe_callB call_len_seq (by rfl) T.len (by decide +kernel) (pa_cons (pv 1) pa_nil)) (pa_cons pe_int (pa_cons (pe_globI rfl T.g_MOST_BONDS) pa_nil)))))))))))))), ?_⟩
    walk_at "rdF"
    refine lc_seq (U := fun _ => True) (fun ds => ds.map fun e => (kids e).getD 0 .none) (fun _ => True) hl.any rl.sq (fun _ _ => trivial) rfl (fun _ _ => trivial) ?_ ?_
    · rintro D i x e H' uD nD he hx hI
      obtain ⟨r, hr', br, _⟩ := rl.row he
      refine ⟨rfl, ?_⟩
      walk_at "rdF"
      refine rep_ix hx br.1 (by decide) (by rw [br.2.1]; rfl) fun u hu => ?_
      refine hI.put .refl trivial nD (fun _ => trivial) hu ?_ ?_
      · rw [List.length_map, List.length_take, rl.len]; omega
      · rw [take_succ he, List.map_append]
        show _ ++ [(kids e).getD 0 .none] = _
        rw [br.2.1]; rfl
    · rintro np acc H1 e1 _ _ hnp hacc _
      rw [heads_l rl] at hacc
      obtain rfl := hacc.strsI
      have s1 := e1.toSame
      walk_at "rdF"
      refine lc_seq (U := fun _ => True) (fun ds => ds.map fun e => (kids e).getD 0 .none) (fun _ => True) (hb.any.same s1) rb.sq (fun _ _ => trivial) rfl (fun _ _ => trivial) ?_ ?_
      · rintro D i x e H' uD nD he hx hI
        obtain ⟨r, hr', br, _⟩ := rb.row he
        refine ⟨rfl, ?_⟩
        walk_at "rdF"
        refine rep_ix hx br.1 (by decide) (by rw [br.2.1]; rfl) fun u hu => ?_
        refine hI.put .refl trivial nD (fun _ => trivial) hu ?_ ?_
        · rw [List.length_map, List.length_take, rb.len]; omega
        · rw [take_succ he, List.map_append]
          show _ ++ [(kids e).getD 0 .none] = _
          rw [br.2.1]; rfl
      · rintro mp acc H2 e2 _ _ hmp hacc _
        rw [heads_b rb] at hacc
        obtain rfl := hacc.strsI
        have s2 := e2.toSame
        have s12 := s1.trans s2
        walk_at "rdF"
        refine ⟨np, mp, _, _, rfl, rfl, s2 _ _ hnp, hmp, sz (by simp; omega), fun cp ncp => ?_⟩
        have s3 := same_new (o := .lst ((lampNs L).map V.str ++ (bondNs B).map V.str)) ncp
        have sA := s12.trans s3
        have hcp : (upd H2 cp (.lst ((lampNs L).map V.str ++ (bondNs B).map V.str))) cp = some (.lst ((lampNs L ++ bondNs B).map V.str)) := by rw [upd_same, List.map_append]
        have rcp : Rep (fun _ => True) (upd H2 cp (.lst ((lampNs L).map V.str ++ (bondNs B).map V.str))) (.ref cp) (.list ((lampNs L ++ bondNs B).map PyData.str)) := .lst trivial hcp .strs
        generalize upd H2 cp (.lst ((lampNs L).map V.str ++ (bondNs B).map V.str)) = H3 at *
        refine for_seqR (U := fun _ => True) (.inl rcp) rfl (fun i σ H' => ∃ y4 y5, σ = [some lv, some bv, some (.ref np), some (.ref mp), y4, y5] ∧ Same H3 H' ∧ ∀ z ∈ (lampNs L ++ bondNs B).take i, ¬ isNm z = false) ⟨_, _, rfl, Same.refl _, by simp⟩ (fun i σ H' h => ?_) ?_ ?_
        · obtain ⟨_, _, _, s, _⟩ := h; exact .same s
        · rintro i x e σ H' he hx ⟨y4, y5, rfl, sm, ho⟩
          have he : ((lampNs L ++ bondNs B).map PyData.str)[i]? = some e := he
          rw [List.getElem?_map] at he
          cases q : (lampNs L ++ bondNs B)[i]? with
          | none => rw [q] at he; cases he
          | some z =>
            rw [q] at he
            cases he
            cases hx.strI
            have hz : z.length ≤ 1000 := by
              rcases List.mem_append.mp (List.mem_of_getElem? q) with h | h
              · exact name_len rl z h
              · exact name_lenB rb z h
            walk_at "rdF"
            refine ⟨z, rfl, hz, fun ok H'' s'' => ?_, fun bad => ErrF.same (fs := [("name", .str z)]) (h2 _ (.name (first_list q ho bad))) (sA.trans sm)⟩
            walk_at "rdF"
            exact ⟨_, _, rfl, sm.trans s'', take_all q ho (by simp [ok])⟩
        · rintro σ H4 ⟨y4, y5, rfl, s4, hN⟩
          have hN : ∀ z ∈ lampNs L ++ bondNs B, isNm z = true := by
            have e : (kids (.list ((lampNs L ++ bondNs B).map PyData.str))).length = (lampNs L ++ bondNs B).length := by show (List.map _ _).length = _; rw [List.length_map]
            rw [e, List.take_length] at hN
            exact fun z hz => by simpa using hN z hz
          have R1 : Right1 L B := ⟨hN⟩
          have sB := sA.trans s4
          walk_at "rdF"
          refine ⟨U0, lv, bv, dl, db, L, B, rfl, hl.same sB, hb.same sB, rl, rb, lB, fun g1 g2 H5 s5 => ?_, fun v hv => ErrF.same (fs := [("number", v)]) (h2 _ (.num R1 hv)) sB, fun r g1 hr => ErrF.same (fs := [("high", r.h), ("low", r.l)]) (h2 _ (.span ⟨R1, g1⟩ hr)) sB⟩
          have R3 : Right3 L B := ⟨⟨R1, g1⟩, g2⟩
          have sC := sB.trans s5
          have hnp5 := (((s2.trans s3).trans s4).trans s5) _ _ hnp
          have hmp5 := ((s3.trans s4).trans s5) _ _ hmp
          walk_at "rdF"
          refine ⟨np, lampNs L, rfl, .inl hnp5, by rw [List.length_map]; omega, fun g3 H6 s6 => ?_, fun z hz => ErrF.same (fs := [("name", .str z)]) (h2 _ (.dblL R3 hz)) sC⟩
          have R4 : Right4 L B := ⟨R3, dup_none'.mp g3⟩
          have sD := sC.trans s6
          walk_at "rdF"
          refine ⟨mp, bondNs B, rfl, .inl (s6 _ _ hmp5), by rw [List.length_map]; omega, fun g4 H7 s7 => ?_, fun z hz => ErrF.same (fs := [("name", .str z)]) (h2 _ (.dblB R4 hz)) sD⟩
          have R5 : Right5 L B := ⟨R4, dup_none'.mp g4⟩
          have sE := sD.trans s7
          walk_at "rdF"
          refine ⟨U0, np, bv, db, lampNs L, B, rfl, (s6.trans s7) _ _ hnp5, hb.same sE, rb, fun g5 g6 H8 s8 => ?_, fun r hr => ErrF.same (fs := [("bond", .str r.n)]) (h2 _ (.self R5 hr)) sE, fun z g5 hz => ErrF.same (fs := [("name", .str z)]) (h2 _ (.unk ⟨R5, g5⟩ hz)) sE⟩
          have R7 : Right7 L B := ⟨⟨R5, g5⟩, g6⟩
          have sF := sE.trans s8
          walk_at "rdF"
          refine repq_len (hl.same sF) rl.sq fun xs rx => ?_
          rw [rx.len, rl.len]
          refine ⟨_, 1, 10, rfl, fun g7 g8 => ?_, fun bad => ErrF.same (fs := [("high", .int 10), ("low", .int 1), ("number", .int L.length)]) (h2 _ (.lamps R7 bad)) sF⟩
          have R8 : Right8 L B := ⟨R7, by omega, by omega⟩
          walk_at "rdF"
          refine repq_len (hb.same sF) rb.sq fun xs rx => ?_
          rw [rx.len, rb.len]
          refine ⟨_, 0, 16, rfl, fun g9 g10 => ?_, fun bad => ErrF.same (fs := [("high", .int 16), ("low", .int 0), ("number", .int B.length)]) (h2 _ (.bonds R8 bad)) sF⟩
          walk_at "rdF"
          exact h1 ⟨R8, by omega⟩ H8 sF
def keptBR (r : BR) : BR := ⟨r.n, minS r.x r.y, maxS r.x r.y, r.l, r.h⟩
def BR.row (r : BR) : List V := [.str r.n, .str r.x, .str r.y, r.l, r.h]
def BR.d (r : BR) : PyData := .tuple [.str r.n, .str r.x, .str r.y, vD r.l, vD r.h]
def spKept : Sp := fun vs H Q _ => ∃ (U : Addr → Prop) (v : V) (d : PyData) (r : BR), vs = [v] ∧ Rep U H v d ∧ BondRow d r ∧ ∀ p H', Same H H' → H p = none → H' p = some (.tup (keptBR r).row) → Q (.ref p) H'
theorem ok_kept_bond_row {k : Nat} {f : Addr} {fd : FuncData} (F : Fun K "kept_bond_row" "kept_bond_row" skept_bond_row f fd) (T : Blt mg) : FnOk P w K mg base CX0 (k + 1) f fd ["row"] spKept := by
  refine F.ok sckept_bond_row (fun vs H Q E h => ?_) (fun cdv A outer s H vs Q E hr h => ?_)
  · obtain ⟨U, v, d, r, rfl, _⟩ := h; rfl
  · obtain ⟨U, v, d, r, rfl, hv, br, h⟩ := h
    refine ⟨_, (pss_cons (ps_asg (pv 0) (pg_seqU (K := K) rfl rfl (pgs_cons (pg_name (i := 1) sckept_bond_row.nd rfl (.inl rfl)) (pgs_cons (pg_name (i := 2) sckept_bond_row.nd rfl (.inl rfl)) (pgs_cons (pg_name (i := 3) sckept_bond_row.nd rfl (.inl rfl)) (pgs_cons (pg_name (i := 4) sckept_bond_row.nd rfl (.inl rfl)) (pgs_cons (pg_name (i := 5) sckept_bond_row.nd rfl (.inl rfl)) pgs_nil)))))))
 (pss_one (ps_ret (pe_tup (pa_cons (pv 1) (pa_cons (pe_callB (call_minS rfl) (by rfl) T.min (by decide +kernel) (pa_cons (pv 2) (pa_cons (pv 3) pa_nil))) (pa_cons (pe_callB (call_maxS rfl) (by rfl) T.max (by decide +kernel) (pa_cons (pv 2) (pa_cons (pv 3) pa_nil))) (pa_cons (pv 4) (pa_cons (pv 5) pa_nil))))))))), ?_⟩
    walk_at "rdF"
    refine rd_gSeq hv br.1 (by rw [br.2.1]; rfl) fun xs rx => ?_
    rw [br.2.1] at rx
    obtain ⟨a1, a2, a3, a4, a5, rfl, r1, r2, r3, r4, r5⟩ := rep5 rx
    cases r1.strI
    cases r2.strI
    cases r3.strI
    cases r4.scI br.2.2.2.1
    cases r5.scI br.2.2.2.2
    walk_at "rdF"
    refine ⟨_, _, rfl, ?_⟩
    walk_at "rdF"
    refine ⟨_, _, rfl, ?_⟩
    walk_at "rdF"
    refine ⟨sz (by simp), fun p np => ?_⟩
    exact h p _ (same_new np) np upd_same
end
set_option maxHeartbeats 4000000
abbrev sWeb___init__ : Stmt := inClass (topS 41) 0
theorem scWeb___init__ : FnScope ["self", "lamps", "bonds", "lamp_rows", "bond_rows", "name", "first", "second", "_", "low", "high", "ceiling", "row"] ["self", "lamps", "bonds"] (defScope sWeb___init__) := ⟨rfl, rfl, rfl, by decide +kernel, rfl, by decide +kernel, by decide +kernel⟩
section
variable {P : Program} {w : World} {K : PySem.W.Frag} {mg : Str → Option Value} {base : Heap} {C CS CE CB : Addr}
def lampD (r : Str × V) : PyData := .tuple [.str r.1, vD r.2]
def SpanAt (U : Addr → Prop) (CS : Addr) (H : Hp) (v l h : V) : Prop := ∃ p dp, v = .ref p ∧ U p ∧ H p = some (.ins CS dp (spn l h))
abbrev webF (c b e s : Addr) : List (Str × V) := [("_ceilings", .ref c), ("_bond_rows", .ref b), ("_ends", .ref e), ("_spans", .ref s)]
structure WebAt (U : Addr → Prop) (C CS : Addr) (H : Hp) (a : Addr) (L : List (Str × V)) (B : List BR) : Prop where
  ex : ∃ (dx c b e s : Addr) (oc oe os : Obj) (g q : Str → V), U a ∧ H a = some (.ins C dx (webF c b e s)) ∧ U c ∧ H c = some (.frz oc (.dK (L.map fun r => (.inr r.1, r.2)))) ∧ Rep U H (.ref b) (.tuple (B.map BR.d)) ∧
    U e ∧ H e = some (.frz oe (.dK (B.map fun r => (.inr r.n, g r.n)))) ∧ (∀ r ∈ B, Rep U H (g r.n) (.tuple [.str r.x, .str r.y])) ∧
    U s ∧ H s = some (.frz os (.dK (B.map fun r => (.inr r.n, q r.n)))) ∧ (∀ r ∈ B, SpanAt U CS H (q r.n) r.l r.h)
structure SpW (K : PySem.W.Frag) (C : Addr) : Prop where
  cl : Cls K C
  n1 : NoAttr K C "_ceilings"
  n2 : NoAttr K C "_bond_rows"
  n3 : NoAttr K C "_ends"
  n4 : NoAttr K C "_spans"
abbrev sortL (L : List (Str × V)) : List (Str × V) := srtBy (fun r => r.1) L
abbrev sortB (B : List BR) : List BR := srtBy BR.n (B.map keptBR)
def spWebI (K : PySem.W.Frag) (C CS : Addr) (c : ECs) : Sp := fun vs H Q E => ∃ (U : Addr → Prop) (a dx : Addr) (lv bv : V) (dl db : PyData) (L : List (Str × V)) (B : List BR), vs = [.ref a, lv, bv] ∧ H a = some (.ins C dx []) ∧ RepQ K U H lv dl ∧ RepQ K U H bv db ∧ RowsD LampRow dl L ∧ RowsD BondRow db B ∧ L.length ≤ 1000 ∧ B.length ≤ 1000 ∧
  (Right L B → ∀ H', Ex (fun p => p ≠ a) H H' → WebAt (fun p => p = a ∨ H p = none) C CS H' a (sortL L) (sortB B) → Q .non H') ∧ (∀ e, Wrong L B e → Raises c E H e)
def lampOf (e : PyData) : PyData := .tuple [(kids e).getD 0 .none, (kids e).getD 1 .none]
theorem lamps_l {dl : PyData} {L : List (Str × V)} (h : RowsD LampRow dl L) : (kids dl).map lampOf = L.map lampD := by
  apply List.ext_getElem?
  intro i
  rw [List.getElem?_map, List.getElem?_map]
  cases q : (kids dl)[i]? with
  | none =>
    have hl := List.getElem?_eq_none_iff.mp q
    rw [List.getElem?_eq_none (by rw [← h.len]; exact hl)]; rfl
  | some e =>
    obtain ⟨r, h1, h2, _⟩ := h.row q
    rw [h1]
    show some (lampOf e) = _
    unfold lampOf
    rw [h2.2.1]; rfl
theorem lamp_sc {dl : PyData} {L : List (Str × V)} (h : RowsD LampRow dl L) : ∀ r ∈ L, Sc r.2 := fun r hr => by
  obtain ⟨i, hi, e⟩ := List.mem_iff_getElem.mp hr
  have hk : i < (kids dl).length := by rw [h.len]; exact hi
  obtain ⟨r', h1, h2, _⟩ := h.row (List.getElem?_eq_getElem hk)
  rw [List.getElem?_eq_getElem hi] at h1
  have : L[i] = r' := Option.some.inj h1
  rw [← e, this]; exact h2.2.2.2
theorem bond_sc {db : PyData} {B : List BR} (h : RowsD BondRow db B) : ∀ r ∈ B, Sc r.l ∧ Sc r.h := fun r hr => by
  obtain ⟨i, hi, e⟩ := List.mem_iff_getElem.mp hr
  have hk : i < (kids db).length := by rw [h.len]; exact hi
  obtain ⟨r', h1, h2, _⟩ := h.row (List.getElem?_eq_getElem hk)
  rw [List.getElem?_eq_getElem hi] at h1
  have : B[i] = r' := Option.some.inj h1
  rw [← e, this]; exact ⟨h2.2.2.2.1, h2.2.2.2.2⟩
theorem keptOf_b {db : PyData} {B : List BR} (h : RowsD BondRow db B) : ∃ f : PyData → PyData, (kids db).map f = (B.map keptBR).map BR.d ∧ ∀ (i : Nat) (e : PyData) (r : BR), (kids db)[i]? = some e → B[i]? = some r → f e = (keptBR r).d := by
  refine ⟨fun e => match kids e with
    | [.str n, .str x, .str y, l, h] => .tuple [.str n, .str (minS x y), .str (maxS x y), l, h]
    | _ => .none, ?_, fun i e r he hr => ?_⟩
  · apply List.ext_getElem?
    intro i
    rw [List.getElem?_map, List.getElem?_map, List.getElem?_map]
    cases q : (kids db)[i]? with
    | none =>
      have hl := List.getElem?_eq_none_iff.mp q
      rw [List.getElem?_eq_none (by rw [← h.len]; exact hl)]; rfl
    | some e =>
      obtain ⟨r, h1, h2, _⟩ := h.row q
      rw [h1]
      simp only [Option.map_some, h2.2.1]; rfl
  · obtain ⟨r', h1, h2, _⟩ := h.row he
    rw [hr] at h1
    cases h1
    simp only [h2.2.1]; rfl
theorem pairs_l {U : Addr → Prop} {H : Hp} : ∀ {ys : List V} {M : List (Str × V)}, RepL U H ys (M.map lampD) → (∀ r ∈ M, Sc r.2) → ∃ ps : List Addr, ys = ps.map V.ref ∧ Paired (fun p (kv : Key × V) => SqT K H p [kV kv.1, kv.2]) ps (M.map fun r => ((.inr r.1 : Key), r.2))
  | _, [], .nil, _ => ⟨[], rfl, .nil⟩
  | _, r :: M, .cons a rr, hs => by
    obtain ⟨ps, e, pr⟩ := pairs_l rr fun q hq => hs q (List.mem_cons_of_mem _ hq)
    obtain ⟨p, xs, rfl, _, hp, hx⟩ := Rep.tupI a
    obtain ⟨u, v, rfl, ru, rv⟩ := rep2 hx
    cases ru.strI
    cases rv.scI (hs r List.mem_cons_self)
    exact ⟨p :: ps, by rw [e]; rfl, .cons (st_of hp) pr⟩
theorem nd_inr {l : List Str} (h : l.Nodup) : (l.map (Sum.inr : Str → Key)).Nodup := by
  rw [List.nodup_iff_pairwise_ne] at *
  exact List.pairwise_map.mpr (h.imp fun hab e => hab (Sum.inr.inj e))
abbrev wf1 (c : V) : List (Str × V) := [("_ceilings", c)]
abbrev wf2 (c b : V) : List (Str × V) := [("_ceilings", c), ("_bond_rows", b)]
abbrev wf3 (c b e : V) : List (Str × V) := [("_ceilings", c), ("_bond_rows", b), ("_ends", e)]
abbrev wf4 (c b e s : V) : List (Str × V) := [("_ceilings", c), ("_bond_rows", b), ("_ends", e), ("_spans", s)]
theorem putF1 {v : V} : putF "_ceilings" v [] = wf1 v := rfl
theorem putF2 {u v : V} : putF "_bond_rows" v (wf1 u) = wf2 u v := by
  have e0 : ¬ (("_ceilings" : Str) = ("_bond_rows" : Str)) := by decide
  simp [putF, e0]
theorem putF3 {u v x : V} : putF "_ends" x (wf2 u v) = wf3 u v x := by
  have e0 : ¬ (("_ceilings" : Str) = ("_ends" : Str)) := by decide
  have e1 : ¬ (("_bond_rows" : Str) = ("_ends" : Str)) := by decide
  simp [putF, e0, e1]
theorem putF4 {u v x y : V} : putF "_spans" y (wf3 u v x) = wf4 u v x y := by
  have e0 : ¬ (("_ceilings" : Str) = ("_spans" : Str)) := by decide
  have e1 : ¬ (("_bond_rows" : Str) = ("_spans" : Str)) := by decide
  have e2 : ¬ (("_ends" : Str) = ("_spans" : Str)) := by decide
  simp [putF, e0, e1, e2]
/-- a dict's next key -/
theorem not_before {α : Type} {n : α → Str} {l : List α} {i : Nat} {r : α} (nd : (l.map n).Nodup) (hr : l[i]? = some r) : ∀ z ∈ l.take i, n z ≠ n r := fun z hz e => by
  obtain ⟨hl, e1⟩ := List.getElem?_eq_some_iff.mp hr
  have el : l = l.take i ++ r :: l.drop (i + 1) := by rw [← e1]; simp
  rw [el, List.map_append, List.nodup_append] at nd
  exact nd.2.2 (n z) (List.mem_map_of_mem hz) (n r) (by simp) e
theorem dict_next {α : Type} {n : α → Str} {l : List α} {i : Nat} {r : α} {g : Str → V} {v : V} (nd : (l.map n).Nodup) (hr : l[i]? = some r) :
    putK ((l.take i).map fun r => ((.inr (n r) : Key), g (n r))) (.inr (n r)) v = ((l.take (i + 1)).map fun z => ((.inr (n z) : Key), (fun m => if m = n r then v else g m) (n z))) := by
  have nb := not_before nd hr
  rw [putK_new, take_succ hr, List.map_append]
  · congr 1
    · refine List.map_congr_left fun z hz => ?_
      show _ = ((.inr (n z) : Key), if n z = n r then v else g (n z))
      rw [if_neg (nb z hz)]
    · show _ = [((.inr (n r) : Key), if n r = n r then v else g (n r))]
      rw [if_pos rfl]
  · refine valV_fresh fun c => ?_
    rw [List.map_map] at c
    obtain ⟨z, hz, e⟩ := List.mem_map.mp c
    exact nb z hz (Sum.inr.inj e)
theorem NI.sc {v : V} (h : NI v) : Sc v := by rcases h with rfl | ⟨i, rfl⟩ <;> trivial
theorem keptOpen {B : List BR} {L : List (Str × V)} (h : Right L B) : ∀ r ∈ sortB B, isOpen r.l = true ∧ isOpen r.h = true ∧ crossed r.l r.h = false := fun r hr => by
  obtain ⟨q, hq, rfl⟩ := List.mem_map.mp (srt_mem.mp hr)
  have hn : q.l ∈ numsOf L B ∧ q.h ∈ numsOf L B := by
    unfold numsOf
    exact ⟨List.mem_append.mpr (.inr (List.mem_flatMap.mpr ⟨q, hq, by simp⟩)), List.mem_append.mpr (.inr (List.mem_flatMap.mpr ⟨q, hq, by simp⟩))⟩
  exact ⟨h.num _ hn.1, h.num _ hn.2, h.sp q hq⟩
theorem ok_web_init {k j : Nat} {f t0 : Addr} {fd : FuncData} {c : ECs} (F : FunD K "__init__" "Web.__init__" (defArgs sWeb___init__) (defBody sWeb___init__) (defScope sWeb___init__) [.ref t0] [] f fd) (T : Blt mg) (S : SpW K C)
    (Hcheck_rows : HasX P w K mg base "check_rows" k ["lamps", "bonds"] (spCheckRows K c)) (Hkept_bond_row : Has P w K mg base "kept_bond_row" k ["row"] spKept) (HM_Span_2 : HasMk P w K mg base (L2.CX P w) CS "Span" j ["self", "low", "high"] [] (spSpanI CS CE CB)) (hk : j + 1 ≤ k) : FnOk P w K mg base (L2.CX P w) (k + 1) f fd ["self", "lamps", "bonds"] (spWebI K C CS c) := by
  refine F.ok scWeb___init__ (fun vs H Q E h => ?_) (fun cdv A outer s H vs Q E hr h => ?_)
  · obtain ⟨U, a, dx, lv, bv, dl, db, L, B, rfl, _⟩ := h; rfl
  · obtain ⟨U0, a, dx, lv, bv, dl, db, L, B, rfl, ha, hl, hb, rl, rb, lL, lB, h1, h2⟩ := h
    refine ⟨_, (pss_cons (ps_expr (pe_callX Hcheck_rows hr (by rfl) (takes_of rfl rfl rfl rfl) (pa_cons (pv 1) (pa_cons (pv 2) pa_nil))))
 (pss_cons (ps_set (i := 3) scWeb___init__.nd rfl (.inl rfl) (pe_callB (cr_sortedR (K := K) rfl) (by rfl) T.sorted (by decide +kernel) (pa_cons (pe_lc (own := [("name", 5), ("ceiling", 11)]) (g := (gSeq K 2 (gCons (gName 5) (gCons (gName 11) gNil)))) (by rfl) scWeb___init__.nd (pi_seq (pv 1)) (blkOk_by (own := [("name", 5), ("ceiling", 11)]) (N := ["self", "lamps", "bonds", "lamp_rows", "bond_rows", "name", "first", "second", "_", "low", "high", "ceiling", "row"]) (sc := defScope sWeb___init__) (by decide +kernel)) (fun _ _ _ _ _ => (pg_seqU (K := K) rfl rfl (pgs_cons (pg_name (i := 5) scWeb___init__.nd rfl (.inl rfl)) (pgs_cons (pg_name (i := 11) scWeb___init__.nd rfl (.inl rfl)) pgs_nil)))) (fun _ _ _ _ _ => pts_nil) (fun _ _ _ _ _ => (pe_tup (pa_cons (pv 5) (pa_cons (pv 11) pa_nil))))) pa_nil)))
 (pss_cons (ps_set (i := 4) scWeb___init__.nd rfl (.inl rfl) (pe_callB (cr_sortedR (K := K) rfl) (by rfl) T.sorted (by decide +kernel) (pa_cons (pe_lc (own := [("row", 12)]) (g := (gName 12)) (by rfl) scWeb___init__.nd (pi_seq (pv 2)) (blkOk_by (own := [("row", 12)]) (N := ["self", "lamps", "bonds", "lamp_rows", "bond_rows", "name", "first", "second", "_", "low", "high", "ceiling", "row"]) (sc := defScope sWeb___init__) (by decide +kernel)) (fun _ _ _ _ _ => (pg_name (i := 12) scWeb___init__.nd rfl (.inl rfl))) (fun _ _ _ _ _ => pts_nil) (fun _ _ _ _ _ => (pe_callH Hkept_bond_row hr (by rfl) (pa_cons (pv 12) pa_nil)))) pa_nil)))
 (pss_cons (ps_frz (ps_fld (pv 0) (pe_callTy (call_dictP rfl) (by rfl) T.dict (by decide +kernel) (pa_cons (pv 3) pa_nil)) rfl))
 (pss_cons (ps_fld (pv 0) (pe_callTy call_tuple_of (by rfl) T.tuple (by decide +kernel) (pa_cons (pv 4) pa_nil)) rfl)
 (pss_cons (ps_frz (ps_fld (pv 0) (pe_dc (own := [("name", 5), ("first", 6), ("second", 7), ("_", 8)]) (g := (gSeq K 5 (gCons (gName 5) (gCons (gName 6) (gCons (gName 7) (gCons (gName 8) (gCons (gName 8) gNil))))))) rfl scWeb___init__.nd (pi_list (pv 4)) (blkOk_by (own := [("name", 5), ("first", 6), ("second", 7), ("_", 8)]) (N := ["self", "lamps", "bonds", "lamp_rows", "bond_rows", "name", "first", "second", "_", "low", "high", "ceiling", "row"]) (sc := defScope sWeb___init__) (by decide +kernel)) (fun _ _ _ _ _ => (pg_seqU (K := K) rfl rfl (pgs_cons (pg_name (i := 5) scWeb___init__.nd rfl (.inl rfl)) (pgs_cons (pg_name (i := 6) scWeb___init__.nd rfl (.inl rfl)) (pgs_cons (pg_name (i := 7) scWeb___init__.nd rfl (.inl rfl)) (pgs_cons (pg_name (i := 8) scWeb___init__.nd rfl (.inl rfl)) (pgs_cons (pg_name (i := 8) scWeb___init__.nd rfl (.inl rfl)) pgs_nil))))))) (fun _ _ _ _ _ => pts_nil) (fun _ _ _ _ _ => (pv 5)) (fun _ _ _ _ _ => (pe_tup (pa_cons (pv 6) (pa_cons (pv 7) pa_nil))))) rfl))
 (pss_one (ps_frz (ps_fld (pv 0) (pe_dc (own := [("name", 5), ("_", 8), ("low", 9), ("high", 10)]) (g := (gSeq K 5 (gCons (gName 5) (gCons (gName 8) (gCons (gName 8) (gCons (gName 9) (gCons (gName 10) gNil))))))) rfl scWeb___init__.nd (pi_list (pv 4)) (blkOk_by (own := [("name", 5), ("_", 8), ("low", 9), ("high", 10)]) (N := ["self", "lamps", "bonds", "lamp_rows", "bond_rows", "name", "first", "second", "_", "low", "high", "ceiling", "row"]) (sc := defScope sWeb___init__) (by decide +kernel)) (fun _ _ _ _ _ => (pg_seqU (K := K) rfl rfl (pgs_cons (pg_name (i := 5) scWeb___init__.nd rfl (.inl rfl)) (pgs_cons (pg_name (i := 8) scWeb___init__.nd rfl (.inl rfl)) (pgs_cons (pg_name (i := 8) scWeb___init__.nd rfl (.inl rfl)) (pgs_cons (pg_name (i := 9) scWeb___init__.nd rfl (.inl rfl)) (pgs_cons (pg_name (i := 10) scWeb___init__.nd rfl (.inl rfl)) pgs_nil))))))) (fun _ _ _ _ _ => pts_nil) (fun _ _ _ _ _ => (pv 5)) (fun _ _ _ _ _ => (pe_makeHS HM_Span_2 (hr.mono (by omega)) (by rfl) (fun σ => passAt takes0 σ) (pa_cons (pv 9) (pa_cons (pv 10) pa_nil))))) rfl))))))))), ?_⟩
    walk_at "rdF"
    refine ⟨U0, lv, bv, dl, db, L, B, rfl, hl, hb, rl, rb, lL, lB, fun R H1 s1 => ?_, h2⟩
    have hl1 := (hl.same s1).any
    have hb1 := (hb.same s1).any
    have scL := lamp_sc rl
    have scB := bond_sc rb
    have ndL : (L.map fun r => r.1).Nodup := R.dl
    have ndB : ((B.map keptBR).map BR.n).Nodup := by rw [List.map_map]; exact R.db
    walk_at "rdF"
    refine lc_seq (U := fun _ => True) (fun ds => ds.map lampOf) (fun _ => True) hl1 rl.sq (fun _ _ => trivial) rfl (fun _ _ => trivial) ?_ ?_
    · rintro D i x e H' uD nD he hx hI
      obtain ⟨r, hr', br, _⟩ := rl.row he
      refine rd_gSeq hx br.1 (by rw [br.2.1]; rfl) fun xs rx => ?_
      rw [br.2.1] at rx
      obtain ⟨u, v, rfl, ru, rv⟩ := rep2 rx
      cases ru.strI
      cases rv.scI br.2.2.2
      walk_at "rdF"
      refine ⟨rfl, ?_⟩
      walk_at "rdF"
      refine ⟨sz (by simp), fun p np => ?_⟩
      refine hI.put (e := lampD r) (.new np) trivial nD (fun _ => trivial) (.tup ⟨trivial, hI.ne np⟩ upd_same (.cons (.str _) (.cons (.sc br.2.2.2) .nil))) ?_ ?_
      · rw [List.length_map, List.length_take, rl.len]; omega
      · rw [take_succ he, List.map_append]
        show _ ++ [lampOf e] = _
        unfold lampOf
        rw [br.2.1]; rfl
    · rintro p0 acc H2 e2 _ np0 hp0 hacc _
      rw [lamps_l rl] at hacc
      have s2 := s1.trans e2.toSame
      walk_at "rdF"
      refine sorted_rows (l := L) (n := fun r => r.1) (r := fun r => [vD r.2]) (.inl hp0) (hacc.less fun _ _ => trivial) ndL fun lp ys hperm hys nlp => ?_
      have s3 := s2.trans (same_new (o := .lst ys) nlp)
      have hlp := @upd_same H2 lp (.lst ys)
      have hys3 := hys.same (same_new (o := .lst ys) nlp)
      generalize upd H2 lp (.lst ys) = H3 at *
      walk_at "rdF"
      obtain ⟨kf, kf1, kf2⟩ := keptOf_b rb
      refine lc_seqG (W := fun _ => True) (U := fun q => H q = none) (fun _ h => h) (fun ds => ds.map kf) (fun _ => True) (hb.same s3).any rb.sq (fun _ _ => trivial) rfl (fun _ _ => trivial) ?_ ?_
      · rintro D i x e H' uD nD he hx hI
        obtain ⟨r, hr', br, _⟩ := rb.row he
        refine ⟨rfl, ?_⟩
        walk_at "rdF"
        refine ⟨_, x, e, r, rfl, hx, br, fun p H'' s'' np'' hp'' => ?_⟩
        refine hI.put (e := (keptBR r).d) (.same s'') trivial nD (fun _ => trivial) (.tup ⟨none_back s3 (hI.ex.dom _ np''), hI.ne np''⟩ hp'' (.cons (.str _) (.cons (.str _) (.cons (.str _) (.cons (.sc br.2.2.2.1) (.cons (.sc br.2.2.2.2) .nil)))))) ?_ ?_ (fun _ _ => trivial)
        · rw [List.length_map, List.length_take, rb.len]; omega
        · rw [take_succ he, List.map_append]
          show _ ++ [kf e] = _
          rw [kf2 i e r he hr']
      · rintro p1 acc1 H4 e4 _ np1 hp1 hacc1 _
        rw [kf1] at hacc1
        have s4 := s3.trans e4.toSame
        walk_at "rdF"
        refine sorted_rows (U := fun q => H q = none) (l := B.map keptBR) (n := BR.n) (r := fun r => [.str r.x, .str r.y, vD r.l, vD r.h]) (.inl hp1) (hacc1.less fun _ h => h.1) ndB fun bp zs hperm1 hzs nbp => ?_
        have st5 := same_new (o := .lst zs) nbp
        have s5 := s4.trans st5
        have hbp := @upd_same H4 bp (.lst zs)
        have hzs := hzs.same st5
        have hlp := st5 _ _ (e4.toSame _ _ hlp)
        have hys := (hys3.same e4.toSame).same st5
        generalize upd H4 bp (.lst zs) = H5 at *
        have hzs : RepL (fun q => H q = none) H5 zs ((sortB B).map BR.d) := hzs
        have ha5 := s5 _ _ ha
        obtain ⟨ps, ep, pr⟩ := pairs_l (M := sortL L) (H := H5) hys fun r hr => scL r (srt_mem.mp hr)
        subst ep
        walk_at "rdF"
        refine ⟨lp, ps, _, rfl, sl_of hlp, pr, fun cp ncp => ?_⟩
        rw [merge_new _ _ (by rw [List.nil_append, List.map_map]; have := nd_inr (srt_nd ndL); rw [List.map_map] at this; exact this), List.nil_append]
        have ne_a : ∀ {q : Addr} {H' : Hp} {fs : List (Str × V)}, H' a = some (.ins C dx fs) → H' q = none → q ≠ a := fun h1 h2 e => by rw [e, h1] at h2; cases h2
        have ca := ne_a ha5 ncp
        walk_at "rdF"
        refine ⟨a, C, dx, _, rfl, by rw [upd_ne ca.symm]; exact ha5, S.cl, S.n1, by simp, ?_⟩
        rw [putF1]
        refine ⟨cp, .dK ((sortL L).map fun r => ((.inr r.1 : Key), r.2)), by rw [upd_ne ca]; exact upd_same, trivial, fun oc => ?_⟩
        have e6 : Ex (fun p => p ≠ a) H5 (upd (upd (upd H5 cp (.dK ((sortL L).map fun r => ((.inr r.1 : Key), r.2)))) a (.ins C dx (wf1 (.ref cp)))) cp (.frz oc (.dK ((sortL L).map fun r => ((.inr r.1 : Key), r.2))))) :=
          ((Ex.new ncp).mutU (by simp) (by rw [upd_ne ca.symm, ha5]; simp)).mut ncp
        have ha6 : (upd (upd (upd H5 cp (.dK ((sortL L).map fun r => ((.inr r.1 : Key), r.2)))) a (.ins C dx (wf1 (.ref cp)))) cp (.frz oc (.dK ((sortL L).map fun r => ((.inr r.1 : Key), r.2))))) a = some (.ins C dx (wf1 (.ref cp))) := by rw [upd_ne ca.symm]; exact upd_same
        have hc6 : (upd (upd (upd H5 cp (.dK ((sortL L).map fun r => ((.inr r.1 : Key), r.2)))) a (.ins C dx (wf1 (.ref cp)))) cp (.frz oc (.dK ((sortL L).map fun r => ((.inr r.1 : Key), r.2))))) cp = some (.frz oc (.dK ((sortL L).map fun r => ((.inr r.1 : Key), r.2)))) := upd_same
        generalize (upd (upd (upd H5 cp (.dK ((sortL L).map fun r => ((.inr r.1 : Key), r.2)))) a (.ins C dx (wf1 (.ref cp)))) cp (.frz oc (.dK ((sortL L).map fun r => ((.inr r.1 : Key), r.2))))) = H6 at *
        have fc : H cp = none := none_back s5 ncp
        have fa : ∀ q, H q = none → q ≠ a := fun q h => ne_a ha h
        have hbp6 := e6.keep _ _ (fa bp (none_back s4 nbp)) hbp
        have hzs6 := hzs.ex (e6.less fa)
        have e06 : Ex (fun p => p ≠ a) H H6 := (Ex.same s5).trans e6
        walk_at "rdF"
        refine ⟨bp, zs, rfl, .inl ⟨sl_of hbp6, fun tp ntp => ?_⟩⟩
        have ta := ne_a ha6 ntp
        walk_at "rdF"
        refine ⟨a, C, dx, _, rfl, by rw [upd_ne ta.symm]; exact ha6, S.cl, S.n2, by simp, ?_⟩
        rw [putF2]
        have e7 : Ex (fun p => p ≠ a) H6 (upd (upd H6 tp (.tup zs)) a (.ins C dx (wf2 (.ref cp) (.ref tp)))) := (Ex.new ntp).mutU (by simp) (by rw [upd_ne ta.symm, ha6]; simp)
        have ha7 : (upd (upd H6 tp (.tup zs)) a (.ins C dx (wf2 (.ref cp) (.ref tp)))) a = some (.ins C dx (wf2 (.ref cp) (.ref tp))) := upd_same
        have ht7 : (upd (upd H6 tp (.tup zs)) a (.ins C dx (wf2 (.ref cp) (.ref tp)))) tp = some (.tup zs) := by rw [upd_ne ta]; exact upd_same
        generalize (upd (upd H6 tp (.tup zs)) a (.ins C dx (wf2 (.ref cp) (.ref tp)))) = H7 at *
        have hbp7 := e7.keep _ _ (fa bp (none_back s4 nbp)) hbp6
        have hzs7 := hzs6.ex (e7.less fa)
        have hc7 := e7.keep _ _ ca hc6
        have e07 := e06.trans e7
        have ft : H tp = none := e06.dom _ ntp
        have ndS : ((sortB B).map BR.n).Nodup := srt_nd ndB
        have lS : (sortB B).length ≤ 1000 := by rw [srt_len, List.length_map]; exact lB
        have hO := keptOpen R
        replace h1 := h1 R
        generalize sortB B = SB at *
        walk_at "rdF"
        refine ⟨bp, rfl, ⟨_, sl_of hbp7⟩, fun D nD => dc_list (xs := zs) (fun i H' => ∃ g : Str → V, H' D = some (.dK ((SB.take i).map fun r => ((.inr r.n : Key), g r.n))) ∧ (∀ r ∈ SB.take i, Rep (fun q => H q = none) H' (g r.n) (.tuple [.str r.x, .str r.y])) ∧ Same H7 H') ⟨fun _ => .non, by rw [List.take_zero]; exact upd_same, by simp, same_new nD⟩ (fun i H' _ hp => ?_) ?_ ?_⟩
        · obtain ⟨_, _, _, sm⟩ := hp
          exact sl_of (sm _ _ hbp7)
        · rintro i x H' hx ⟨g, hD, hg, sm⟩
          obtain ⟨e, he, re⟩ := hzs7.get hx
          rw [List.getElem?_map] at he
          cases q : SB[i]? with
          | none => rw [q] at he; cases he
          | some r =>
            rw [q] at he
            cases he
            refine rd_gSeq (re.same sm) rfl rfl fun xs rx => ?_
            obtain ⟨a1, a2, a3, a4, a5, rfl, r1, r2, r3, r4, r5⟩ := rep5 rx
            cases r1.strI
            cases r2.strI
            cases r3.strI
            walk_at "rdF"
            refine ⟨by walk_at "wiped", ?_⟩
            walk_at "rdF"
            refine ⟨sz (by simp), fun up nup => ?_⟩
            have nuD : up ≠ D := fun c => by rw [c, hD] at nup; cases nup
            have fu : H up = none := e07.dom _ (none_back sm nup)
            refine ⟨_, .inr r.n, rfl, same_new nup _ _ hD, by rw [List.length_map, List.length_take]; exact Nat.lt_of_le_of_lt (Nat.le_trans (Nat.min_le_right _ _) lS) (by decide), (fun m => if m = r.n then .ref up else g m), by rw [upd_same, dict_next ndS q], fun z hz => ?_, same_mut (sm.trans (same_new nup)) nD⟩
            have keepD : ∀ {v : V} {d : PyData}, Rep (fun q => H q = none) H' v d → Rep (fun q => H q = none) (upd (upd H' up (.tup [.str r.x, .str r.y])) D (.dK (putK ((SB.take i).map fun r => ((.inr r.n : Key), g r.n)) (.inr r.n) (.ref up)))) v d := fun hv => hv.to' fun p xs u => ⟨fun e => ⟨u, by
              have n1 : p ≠ D := fun c => by rw [c, hD] at e; cases e
              rw [upd_ne n1]; exact same_new nup _ _ e⟩, fun e => ⟨u, by
              have n1 : p ≠ D := fun c => by rw [c, hD] at e; cases e
              rw [upd_ne n1]; exact same_new nup _ _ e⟩⟩
            by_cases c : z.n = r.n
            · have ez : z = r := by
                rw [take_succ q] at hz
                rcases List.mem_append.mp hz with hz | hz
                · exact absurd c (not_before ndS q z hz)
                · exact List.mem_singleton.mp hz
              rw [ez]
              show Rep _ _ (if r.n = r.n then V.ref up else g r.n) _
              rw [if_pos rfl]
              exact .tup fu (by rw [upd_ne nuD]; exact upd_same) (.cons (.str _) (.cons (.str _) .nil))
            · show Rep _ _ (if z.n = r.n then V.ref up else g z.n) _
              rw [if_neg c]
              refine keepD (hg z ?_)
              rw [take_succ q] at hz
              rcases List.mem_append.mp hz with hz | hz
              · exact hz
              · rw [List.mem_singleton.mp hz] at c; exact absurd rfl c
        · rintro H8 ⟨g, hD, hg, s8⟩
          have lz : zs.length = SB.length := by rw [hzs.len, List.length_map]
          rw [lz, List.take_length] at hD hg
          have Da := ne_a ha7 nD
          have ha8 := s8 _ _ ha7
          have fD : H D = none := e07.dom _ nD
          walk_at "rdF"
          refine ⟨a, C, dx, _, rfl, ha8, S.cl, S.n3, by simp, ?_⟩
          rw [putF3]
          refine ⟨D, .dK (SB.map fun r => ((.inr r.n : Key), g r.n)), by rw [upd_ne Da]; exact hD, trivial, fun oe => ?_⟩
          have e9 : Ex (fun p => p ≠ a) H7 (upd (upd H8 a (.ins C dx (wf3 (.ref cp) (.ref tp) (.ref D)))) D (.frz oe (.dK (SB.map fun r => ((.inr r.n : Key), g r.n))))) := ((Ex.same s8).mutU (by simp) (by rw [ha8]; simp)).mut nD
          have ha9 : (upd (upd H8 a (.ins C dx (wf3 (.ref cp) (.ref tp) (.ref D)))) D (.frz oe (.dK (SB.map fun r => ((.inr r.n : Key), g r.n))))) a = some (.ins C dx (wf3 (.ref cp) (.ref tp) (.ref D))) := by rw [upd_ne Da.symm]; exact upd_same
          have hD9 : (upd (upd H8 a (.ins C dx (wf3 (.ref cp) (.ref tp) (.ref D)))) D (.frz oe (.dK (SB.map fun r => ((.inr r.n : Key), g r.n))))) D = some (.frz oe (.dK (SB.map fun r => ((.inr r.n : Key), g r.n)))) := upd_same
          have hg9 : ∀ r ∈ SB, Rep (fun q => H q = none) (upd (upd H8 a (.ins C dx (wf3 (.ref cp) (.ref tp) (.ref D)))) D (.frz oe (.dK (SB.map fun r => ((.inr r.n : Key), g r.n))))) (g r.n) (.tuple [.str r.x, .str r.y]) := fun r hr => (hg r hr).to' fun p xs u => ⟨fun e => ⟨u, by
            rw [upd_ne (fun c => by rw [c, hD] at e; cases e), upd_ne (fa p u)]; exact e⟩, fun e => ⟨u, by
            rw [upd_ne (fun c => by rw [c, hD] at e; cases e), upd_ne (fa p u)]; exact e⟩⟩
          generalize (upd (upd H8 a (.ins C dx (wf3 (.ref cp) (.ref tp) (.ref D)))) D (.frz oe (.dK (SB.map fun r => ((.inr r.n : Key), g r.n))))) = H9 at *
          have hbp9 := e9.keep _ _ (fa bp (none_back s4 nbp)) hbp7
          have hzs9 := hzs7.ex (e9.less fa)
          have hc9 := e9.keep _ _ ca hc7
          have ht9 := e9.keep _ _ ta ht7
          have e09 := e07.trans e9
          walk_at "rdF"
          refine ⟨bp, rfl, ⟨_, sl_of hbp9⟩, fun D2 nD2 => dc_list (xs := zs) (fun i H' => ∃ q : Str → V, H' D2 = some (.dK ((SB.take i).map fun r => ((.inr r.n : Key), q r.n))) ∧ (∀ r ∈ SB.take i, SpanAt (fun q => H q = none) CS H' (q r.n) r.l r.h) ∧ Same H9 H') ⟨fun _ => .non, by rw [List.take_zero]; exact upd_same, by simp, same_new nD2⟩ (fun i H' _ hp => ?_) ?_ ?_⟩
          · obtain ⟨_, _, _, sm⟩ := hp
            exact sl_of (sm _ _ hbp9)
          · rintro i x H' hx ⟨q0, hD2, hq0, sm⟩
            obtain ⟨e, he, re⟩ := hzs9.get hx
            rw [List.getElem?_map] at he
            cases q : SB[i]? with
            | none => rw [q] at he; cases he
            | some r =>
              rw [q] at he
              cases he
              obtain ⟨o1, o2, o3⟩ := hO r (List.mem_of_getElem? q)
              refine rd_gSeq (re.same sm) rfl rfl fun xs rx => ?_
              obtain ⟨a1, a2, a3, a4, a5, rfl, r1, r2, r3, r4, r5⟩ := rep5 rx
              cases r1.strI
              cases r4.scI (open_NI o1).sc
              cases r5.scI (open_NI o2).sc
              walk_at "rdF"
              refine ⟨by walk_at "wiped", ?_⟩
              walk_at "rdF"
              intro up dp nup ndp ndu
              refine ⟨up, dp, _, _, rfl, upd_same, (open_NI o1).sc, (open_NI o2).sc, fun _ _ _ => ⟨rfl, ?_⟩, fun o => ?_, fun _ o => ?_, fun _ _ cr => ?_⟩
              · rw [upd_upd]
                have nuD : up ≠ D2 := fun c => by rw [c, hD2] at nup; cases nup
                have ndD : dp ≠ D2 := fun c => by rw [c, hD2] at ndp; cases ndp
                have fu : H up = none := e09.dom _ (none_back sm nup)
                have sN : Same H' (upd (upd H' dp (.own up)) up (.ins CS dp (spn r.l r.h))) := same_mut (same_new ndp) nup
                have hUp : (upd (upd H' dp (.own up)) up (.ins CS dp (spn r.l r.h))) up = some (.ins CS dp (spn r.l r.h)) := upd_same
                generalize (upd (upd H' dp (.own up)) up (.ins CS dp (spn r.l r.h))) = H'' at *
                refine ⟨_, .inr r.n, rfl, sN _ _ hD2, by rw [List.length_map, List.length_take]; exact Nat.lt_of_le_of_lt (Nat.le_trans (Nat.min_le_right _ _) lS) (by decide), (fun m => if m = r.n then .ref up else q0 m), by rw [upd_same, dict_next ndS q], fun z hz => ?_, same_mut (sm.trans sN) nD2⟩
                by_cases c : z.n = r.n
                · have ez : z = r := by
                    rw [take_succ q] at hz
                    rcases List.mem_append.mp hz with hz | hz
                    · exact absurd c (not_before ndS q z hz)
                    · exact List.mem_singleton.mp hz
                  rw [ez]
                  show SpanAt _ _ _ (if r.n = r.n then V.ref up else q0 r.n) _ _
                  rw [if_pos rfl]
                  exact ⟨up, dp, rfl, fu, by rw [upd_ne nuD]; exact hUp⟩
                · show SpanAt _ _ _ (if z.n = r.n then V.ref up else q0 z.n) _ _
                  rw [if_neg c]
                  have hz' : z ∈ SB.take i := by
                    rw [take_succ q] at hz
                    rcases List.mem_append.mp hz with hz | hz
                    · exact hz
                    · rw [List.mem_singleton.mp hz] at c; exact absurd rfl c
                  obtain ⟨p, dp', e1, e2, e3⟩ := hq0 z hz'
                  exact ⟨p, dp', e1, e2, by rw [upd_ne (fun c => by rw [c, hD2] at e3; cases e3)]; exact sN _ _ e3⟩
              · rw [o1] at o; cases o
              · rw [o2] at o; cases o
              · rw [o3] at cr; cases cr
          · rintro H10 ⟨q0, hD2, hq0, s10⟩
            rw [lz, List.take_length] at hD2 hq0
            have Da2 := ne_a ha9 nD2
            have ha10 := s10 _ _ ha9
            have fD2 : H D2 = none := e09.dom _ nD2
            walk_at "rdF"
            refine ⟨a, C, dx, _, rfl, ha10, S.cl, S.n4, by simp, ?_⟩
            rw [putF4]
            refine ⟨D2, .dK (SB.map fun r => ((.inr r.n : Key), q0 r.n)), by rw [upd_ne Da2]; exact hD2, trivial, fun os => ?_⟩
            have e11 : Ex (fun p => p ≠ a) H9 (upd (upd H10 a (.ins C dx (wf4 (.ref cp) (.ref tp) (.ref D) (.ref D2)))) D2 (.frz os (.dK (SB.map fun r => ((.inr r.n : Key), q0 r.n))))) := ((Ex.same s10).mutU (by simp) (by rw [ha10]; simp)).mut nD2
            have ha11 : (upd (upd H10 a (.ins C dx (wf4 (.ref cp) (.ref tp) (.ref D) (.ref D2)))) D2 (.frz os (.dK (SB.map fun r => ((.inr r.n : Key), q0 r.n))))) a = some (.ins C dx (wf4 (.ref cp) (.ref tp) (.ref D) (.ref D2))) := by rw [upd_ne Da2.symm]; exact upd_same
            have hD11 : (upd (upd H10 a (.ins C dx (wf4 (.ref cp) (.ref tp) (.ref D) (.ref D2)))) D2 (.frz os (.dK (SB.map fun r => ((.inr r.n : Key), q0 r.n))))) D2 = some (.frz os (.dK (SB.map fun r => ((.inr r.n : Key), q0 r.n)))) := upd_same
            have hq11 : ∀ r ∈ SB, SpanAt (fun q => H q = none) CS (upd (upd H10 a (.ins C dx (wf4 (.ref cp) (.ref tp) (.ref D) (.ref D2)))) D2 (.frz os (.dK (SB.map fun r => ((.inr r.n : Key), q0 r.n))))) (q0 r.n) r.l r.h := fun r hr => by
              obtain ⟨p, dp', e1, e2, e3⟩ := hq0 r hr
              exact ⟨p, dp', e1, e2, by rw [upd_ne (fun c => by rw [c, hD2] at e3; cases e3), upd_ne (fa p e2)]; exact e3⟩
            generalize (upd (upd H10 a (.ins C dx (wf4 (.ref cp) (.ref tp) (.ref D) (.ref D2)))) D2 (.frz os (.dK (SB.map fun r => ((.inr r.n : Key), q0 r.n))))) = H11 at *
            have fr : ∀ p, H p = none → (p = a ∨ H p = none) := fun p h => .inr h
            refine h1 H11 (e09.trans e11) ⟨dx, cp, tp, D, D2, oc, oe, os, g, q0, .inl rfl, ha11, .inr fc, e11.keep _ _ ca hc9, ?_, .inr fD, e11.keep _ _ Da hD9, fun r hr => ((hg9 r hr).ex (e11.less fa)).less fr, .inr fD2, hD11, fun r hr => ?_⟩
            · exact .tup (.inr ft) (e11.keep _ _ ta ht9) ((hzs9.ex (e11.less fa)).less fr)
            · obtain ⟨p, dp', e1, e2, e3⟩ := hq11 r hr
              exact ⟨p, dp', e1, .inr e2, e3⟩
end
set_option maxHeartbeats 1000000
abbrev sWeb_lamps : Stmt := inClass (topS 41) 1
theorem scWeb_lamps : FnScope ["self"] ["self"] (defScope sWeb_lamps) := ⟨rfl, rfl, rfl, by decide +kernel, rfl, by decide +kernel, by decide +kernel⟩
abbrev sWeb_bonds : Stmt := inClass (topS 41) 2
theorem scWeb_bonds : FnScope ["self"] ["self"] (defScope sWeb_bonds) := ⟨rfl, rfl, rfl, by decide +kernel, rfl, by decide +kernel, by decide +kernel⟩
abbrev sWeb_lamp_rows : Stmt := inClass (topS 41) 3
theorem scWeb_lamp_rows : FnScope ["self"] ["self"] (defScope sWeb_lamp_rows) := ⟨rfl, rfl, rfl, by decide +kernel, rfl, by decide +kernel, by decide +kernel⟩
abbrev sWeb_bond_rows : Stmt := inClass (topS 41) 4
theorem scWeb_bond_rows : FnScope ["self"] ["self"] (defScope sWeb_bond_rows) := ⟨rfl, rfl, rfl, by decide +kernel, rfl, by decide +kernel, by decide +kernel⟩
abbrev sWeb_ceiling : Stmt := inClass (topS 41) 5
theorem scWeb_ceiling : FnScope ["self", "lamp"] ["self", "lamp"] (defScope sWeb_ceiling) := ⟨rfl, rfl, rfl, by decide +kernel, rfl, by decide +kernel, by decide +kernel⟩
abbrev sWeb_ends : Stmt := inClass (topS 41) 6
theorem scWeb_ends : FnScope ["self", "bond"] ["self", "bond"] (defScope sWeb_ends) := ⟨rfl, rfl, rfl, by decide +kernel, rfl, by decide +kernel, by decide +kernel⟩
abbrev sWeb_span : Stmt := inClass (topS 41) 7
theorem scWeb_span : FnScope ["self", "bond"] ["self", "bond"] (defScope sWeb_span) := ⟨rfl, rfl, rfl, by decide +kernel, rfl, by decide +kernel, by decide +kernel⟩
abbrev sWeb_lets : Stmt := inClass (topS 41) 8
theorem scWeb_lets : FnScope ["self", "bond", "light"] ["self", "bond", "light"] (defScope sWeb_lets) := ⟨rfl, rfl, rfl, by decide +kernel, rfl, by decide +kernel, by decide +kernel⟩
abbrev sWeb_across : Stmt := inClass (topS 41) 9
theorem scWeb_across : FnScope ["self", "bond", "lamp", "first", "second"] ["self", "bond", "lamp"] (defScope sWeb_across) := ⟨rfl, rfl, rfl, by decide +kernel, rfl, by decide +kernel, by decide +kernel⟩
abbrev scheck_lamp : Stmt := topS 27
theorem sccheck_lamp : FnScope ["web", "lamp"] ["web", "lamp"] (defScope scheck_lamp) := ⟨rfl, rfl, rfl, by decide +kernel, rfl, by decide +kernel, by decide +kernel⟩
abbrev sWeb___contains__ : Stmt := inClass (topS 41) 16
theorem scWeb___contains__ : FnScope ["self", "lamp"] ["self", "lamp"] (defScope sWeb___contains__) := ⟨rfl, rfl, rfl, by decide +kernel, rfl, by decide +kernel, by decide +kernel⟩
section
variable {P : Program} {w : World} {K : PySem.W.Frag} {mg : Str → Option Value} {base : Heap} {C CS CE CB CU : Addr}
structure WebOk (L : List (Str × V)) (B : List BR) : Prop where
  rt : Right L B
  al : Asc (fun r : Str × V => r.1) L
  ab : Asc BR.n B
  kp : ∀ r ∈ B, keptBR r = r
structure WebV (U : Addr → Prop) (C CS : Addr) (H : Hp) (a : Addr) (L : List (Str × V)) (B : List BR) : Prop where
  at_ : WebAt U C CS H a L B
  ok : WebOk L B
theorem Right.perm {L L' : List (Str × V)} {B B' : List BR} (h : Right L B) (hl : L'.Perm L) (hb : B'.Perm B) : Right L' B' := by
  have ml : ∀ {z}, z ∈ lampNs L' → z ∈ lampNs L := fun {z} h => (hl.map _).mem_iff.mp h
  have mb : ∀ {z}, z ∈ bondNs B' → z ∈ bondNs B := fun {z} h => (hb.map _).mem_iff.mp h
  refine ⟨⟨⟨⟨⟨⟨⟨⟨⟨fun z hz => h.nm z ?_⟩, fun v hv => h.num v ?_⟩, fun r hr => h.sp r (hb.mem_iff.mp hr)⟩, (hl.map _).nodup_iff.mpr h.dl⟩, (hb.map _).nodup_iff.mpr h.db⟩, fun r hr => h.sf r (hb.mem_iff.mp hr)⟩, fun z hz => (hl.map _).mem_iff.mpr (h.unk z ?_)⟩, by rw [hl.length_eq]; exact h.l1, by rw [hl.length_eq]; exact h.l10⟩, by rw [hb.length_eq]; exact h.l16⟩
  · rcases List.mem_append.mp hz with q | q
    · exact List.mem_append.mpr (.inl (ml q))
    · exact List.mem_append.mpr (.inr (mb q))
  · unfold numsOf at *
    rcases List.mem_append.mp hv with q | q
    · exact List.mem_append.mpr (.inl ((hl.map _).mem_iff.mp q))
    · obtain ⟨r, hr, q⟩ := List.mem_flatMap.mp q
      exact List.mem_append.mpr (.inr (List.mem_flatMap.mpr ⟨r, hb.mem_iff.mp hr, q⟩))
  · obtain ⟨r, hr, q⟩ := List.mem_flatMap.mp hz
    exact List.mem_flatMap.mpr ⟨r, hb.mem_iff.mp hr, q⟩
theorem minmax (x y : Str) : (minS x y = x ∧ maxS x y = y) ∨ (minS x y = y ∧ maxS x y = x) := by
  unfold minS maxS
  by_cases h : ltS y x
  · simp [h, ltS_asymm h]
  · by_cases g : ltS x y
    · simp [h, g]
    · have e : x = y := ltS_tri g h
      subst e; simp [h]
theorem kept_kept (r : BR) : keptBR (keptBR r) = keptBR r := by
  unfold keptBR minS maxS
  by_cases h : ltS r.y r.x
  · simp [h, ltS_asymm h]
  · by_cases g : ltS r.x r.y
    · simp [h, g]
    · simp [h, g]
theorem Right.kept {L : List (Str × V)} {B : List BR} (h : Right L B) : Right L (B.map keptBR) := by
  have mb : bondNs (B.map keptBR) = bondNs B := by unfold bondNs; rw [List.map_map]; rfl
  have mn : numsOf L (B.map keptBR) = numsOf L B := by unfold numsOf; rw [List.flatMap_map]; rfl
  have me : ∀ z, z ∈ endsOf (B.map keptBR) → z ∈ endsOf B := fun z hz => by
    obtain ⟨q, hq, hz⟩ := List.mem_flatMap.mp hz
    obtain ⟨r, hr, rfl⟩ := List.mem_map.mp hq
    refine List.mem_flatMap.mpr ⟨r, hr, ?_⟩
    rcases minmax r.x r.y with ⟨e1, e2⟩ | ⟨e1, e2⟩ <;> simp [keptBR, e1, e2] at hz ⊢
    · exact hz
    · exact hz.symm
  refine ⟨⟨⟨⟨⟨⟨⟨⟨⟨fun z hz => h.nm z (by rw [mb] at hz; exact hz)⟩, fun v hv => h.num v (by rw [mn] at hv; exact hv)⟩, fun q hq => ?_⟩, h.dl⟩, by rw [mb]; exact h.db⟩, fun q hq => ?_⟩, fun z hz => h.unk z (me z hz)⟩, h.l1, h.l10⟩, by rw [List.length_map]; exact h.l16⟩
  · obtain ⟨r, hr, rfl⟩ := List.mem_map.mp hq
    exact h.sp r hr
  · obtain ⟨r, hr, rfl⟩ := List.mem_map.mp hq
    have := h.sf r hr
    rcases minmax r.x r.y with ⟨e1, e2⟩ | ⟨e1, e2⟩ <;> simp [keptBR, e1, e2]
    · exact this
    · exact fun e => this e.symm
theorem Right.webOk {L : List (Str × V)} {B : List BR} (h : Right L B) : WebOk (sortL L) (sortB B) :=
  ⟨h.kept.perm (srt_perm L) (srt_perm _), srt_asc L, srt_asc _, fun r hr => by
    obtain ⟨q, _, rfl⟩ := List.mem_map.mp (srt_mem.mp hr)
    exact kept_kept q⟩
theorem WebOk.sortL {L : List (Str × V)} {B : List BR} (h : WebOk L B) : sortL L = L := srt_id h.al h.rt.dl
theorem WebOk.sortB {L : List (Str × V)} {B : List BR} (h : WebOk L B) : sortB B = B := by
  have e : B.map keptBR = B := by
    conv => rhs; rw [← List.map_id B]
    exact List.map_congr_left h.kp
  show srtBy BR.n (B.map keptBR) = B
  rw [e]; exact srt_id h.ab h.rt.db
theorem WebAt.to {U U' : Addr → Prop} {H H' : Hp} {a : Addr} {L : List (Str × V)} {B : List BR} (h : WebAt U C CS H a L B) (hh : ∀ p o, U p → H p = some o → U' p ∧ H' p = some o) : WebAt U' C CS H' a L B := by
  obtain ⟨dx, c, b, e, s, oc, oe, os, g, q, ua, ha, uc, hc, hb, ue, he, hg, us, hs, hq⟩ := h.ex
  refine ⟨dx, c, b, e, s, oc, oe, os, g, q, (hh _ _ ua ha).1, (hh _ _ ua ha).2, (hh _ _ uc hc).1, (hh _ _ uc hc).2, hb.to hh, (hh _ _ ue he).1, (hh _ _ ue he).2, fun r hr => (hg r hr).to hh, (hh _ _ us hs).1, (hh _ _ us hs).2, fun r hr => ?_⟩
  obtain ⟨p, dp, e1, e2, e3⟩ := hq r hr
  exact ⟨p, dp, e1, (hh _ _ e2 e3).1, (hh _ _ e2 e3).2⟩
theorem WebV.to {U U' : Addr → Prop} {H H' : Hp} {a : Addr} {L : List (Str × V)} {B : List BR} (h : WebV U C CS H a L B) (hh : ∀ p o, U p → H p = some o → U' p ∧ H' p = some o) : WebV U' C CS H' a L B := ⟨h.at_.to hh, h.ok⟩
theorem WebV.same {U : Addr → Prop} {H H' : Hp} {a : Addr} {L : List (Str × V)} {B : List BR} (h : WebV U C CS H a L B) (s : Same H H') : WebV U C CS H' a L B := h.to fun p o u e => ⟨u, s p o e⟩
theorem WebV.ex {U : Addr → Prop} {H H' : Hp} {a : Addr} {L : List (Str × V)} {B : List BR} (h : WebV U C CS H a L B) (s : Ex U H H') : WebV U C CS H' a L B := h.to fun p o u e => ⟨u, s.keep p o u e⟩
theorem WebV.less {U U' : Addr → Prop} {H : Hp} {a : Addr} {L : List (Str × V)} {B : List BR} (h : WebV U C CS H a L B) (hU : ∀ p, U p → U' p) : WebV U' C CS H a L B := h.to fun p o u e => ⟨hU p u, e⟩
theorem WebOk.scL {L : List (Str × V)} {B : List BR} (h : WebOk L B) : ∀ r ∈ L, Sc r.2 := fun r hr => (isOpen_NI (h.rt.num _ (List.mem_append.mpr (.inl (List.mem_map_of_mem hr))))).sc
theorem WebOk.niB {L : List (Str × V)} {B : List BR} (h : WebOk L B) : ∀ r ∈ B, NI r.l ∧ NI r.h := fun r hr =>
  ⟨isOpen_NI (h.rt.num _ (List.mem_append.mpr (.inr (List.mem_flatMap.mpr ⟨r, hr, by simp⟩)))), isOpen_NI (h.rt.num _ (List.mem_append.mpr (.inr (List.mem_flatMap.mpr ⟨r, hr, by simp⟩))))⟩
theorem wf_c {c b e s : V} : (wf4 c b e s).lookup ("_ceilings" : Str) = some c := by simp [wf4, List.lookup]
theorem wf_b {c b e s : V} : (wf4 c b e s).lookup ("_bond_rows" : Str) = some b := by
  have e1 : (("_bond_rows" : Str) == ("_ceilings" : Str)) = false := by decide
  simp [wf4, List.lookup, e1]
theorem wf_e {c b e s : V} : (wf4 c b e s).lookup ("_ends" : Str) = some e := by
  have e1 : (("_ends" : Str) == ("_ceilings" : Str)) = false := by decide
  have e2 : (("_ends" : Str) == ("_bond_rows" : Str)) = false := by decide
  simp [wf4, List.lookup, e1, e2]
theorem wf_s {c b e s : V} : (wf4 c b e s).lookup ("_spans" : Str) = some s := by
  have e1 : (("_spans" : Str) == ("_ceilings" : Str)) = false := by decide
  have e2 : (("_spans" : Str) == ("_bond_rows" : Str)) = false := by decide
  have e3 : (("_spans" : Str) == ("_ends" : Str)) = false := by decide
  simp [wf4, List.lookup, e1, e2, e3]
def spWLamps (C CS : Addr) : Sp := fun vs H Q _ => ∃ (U : Addr → Prop) (a : Addr) (L : List (Str × V)) (B : List BR), vs = [.ref a] ∧ WebV U C CS H a L B ∧ ∀ p, H p = none → Q (.ref p) (upd H p (.lst ((lampNs L).map V.str)))
theorem ok_web_lamps {k : Nat} {f : Addr} {fd : FuncData} (F : Fun K "lamps" "Web.lamps" sWeb_lamps f fd) (T : Blt mg) (S : SpW K C) : FnOk P w K mg base CX0 (k + 1) f fd ["self"] (spWLamps C CS) := by
  refine F.ok scWeb_lamps (fun vs H Q E h => ?_) (fun cdv A outer s H vs Q E hr h => ?_)
  · obtain ⟨U, a, L, B, rfl, _⟩ := h; rfl
  · obtain ⟨U, a, L, B, rfl, hw, h⟩ := h
    obtain ⟨dx, c, b, e, s, oc, oe, os, g, q, ua, ha, uc, hc, hb, ue, he, hg, us, hs, hq⟩ := hw.at_.ex
    refine ⟨_, (pss_one (ps_ret (pe_callTy (call_listD (by rfl)) (by rfl) T.list' (by decide +kernel) (pa_cons (pe_fld (pv 0) rfl) pa_nil)))), ?_⟩
    walk_at "rdF"
    refine ⟨a, C, dx, _, _, rfl, ha, S.cl, S.n1, wf_c, ?_⟩
    walk_at "rdF"
    refine ⟨c, _, rfl, .inr ⟨_, hc⟩, fun p np => ?_⟩
    rw [List.map_map]
    have := h p np
    rw [List.map_map] at this
    exact this
def spWBonds (C CS : Addr) : Sp := fun vs H Q _ => ∃ (U : Addr → Prop) (a : Addr) (L : List (Str × V)) (B : List BR), vs = [.ref a] ∧ WebV U C CS H a L B ∧ ∀ p, H p = none → Q (.ref p) (upd H p (.lst ((bondNs B).map V.str)))
theorem ok_web_bonds {k : Nat} {f : Addr} {fd : FuncData} (F : Fun K "bonds" "Web.bonds" sWeb_bonds f fd) (T : Blt mg) (S : SpW K C) : FnOk P w K mg base CX0 (k + 1) f fd ["self"] (spWBonds C CS) := by
  refine F.ok scWeb_bonds (fun vs H Q E h => ?_) (fun cdv A outer s H vs Q E hr h => ?_)
  · obtain ⟨U, a, L, B, rfl, _⟩ := h; rfl
  · obtain ⟨U, a, L, B, rfl, hw, h⟩ := h
    obtain ⟨dx, c, b, e, s, oc, oe, os, g, q, ua, ha, uc, hc, hb, ue, he, hg, us, hs, hq⟩ := hw.at_.ex
    refine ⟨_, (pss_one (ps_ret (pe_callTy (call_listD (by rfl)) (by rfl) T.list' (by decide +kernel) (pa_cons (pe_fld (pv 0) rfl) pa_nil)))), ?_⟩
    walk_at "rdF"
    refine ⟨a, C, dx, _, _, rfl, ha, S.cl, S.n3, wf_e, ?_⟩
    walk_at "rdF"
    refine ⟨e, _, rfl, .inr ⟨_, he⟩, fun p np => ?_⟩
    rw [List.map_map]
    have := h p np
    rw [List.map_map] at this
    exact this
def spWLampRows (C CS : Addr) : Sp := fun vs H Q _ => ∃ (U : Addr → Prop) (a : Addr) (L : List (Str × V)) (B : List BR), vs = [.ref a] ∧ WebV U C CS H a L B ∧ ∀ p xs H', Same H H' → H p = none → H' p = some (.lst xs) → RepL (fun q => H q = none ∧ q ≠ p) H' xs (L.map lampD) → Q (.ref p) H'
theorem rows_rep {H H' : Hp} {p : Addr} : ∀ {ts : List Addr} {L : List (Str × V)}, Paired (fun (t : Addr) (q : Key × V) => H' t = some (.tup [kV q.1, q.2])) ts (L.map fun r => ((.inr r.1 : Key), r.2)) → (∀ t ∈ ts, H t = none) → p ∉ ts → (∀ r ∈ L, Sc r.2) → RepL (fun q => H q = none ∧ q ≠ p) H' (ts.map V.ref) (L.map lampD)
  | [], [], .nil, _, _, _ => .nil
  | t :: ts, r :: L, .cons a rr, h1, h2, h3 => .cons (.tup ⟨h1 t List.mem_cons_self, fun e => h2 (by rw [← e]; exact List.mem_cons_self)⟩ a (.cons (.str _) (.cons (.sc (h3 r List.mem_cons_self)) .nil))) (rows_rep rr (fun t ht => h1 t (List.mem_cons_of_mem _ ht)) (fun m => h2 (List.mem_cons_of_mem _ m)) fun r hr => h3 r (List.mem_cons_of_mem _ hr))
theorem ok_web_lamp_rows {k : Nat} {f : Addr} {fd : FuncData} (F : Fun K "lamp_rows" "Web.lamp_rows" sWeb_lamp_rows f fd) (T : Blt mg) (S : SpW K C) : FnOk P w K mg base CX0 (k + 1) f fd ["self"] (spWLampRows C CS) := by
  refine F.ok scWeb_lamp_rows (fun vs H Q E h => ?_) (fun cdv A outer s H vs Q E hr h => ?_)
  · obtain ⟨U, a, L, B, rfl, _⟩ := h; rfl
  · obtain ⟨U, a, L, B, rfl, hw, h⟩ := h
    obtain ⟨dx, c, b, e, s, oc, oe, os, g, q, ua, ha, uc, hc, hb, ue, he, hg, us, hs, hq⟩ := hw.at_.ex
    refine ⟨_, (pss_one (ps_ret (pe_listItemsR (by rfl) (pe_fld (pv 0) rfl) (by rfl) T.list' (by decide +kernel)))), ?_⟩
    walk_at "rdF"
    refine ⟨a, C, dx, _, _, rfl, ha, S.cl, S.n1, wf_c, ?_⟩
    exact ⟨c, _, rfl, .inr ⟨_, hc⟩, fun H' p ts k1 k2 k3 k4 k5 k6 => h p _ H' k1 k2 k5 (rows_rep k6 k3 k4 hw.ok.scL)⟩
def spWBondRows (C CS : Addr) : Sp := fun vs H Q _ => ∃ (U : Addr → Prop) (a : Addr) (L : List (Str × V)) (B : List BR), vs = [.ref a] ∧ WebV U C CS H a L B ∧ ∀ p xs, H p = none → RepL U H xs (B.map BR.d) → Q (.ref p) (upd H p (.lst xs))
theorem ok_web_bond_rows {k : Nat} {f : Addr} {fd : FuncData} (F : Fun K "bond_rows" "Web.bond_rows" sWeb_bond_rows f fd) (T : Blt mg) (S : SpW K C) : FnOk P w K mg base CX0 (k + 1) f fd ["self"] (spWBondRows C CS) := by
  refine F.ok scWeb_bond_rows (fun vs H Q E h => ?_) (fun cdv A outer s H vs Q E hr h => ?_)
  · obtain ⟨U, a, L, B, rfl, _⟩ := h; rfl
  · obtain ⟨U, a, L, B, rfl, hw, h⟩ := h
    obtain ⟨dx, c, b, e, s, oc, oe, os, g, q, ua, ha, uc, hc, hb, ue, he, hg, us, hs, hq⟩ := hw.at_.ex
    obtain ⟨bp, xs, eb, _, hbp, hx⟩ := hb.tupI
    cases eb
    refine ⟨_, (pss_one (ps_ret (pe_callTy call_list_of (by rfl) T.list' (by decide +kernel) (pa_cons (pe_fld (pv 0) rfl) pa_nil)))), ?_⟩
    walk_at "rdF"
    refine ⟨a, C, dx, _, _, rfl, ha, S.cl, S.n2, wf_b, ?_⟩
    walk_at "rdF"
    exact ⟨b, xs, rfl, .inr (st_of hbp), fun p np => h p xs np hx⟩
theorem lampV {L : List (Str × V)} {B : List BR} (ok : WebOk L B) {z : Str} {v : V} (h : valV (L.map fun r => ((.inr r.1 : Key), r.2)) (.inr z) = some v) : ∃ r ∈ L, r.1 = z ∧ r.2 = v := by
  by_cases c : z ∈ L.map fun r => r.1
  · obtain ⟨r, hr, rfl⟩ := List.mem_map.mp c
    have := valV_at (n := fun r : Str × V => r.1) (g := fun r => r.2) ok.rt.dl r hr
    rw [this] at h
    exact ⟨r, hr, rfl, Option.some.inj h⟩
  · rw [valV_none (n := fun r : Str × V => r.1) (g := fun r => r.2) c] at h; cases h
theorem lampN {L : List (Str × V)} {B : List BR} (ok : WebOk L B) {z : Str} (h : valV (L.map fun r => ((.inr r.1 : Key), r.2)) (.inr z) = none) : z ∉ lampNs L := fun c => by
  obtain ⟨r, hr, rfl⟩ := List.mem_map.mp c
  have := valV_at (n := fun r : Str × V => r.1) (g := fun r => r.2) ok.rt.dl r hr
  rw [this] at h; cases h
theorem bondV {L : List (Str × V)} {B : List BR} (ok : WebOk L B) {g : Str → V} {z : Str} {v : V} (h : valV (B.map fun r => ((.inr r.n : Key), g r.n)) (.inr z) = some v) : ∃ r ∈ B, r.n = z ∧ g r.n = v := by
  by_cases c : z ∈ B.map BR.n
  · obtain ⟨r, hr, rfl⟩ := List.mem_map.mp c
    have := valV_at (n := BR.n) (g := fun r => g r.n) ok.rt.db r hr
    rw [this] at h
    exact ⟨r, hr, rfl, Option.some.inj h⟩
  · rw [valV_none (n := BR.n) (g := fun r => g r.n) c] at h; cases h
theorem bondN {L : List (Str × V)} {B : List BR} (ok : WebOk L B) {g : Str → V} {z : Str} (h : valV (B.map fun r => ((.inr r.n : Key), g r.n)) (.inr z) = none) : z ∉ bondNs B := fun c => by
  obtain ⟨r, hr, rfl⟩ := List.mem_map.mp c
  have := valV_at (n := BR.n) (g := fun r => g r.n) ok.rt.db r hr
  rw [this] at h; cases h
def spWCeil (C CS CU : Addr) : Sp := fun vs H Q E => ∃ (U : Addr → Prop) (a : Addr) (L : List (Str × V)) (B : List BR) (z : Str), vs = [.ref a, .str z] ∧ WebV U C CS H a L B ∧ (∀ r ∈ L, r.1 = z → Q r.2 H) ∧ (z ∉ lampNs L → ErrF E CU H [("name", .str z)])
theorem ok_web_ceiling {k : Nat} {f : Addr} {fd : FuncData} (F : Fun K "ceiling" "Web.ceiling" sWeb_ceiling f fd) (T : Blt mg) (S : SpW K C) (Hlook_up : HasX P w K mg base "look_up" k ["table", "name"] (spLookUp CU)) : FnOk P w K mg base (L2.CX P w) (k + 1) f fd ["self", "lamp"] (spWCeil C CS CU) := by
  refine F.okX scWeb_ceiling (fun vs H Q E h => ?_) (fun cdv A outer s H vs Q E hr h => ?_)
  · obtain ⟨U, a, L, B, z, rfl, _⟩ := h; rfl
  · obtain ⟨U, a, L, B, z, rfl, hw, h1, h2⟩ := h
    obtain ⟨dx, c, b, e, s, oc, oe, os, g, q, ua, ha, uc, hc, hb, ue, he, hg, us, hs, hq⟩ := hw.at_.ex
    refine ⟨_, (pss_one (ps_ret (pe_callX Hlook_up hr (by rfl) (takes_of rfl rfl rfl rfl) (pa_cons (pe_fld (pv 0) rfl) (pa_cons (pv 1) pa_nil))))), ?_⟩
    walk_at "rdF"
    refine ⟨a, C, dx, _, _, rfl, ha, S.cl, S.n1, wf_c, ?_⟩
    walk_at "rdF"
    refine ⟨c, z, _, rfl, .inr ⟨_, hc⟩, fun v hv => ?_, fun hn => h2 (lampN hw.ok hn)⟩
    obtain ⟨r, hr, e1, e2⟩ := lampV hw.ok hv
    walk_at "rdF"
    rw [← e2]; exact h1 r hr e1
def spWEnds (C CS CU : Addr) : Sp := fun vs H Q E => ∃ (U : Addr → Prop) (a : Addr) (L : List (Str × V)) (B : List BR) (z : Str), vs = [.ref a, .str z] ∧ WebV U C CS H a L B ∧ (∀ r ∈ B, r.n = z → ∀ v, Rep U H v (.tuple [.str r.x, .str r.y]) → Q v H) ∧ (z ∉ bondNs B → ErrF E CU H [("name", .str z)])
theorem ok_web_ends {k : Nat} {f : Addr} {fd : FuncData} (F : Fun K "ends" "Web.ends" sWeb_ends f fd) (T : Blt mg) (S : SpW K C) (Hlook_up : HasX P w K mg base "look_up" k ["table", "name"] (spLookUp CU)) : FnOk P w K mg base (L2.CX P w) (k + 1) f fd ["self", "bond"] (spWEnds C CS CU) := by
  refine F.okX scWeb_ends (fun vs H Q E h => ?_) (fun cdv A outer s H vs Q E hr h => ?_)
  · obtain ⟨U, a, L, B, z, rfl, _⟩ := h; rfl
  · obtain ⟨U, a, L, B, z, rfl, hw, h1, h2⟩ := h
    obtain ⟨dx, c, b, e, s, oc, oe, os, g, q, ua, ha, uc, hc, hb, ue, he, hg, us, hs, hq⟩ := hw.at_.ex
    refine ⟨_, (pss_one (ps_ret (pe_callX Hlook_up hr (by rfl) (takes_of rfl rfl rfl rfl) (pa_cons (pe_fld (pv 0) rfl) (pa_cons (pv 1) pa_nil))))), ?_⟩
    walk_at "rdF"
    refine ⟨a, C, dx, _, _, rfl, ha, S.cl, S.n3, wf_e, ?_⟩
    walk_at "rdF"
    refine ⟨e, z, _, rfl, .inr ⟨_, he⟩, fun v hv => ?_, fun hn => h2 (bondN hw.ok hn)⟩
    obtain ⟨r, hr, e1, e2⟩ := bondV hw.ok hv
    walk_at "rdF"
    rw [← e2]; exact h1 r hr e1 _ (hg r hr)
def spWSpan (C CS CU : Addr) : Sp := fun vs H Q E => ∃ (U : Addr → Prop) (a : Addr) (L : List (Str × V)) (B : List BR) (z : Str), vs = [.ref a, .str z] ∧ WebV U C CS H a L B ∧ (∀ r ∈ B, r.n = z → ∀ v, SpanAt U CS H v r.l r.h → Q v H) ∧ (z ∉ bondNs B → ErrF E CU H [("name", .str z)])
theorem ok_web_span {k : Nat} {f : Addr} {fd : FuncData} (F : Fun K "span" "Web.span" sWeb_span f fd) (T : Blt mg) (S : SpW K C) (Hlook_up : HasX P w K mg base "look_up" k ["table", "name"] (spLookUp CU)) : FnOk P w K mg base (L2.CX P w) (k + 1) f fd ["self", "bond"] (spWSpan C CS CU) := by
  refine F.okX scWeb_span (fun vs H Q E h => ?_) (fun cdv A outer s H vs Q E hr h => ?_)
  · obtain ⟨U, a, L, B, z, rfl, _⟩ := h; rfl
  · obtain ⟨U, a, L, B, z, rfl, hw, h1, h2⟩ := h
    obtain ⟨dx, c, b, e, s, oc, oe, os, g, q, ua, ha, uc, hc, hb, ue, he, hg, us, hs, hq⟩ := hw.at_.ex
    refine ⟨_, (pss_one (ps_ret (pe_callX Hlook_up hr (by rfl) (takes_of rfl rfl rfl rfl) (pa_cons (pe_fld (pv 0) rfl) (pa_cons (pv 1) pa_nil))))), ?_⟩
    walk_at "rdF"
    refine ⟨a, C, dx, _, _, rfl, ha, S.cl, S.n4, wf_s, ?_⟩
    walk_at "rdF"
    refine ⟨s, z, _, rfl, .inr ⟨_, hs⟩, fun v hv => ?_, fun hn => h2 (bondN hw.ok hn)⟩
    obtain ⟨r, hr, e1, e2⟩ := bondV hw.ok hv
    walk_at "rdF"
    rw [← e2]; exact h1 r hr e1 _ (hq r hr)
def spWLets (C CS CE CU : Addr) : Sp := fun vs H Q E => ∃ (U : Addr → Prop) (a : Addr) (L : List (Str × V)) (B : List BR) (z : Str) (v : V), vs = [.ref a, .str z, v] ∧ WebV U C CS H a L B ∧ Sc v ∧ (isNum v = false → Err E CE H v) ∧ (isNum v = true → z ∉ bondNs B → ErrF E CU H [("name", .str z)]) ∧ (isNum v = true → ∀ n, v = .int n → ∀ r ∈ B, r.n = z → Q (.bl (lets_ r.l r.h n)) H)
theorem num_int {v : V} (h : isNum v = true) : ∃ n, v = .int n := by
  cases v <;> first | exact ⟨_, rfl⟩ | cases h
theorem ok_web_lets {k : Nat} {f : Addr} {fd : FuncData} (F : Fun K "lets" "Web.lets" sWeb_lets f fd) (T : Blt mg) (cl_Web : Cls K C) (Hcheck_number : HasX P w K mg base "check_number" k ["value"] (spCheck CE)) (HT_Web_span : HasMt P w K mg base (L2.CX P w) C "span" k ["self", "bond"] (spWSpan C CS CU)) (HM_Span_contains : HasM P w K mg base CX0 CS "__contains__" k ["self", "light"] (spContains CS)) : FnOk P w K mg base (L2.CX P w) (k + 1) f fd ["self", "bond", "light"] (spWLets C CS CE CU) := by
  refine F.okX scWeb_lets (fun vs H Q E h => ?_) (fun cdv A outer s H vs Q E hr h => ?_)
  · obtain ⟨U, a, L, B, z, v, rfl, _⟩ := h; rfl
  · obtain ⟨U, a, L, B, z, v, rfl, hw, sv, h1, h2, h3⟩ := h
    obtain ⟨dx, c, b, e, s, oc, oe, os, g, q, ua, ha, uc, hc, hb, ue, he, hg, us, hs, hq⟩ := hw.at_.ex
    refine ⟨_, (pss_cons (ps_expr (pe_callX Hcheck_number hr (by rfl) (takes_of rfl rfl rfl rfl) (pa_cons (pv 2) pa_nil)))
 (pss_one (ps_ret (pe_cmpR (op_inM HM_Span_contains hr pass0) (pv 2) (pe_mt HT_Web_span cl_Web (pv 0) hr (fun σ => passAt (takes_of rfl rfl rfl rfl) σ) (pa_cons (pv 1) pa_nil)) (by rfl))))), ?_⟩
    walk_at "rdF"
    refine ⟨v, rfl, sv, fun ok => ?_, h1⟩
    obtain ⟨n, rfl⟩ := num_int ok
    walk_at "rdF"
    refine ⟨a, dx, _, rfl, ha, by rfl, ?_⟩
    walk_at "rdF"
    refine ⟨U, a, L, B, z, rfl, hw, fun r hr e1 v hv => ?_, h2 ok⟩
    obtain ⟨p, dp, rfl, up, hp⟩ := hv
    obtain ⟨n1, n2⟩ := hw.ok.niB r hr
    walk_at "rdF"
    refine ⟨p, dp, _, rfl, hp, p, dp, r.l, r.h, n, rfl, hp, n1, n2, _, rfl, ?_⟩
    walk_at "rdF"
    exact h3 ok n rfl r hr e1
def spWAcross (C CS CU : Addr) : Sp := fun vs H Q E => ∃ (U : Addr → Prop) (a : Addr) (L : List (Str × V)) (B : List BR) (z y : Str), vs = [.ref a, .str z, .str y] ∧ WebV U C CS H a L B ∧ (∀ r ∈ B, r.n = z → (y = r.x → Q (.str r.y) H) ∧ (y ≠ r.x → y = r.y → Q (.str r.x) H) ∧ (y ≠ r.x → y ≠ r.y → ErrF E CU H [("name", .str y)])) ∧ (z ∉ bondNs B → ErrF E CU H [("name", .str z)])
theorem ok_web_across {k : Nat} {f : Addr} {fd : FuncData} (F : Fun K "across" "Web.across" sWeb_across f fd) (T : Blt mg) (cl_Web : Cls K C) (E_Unknown : ErrC K mg "Unknown" CU) (I_Unknown : HasI P w K mg base CU 1 ["self", "name"] (spInit1 K "name")) (N1 : PySem.W.findIn K (.ref CU) "name" = some none) (HT_Web_ends : HasMt P w K mg base (L2.CX P w) C "ends" k ["self", "bond"] (spWEnds C CS CU)) (hk : 2 ≤ k) : FnOk P w K mg base (L2.CX P w) (k + 1) f fd ["self", "bond", "lamp"] (spWAcross C CS CU) := by
  refine F.okX scWeb_across (fun vs H Q E h => ?_) (fun cdv A outer s H vs Q E hr h => ?_)
  · obtain ⟨U, a, L, B, z, v, rfl, _⟩ := h; rfl
  · obtain ⟨U, a, L, B, z, y, rfl, hw, h1, h2⟩ := h
    obtain ⟨dx, c, b, e, s, oc, oe, os, g, q, ua, ha, uc, hc, hb, ue, he, hg, us, hs, hq⟩ := hw.at_.ex
    refine ⟨_, (pss_cons (ps_asg (pe_mt HT_Web_ends cl_Web (pv 0) hr (fun σ => passAt (takes_of rfl rfl rfl rfl) σ) (pa_cons (pv 1) pa_nil)) (pg_seqU (K := K) rfl rfl (pgs_cons (pg_name (i := 3) scWeb_across.nd rfl (.inl rfl)) (pgs_cons (pg_name (i := 4) scWeb_across.nd rfl (.inl rfl)) pgs_nil))))
 (pss_cons (ps_if (pt_cmpR op_eq (pv 2) (pv 3) (nomark _)) (pss_one (ps_ret (pv 4))) pss_nil)
 (pss_cons (ps_if (pt_cmpR op_eq (pv 2) (pv 4) (nomark _)) (pss_one (ps_ret (pv 3))) pss_nil)
 (pss_one (ps_raiseC rfl (takes_of rfl rfl rfl rfl) E_Unknown I_Unknown hr (by omega) (by rfl) (pa_cons (pv 2) pa_nil)))))), ?_⟩
    walk_at "rdF"
    refine ⟨a, dx, _, rfl, ha, by rfl, ?_⟩
    walk_at "rdF"
    refine ⟨U, a, L, B, z, rfl, hw, fun r hr e1 v hv => ?_, h2⟩
    obtain ⟨q1, q2, q3⟩ := h1 r hr e1
    refine rd_gSeq hv rfl rfl fun xs rx => ?_
    obtain ⟨u, v, rfl, ru, rv⟩ := rep2 rx
    cases ru.strI
    cases rv.strI
    walk_at "rdF"
    refine if_dec (fun c1 => ?_) (fun c1 => ?_)
    · walk_at "rdF"
      exact q1 (V.str.inj c1)
    · walk_at "rdF"
      refine if_dec (fun c2 => ?_) (fun c2 => ?_)
      · walk_at "rdF"
        exact q2 (fun e => c1 (by rw [e])) (V.str.inj c2)
      · walk_at "rdF"
        exact rd_mk1 E_Unknown.ox N1 fun d H' _ sm e' => q3 (fun e => c1 (by rw [e])) (fun e => c2 (by rw [e])) d H' sm e'
def spWHas (C CS : Addr) : Sp := fun vs H Q _ => ∃ (U : Addr → Prop) (a : Addr) (L : List (Str × V)) (B : List BR) (z : Str), vs = [.ref a, .str z] ∧ WebV U C CS H a L B ∧ Q (.bl (decide (z ∈ lampNs L))) H
theorem ok_web_contains {k : Nat} {f : Addr} {fd : FuncData} (F : Fun K "__contains__" "Web.__contains__" sWeb___contains__ f fd) (T : Blt mg) (S : SpW K C) : FnOk P w K mg base CX0 (k + 1) f fd ["self", "lamp"] (spWHas C CS) := by
  refine F.ok scWeb___contains__ (fun vs H Q E h => ?_) (fun cdv A outer s H vs Q E hr h => ?_)
  · obtain ⟨U, a, L, B, z, rfl, _⟩ := h; rfl
  · obtain ⟨U, a, L, B, z, rfl, hw, h⟩ := h
    obtain ⟨dx, c, b, e, s, oc, oe, os, g, q, ua, ha, uc, hc, hb, ue, he, hg, us, hs, hq⟩ := hw.at_.ex
    refine ⟨_, (pss_one (ps_ret (pe_cmp (pc_din (hu_of hr) (pv 1) (pe_fld (pv 0) rfl)) (by rfl)))), ?_⟩
    walk_at "rdF"
    refine ⟨a, C, dx, _, _, rfl, ha, S.cl, S.n1, wf_c, ?_⟩
    refine ⟨c, _, rfl, dget_rd (.inr ⟨_, hc⟩), ?_⟩
    cases e : valV (L.map fun r => ((.inr r.1 : Key), r.2)) (.inr z) with
    | none =>
      have := lampN hw.ok e
      rw [decide_eq_false this] at h
      exact h
    | some v =>
      obtain ⟨r, hr, e1, _⟩ := lampV hw.ok e
      rw [decide_eq_true (by rw [← e1]; exact List.mem_map_of_mem hr)] at h
      exact h
def spCheckLamp (C CS CU : Addr) : Sp := fun vs H Q E => ∃ (U : Addr → Prop) (a : Addr) (L : List (Str × V)) (B : List BR) (z : Str), vs = [.ref a, .str z] ∧ WebV U C CS H a L B ∧ (z ∈ lampNs L → Q .non H) ∧ (z ∉ lampNs L → ErrF E CU H [("name", .str z)])
theorem ok_check_lamp {k : Nat} {f : Addr} {fd : FuncData} (F : Fun K "check_lamp" "check_lamp" scheck_lamp f fd) (T : Blt mg) (E_Unknown : ErrC K mg "Unknown" CU) (I_Unknown : HasI P w K mg base CU 1 ["self", "name"] (spInit1 K "name")) (N1 : PySem.W.findIn K (.ref CU) "name" = some none) (HM_Web_contains : HasM P w K mg base CX0 C "__contains__" k ["self", "lamp"] (spWHas C CS)) (hk : 2 ≤ k) : FnOk P w K mg base (L2.CX P w) (k + 1) f fd ["web", "lamp"] (spCheckLamp C CS CU) := by
  refine F.okX sccheck_lamp (fun vs H Q E h => ?_) (fun cdv A outer s H vs Q E hr h => ?_)
  · obtain ⟨U, a, L, B, z, rfl, _⟩ := h; rfl
  · obtain ⟨U, a, L, B, z, rfl, hw, h1, h2⟩ := h
    obtain ⟨dx, c, b, e, s, oc, oe, os, g, q, ua, ha, uc, hc, hb, ue, he, hg, us, hs, hq⟩ := hw.at_.ex
    refine ⟨_, (pss_one (ps_if (pt_cmpR (op_notInM HM_Web_contains hr pass0) (pv 1) (pv 0) (by rfl)) (pss_one (ps_raiseC rfl (takes_of rfl rfl rfl rfl) E_Unknown I_Unknown hr (by omega) (by rfl) (pa_cons (pv 1) pa_nil))) pss_nil)), ?_⟩
    walk_at "rdF"
    refine ⟨a, dx, _, rfl, ha, U, a, L, B, z, rfl, hw, _, rfl, ?_⟩
    walk_at "rdF"
    refine if_ndec (fun hn => ?_) (fun hn => ?_)
    · walk_at "rdF"
      exact rd_mk1 E_Unknown.ox N1 fun d H' _ sm e' => h2 hn d H' sm e'
    · walk_at "rdF"
      exact h1 hn
end
set_option maxHeartbeats 1000000
abbrev sWeb_bonds_of : Stmt := inClass (topS 41) 10
theorem scWeb_bonds_of : FnScope ["self", "lamp", "bond", "ends"] ["self", "lamp"] (defScope sWeb_bonds_of) := ⟨rfl, rfl, rfl, by decide +kernel, rfl, by decide +kernel, by decide +kernel⟩
abbrev sWeb_other_bond_rows : Stmt := inClass (topS 41) 15
theorem scWeb_other_bond_rows : FnScope ["self", "bond", "row"] ["self", "bond"] (defScope sWeb_other_bond_rows) := ⟨rfl, rfl, rfl, by decide +kernel, rfl, by decide +kernel, by decide +kernel⟩
section
variable {P : Program} {w : World} {K : PySem.W.Frag} {mg : Str → Option Value} {base : Heap} {C CS CE CB CU : Addr}
def bondsOf (B : List BR) (z : Str) : List Str := (B.filter fun r => decide (z ∈ [r.x, r.y])).map BR.n
theorem bondsOf_succ {B : List BR} {z : Str} {i : Nat} {r : BR} (h : B[i]? = some r) : bondsOf (B.take (i + 1)) z = bondsOf (B.take i) z ++ if z ∈ [r.x, r.y] then [r.n] else [] := by
  unfold bondsOf
  rw [take_succ h, List.filter_append, List.map_append]
  congr 1
  by_cases c : z ∈ [r.x, r.y]
  · rw [if_pos c, List.filter_cons_of_pos (by simpa using c)]; rfl
  · rw [if_neg c, List.filter_cons_of_neg (by simpa using c)]; rfl
theorem bondsOf_len (B : List BR) (z : Str) : (bondsOf B z).length ≤ B.length := by
  unfold bondsOf; rw [List.length_map]; exact List.length_filter_le _ _
def spWBondsOf (C CS CU : Addr) : Sp := fun vs H Q E => ∃ (U : Addr → Prop) (a : Addr) (L : List (Str × V)) (B : List BR) (z : Str), vs = [.ref a, .str z] ∧ WebV U C CS H a L B ∧ (z ∈ lampNs L → ∀ p H', Same H H' → H p = none → H' p = some (.lst ((bondsOf B z).map V.str)) → Q (.ref p) H') ∧ (z ∉ lampNs L → ErrF E CU H [("name", .str z)])
theorem ok_web_bonds_of {k : Nat} {f : Addr} {fd : FuncData} (F : Fun K "bonds_of" "Web.bonds_of" sWeb_bonds_of f fd) (T : Blt mg) (S : SpW K C) (Hcheck_lamp : HasX P w K mg base "check_lamp" k ["web", "lamp"] (spCheckLamp C CS CU)) : FnOk P w K mg base (L2.CX P w) (k + 1) f fd ["self", "lamp"] (spWBondsOf C CS CU) := by
  refine F.okX scWeb_bonds_of (fun vs H Q E h => ?_) (fun cdv A outer s H vs Q E hr h => ?_)
  · obtain ⟨U, a, L, B, z, rfl, _⟩ := h; rfl
  · obtain ⟨U, a, L, B, z, rfl, hw, h1, h2⟩ := h
    obtain ⟨dx, c, b, e, s, oc, oe, os, g, q, ua, ha, uc, hc, hb, ue, he, hg, us, hs, hq⟩ := hw.at_.ex
    refine ⟨_, (pss_cons (ps_expr (pe_callX Hcheck_lamp hr (by rfl) (takes_of rfl rfl rfl rfl) (pa_cons (pv 0) (pa_cons (pv 1) pa_nil))))
 (pss_one (ps_ret (pe_lc (own := [("bond", 2), ("ends", 3)]) (g := (gSeq K 2 (gCons (gName 2) (gCons (gName 3) gNil)))) (by rfl) scWeb_bonds_of.nd (pi_items (pe_fld (pv 0) rfl)) (blkOk_by (own := [("bond", 2), ("ends", 3)]) (N := ["self", "lamp", "bond", "ends"]) (sc := defScope sWeb_bonds_of) (by decide +kernel)) (fun _ _ _ _ _ => (pg_seqU (K := K) rfl rfl (pgs_cons (pg_name (i := 2) scWeb_bonds_of.nd rfl (.inl rfl)) (pgs_cons (pg_name (i := 3) scWeb_bonds_of.nd rfl (.inl rfl)) pgs_nil)))) (fun _ _ _ _ _ => (pts_one (pt_cmpR (op_in_seqR (K := K) rfl) (pv 1) (pv 3) (by rfl)))) (fun _ _ _ _ _ => (pv 2)))))), ?_⟩
    walk_at "rdF"
    refine ⟨U, a, L, B, z, rfl, hw, fun hz => ?_, h2⟩
    walk_at "rdF"
    refine ⟨a, C, dx, _, _, rfl, ha, S.cl, S.n3, wf_e, ?_⟩
    have lB : B.length ≤ 16 := hw.ok.rt.l16
    refine ⟨e, oe, _, rfl, he, fun D nD => lc_items (fun i H' => Same H H' ∧ H' D = some (.lst ((bondsOf (B.take i) z).map V.str))) ⟨same_new nD, by rw [List.take_zero]; exact upd_same⟩ (fun i H' h => h.1 _ _ he) ?_ ?_⟩
    · rintro i k v t H' hi nt ⟨sm, hD⟩
      rw [List.getElem?_map] at hi
      cases qi : B[i]? with
      | none => rw [qi] at hi; cases hi
      | some r =>
        rw [qi] at hi
        cases hi
        have hr := List.mem_of_getElem? qi
        have s1 := sm.trans (same_new (o := .tup [V.str r.n, g r.n]) nt)
        have hgr := (hg r hr).same s1
        have hT : Rep U (upd H' t (.tup [V.str r.n, g r.n])) (g r.n) (.tuple [.str r.x, .str r.y]) := hgr
        refine ⟨t, _, rfl, .inr upd_same, rfl, ?_⟩
        walk_at "rdF"
        refine ⟨by walk_at "wiped", ?_⟩
        walk_at "rdF"
        refine rd_inRep (ns := [r.x, r.y]) hT rfl rfl ?_
        refine ⟨_, rfl, ?_⟩
        refine if_dec (fun hm => ?_) (fun hm => ?_)
        · walk_at "rdF"
          have nD' := same_new (o := .tup [V.str r.n, g r.n]) nt
          refine ⟨_, nD' _ _ hD, sz (by rw [List.length_map]; have h1 := bondsOf_len (B.take i) z; have h2 := List.length_take_le i B; have h3 := List.length_take (i := i) (l := B); omega), same_mut (sm.trans nD') nD, ?_⟩
          rw [upd_same, bondsOf_succ qi, if_pos hm, List.map_append]; rfl
        · rw [bondsOf_succ qi, if_neg hm, List.append_nil]
          exact ⟨sm.trans (same_new nt), same_new nt _ _ hD⟩
    · rintro H' ⟨sm, hD⟩
      rw [List.length_map, List.take_length] at hD
      walk_at "rdF"
      exact h1 hz D H' sm nD hD
def notNamed (z : Str) (e : PyData) : Bool := match kids e with
  | .str n :: _ => decide (n ≠ z)
  | _ => true
def othersD (B : List BR) (z : Str) : List BR := B.filter fun r => decide (r.n ≠ z)
def spWOther (C CS : Addr) : Sp := fun vs H Q _ => ∃ (U : Addr → Prop) (a : Addr) (L : List (Str × V)) (B : List BR) (z : Str), vs = [.ref a, .str z] ∧ WebV U C CS H a L B ∧ ∀ p H' xs, Same H H' → H p = none → H' p = some (.lst xs) → RepL (fun _ => True) H' xs ((othersD B z).map BR.d) → Q (.ref p) H'
theorem ok_web_other {k j : Nat} {f : Addr} {fd : FuncData} (F : Fun K "other_bond_rows" "Web.other_bond_rows" sWeb_other_bond_rows f fd) (T : Blt mg) (cl_Web : Cls K C) (HP_Web_bond_rows : HasPr P w K mg base CX0 C "bond_rows" j ["self"] (spWBondRows C CS)) (hk : j + 1 ≤ k) : FnOk P w K mg base CX0 (k + 1) f fd ["self", "bond"] (spWOther C CS) := by
  refine F.ok scWeb_other_bond_rows (fun vs H Q E h => ?_) (fun cdv A outer s H vs Q E hr h => ?_)
  · obtain ⟨U, a, L, B, z, rfl, _⟩ := h; rfl
  · obtain ⟨U, a, L, B, z, rfl, hw, h1⟩ := h
    obtain ⟨dx, c, b, e, s, oc, oe, os, g, q, ua, ha, uc, hc, hb, ue, he, hg, us, hs, hq⟩ := hw.at_.ex
    refine ⟨_, (pss_one (ps_ret (pe_lc (own := [("row", 2)]) (g := (gName 2)) (by rfl) scWeb_other_bond_rows.nd (pi_seq (pe_propH HP_Web_bond_rows cl_Web (pv 0) (hr.mono (by omega)) pass0)) (blkOk_by (own := [("row", 2)]) (N := ["self", "bond", "row"]) (sc := defScope sWeb_other_bond_rows) (by decide +kernel)) (fun _ _ _ _ _ => (pg_name (i := 2) scWeb_other_bond_rows.nd rfl (.inl rfl))) (fun _ _ _ _ _ => (pts_one (pt_cmpR op_ne (pe_ix (ix_seqR (K := K) rfl) (pv 2) pe_int (fun _ _ => rfl)) (pv 1) (nomark _)))) (fun _ _ _ _ _ => (pv 2))))), ?_⟩
    walk_at "rdF"
    refine ⟨a, dx, _, rfl, ha, U, a, L, B, rfl, hw, fun p0 xs n0 hx => ?_⟩
    have s0 := same_new (o := .lst xs) n0
    have hv : Rep (fun _ => True) (upd H p0 (.lst xs)) (.ref p0) (.list (B.map BR.d)) := .lst trivial upd_same ((hx.same s0).less fun _ _ => trivial)
    generalize upd H p0 (.lst xs) = H1 at *
    walk_at "rdF"
    refine lc_seq (U := fun _ => True) (fun ds => ds.filter (notNamed z)) (fun _ => True) (.inl hv) rfl (fun _ _ => trivial) rfl (fun _ _ => trivial) ?_ ?_
    · rintro D i x e H' uD nD he hx hI
      have he' : (B.map BR.d)[i]? = some e := he
      rw [List.getElem?_map] at he'
      cases qi : B[i]? with
      | none => rw [qi] at he'; cases he'
      | some r =>
        rw [qi] at he'
        cases he'
        refine ⟨rfl, ?_⟩
        walk_at "rdF"
        refine rep_ix hx rfl (by decide) rfl fun u hu => ?_
        cases hu.strI
        walk_at "rdF"
        refine if_ndec (fun hn => ?_) (fun hn => ?_)
        · walk_at "rdF"
          refine hI.put (e := r.d) .refl trivial nD (fun _ => trivial) hx ?_ ?_
          · refine Nat.lt_of_le_of_lt (List.length_filter_le _ _) ?_
            rw [List.length_take]
            show min i (B.map BR.d).length < _
            rw [List.length_map]
            have := hw.ok.rt.l16
            omega
          · rw [take_succ he, List.filter_append, List.filter_cons_of_pos (by simpa [notNamed, BR.d, kids] using hn)]; rfl
        · rw [take_succ he, List.filter_append, List.filter_cons_of_neg (by simpa [notNamed, BR.d, kids] using hn)]
          simpa using hI
    · rintro p acc H2 e2 _ np hp hacc _
      have eo : (kids (.list (B.map BR.d))).filter (notNamed z) = (othersD B z).map BR.d := by
        show (B.map BR.d).filter _ = _
        rw [List.filter_map]; rfl
      rw [eo] at hacc
      walk_at "rdF"
      exact h1 p H2 acc (s0.trans e2.toSame) (none_back s0 np) hp (hacc.less fun _ _ => trivial)
end
set_option maxHeartbeats 2000000
abbrev sWeb_with_ceiling : Stmt := inClass (topS 41) 11
theorem scWeb_with_ceiling : FnScope ["self", "lamp", "ceiling", "lamp_rows", "name", "kept"] ["self", "lamp", "ceiling"] (defScope sWeb_with_ceiling) := ⟨rfl, rfl, rfl, by decide +kernel, rfl, by decide +kernel, by decide +kernel⟩
abbrev sWeb_with_span : Stmt := inClass (topS 41) 12
theorem scWeb_with_span : FnScope ["self", "bond", "low", "high", "span", "first", "second", "bond_rows"] ["self", "bond", "low", "high"] (defScope sWeb_with_span) := ⟨rfl, rfl, rfl, by decide +kernel, rfl, by decide +kernel, by decide +kernel⟩
abbrev sWeb_with_bond : Stmt := inClass (topS 41) 13
theorem scWeb_with_bond : FnScope ["self", "name", "first", "second", "low", "high"] ["self", "name", "first", "second", "low", "high"] (defScope sWeb_with_bond) := ⟨rfl, rfl, rfl, by decide +kernel, rfl, by decide +kernel, by decide +kernel⟩
abbrev sWeb_without_bond : Stmt := inClass (topS 41) 14
theorem scWeb_without_bond : FnScope ["self", "bond"] ["self", "bond"] (defScope sWeb_without_bond) := ⟨rfl, rfl, rfl, by decide +kernel, rfl, by decide +kernel, by decide +kernel⟩
section
variable {P : Program} {w : World} {K : PySem.W.Frag} {mg : Str → Option Value} {base : Heap} {C CS CE CB CU : Addr}
theorem Right.notWrong {L : List (Str × V)} {B : List BR} (h : Right L B) {e : PErr} (w : Wrong L B e) : False := by
  cases w with
  | name f => obtain ⟨l1, l2, e, _, p⟩ := f; rw [h.nm _ (by rw [e]; simp)] at p; cases p
  | num _ f => obtain ⟨l1, l2, e, _, p⟩ := f; rw [h.num _ (by rw [e]; simp)] at p; cases p
  | span _ f => obtain ⟨l1, l2, e, _, p⟩ := f; rw [h.sp _ (by rw [e]; simp)] at p; cases p
  | dblL _ f => rw [dup_none'.mpr h.dl] at f; cases f
  | dblB _ f => rw [dup_none'.mpr h.db] at f; cases f
  | self _ f => obtain ⟨l1, l2, e, _, p⟩ := f; exact h.sf _ (by rw [e]; simp) p
  | unk _ f => obtain ⟨l1, l2, e, _, p⟩ := f; exact p (h.unk _ (by rw [e]; simp))
  | lamps _ f => exact f ⟨by have := h.l1; omega, by have := h.l10; omega⟩
  | bonds _ f => exact f ⟨by omega, by have := h.l16; omega⟩
theorem rowsL {L : List (Str × V)} (h : ∀ r ∈ L, r.1.length ≤ 1000 ∧ Sc r.2) : RowsD LampRow (.list (L.map lampD)) L := by
  refine ⟨rfl, by show (L.map lampD).length = _; rw [List.length_map], fun i e he => ?_⟩
  have he : (L.map lampD)[i]? = some e := he
  rw [List.getElem?_map] at he
  cases q : L[i]? with
  | none => rw [q] at he; cases he
  | some r =>
    rw [q] at he
    cases he
    obtain ⟨h1, h2⟩ := h r (List.mem_of_getElem? q)
    exact ⟨r, rfl, rfl, rfl, h1, h2⟩
theorem rowsB {B : List BR} (h : ∀ r ∈ B, r.n.length ≤ 1000 ∧ Sc r.l ∧ Sc r.h) : RowsD BondRow (.list (B.map BR.d)) B := by
  refine ⟨rfl, by show (B.map BR.d).length = _; rw [List.length_map], fun i e he => ?_⟩
  have he : (B.map BR.d)[i]? = some e := he
  rw [List.getElem?_map] at he
  cases q : B[i]? with
  | none => rw [q] at he; cases he
  | some r =>
    rw [q] at he
    cases he
    obtain ⟨h1, h2, h3⟩ := h r (List.mem_of_getElem? q)
    exact ⟨r, rfl, rfl, rfl, h1, h2, h3⟩
theorem Right.okL {L : List (Str × V)} {B : List BR} (h : Right L B) : ∀ r ∈ L, r.1.length ≤ 1000 ∧ Sc r.2 := fun r hr =>
  ⟨by have := (isNm_len (h.nm r.1 (List.mem_append.mpr (.inl (List.mem_map_of_mem hr))))).2; omega, (isOpen_NI (h.num _ (List.mem_append.mpr (.inl (List.mem_map_of_mem hr))))).sc⟩
theorem Right.okB {L : List (Str × V)} {B : List BR} (h : Right L B) : ∀ r ∈ B, r.n.length ≤ 1000 ∧ Sc r.l ∧ Sc r.h := fun r hr =>
  ⟨by have := (isNm_len (h.nm r.n (List.mem_append.mpr (.inr (List.mem_map_of_mem hr))))).2; omega, (isOpen_NI (h.num _ (List.mem_append.mpr (.inr (List.mem_flatMap.mpr ⟨r, hr, by simp⟩))))).sc, (isOpen_NI (h.num _ (List.mem_append.mpr (.inr (List.mem_flatMap.mpr ⟨r, hr, by simp⟩))))).sc⟩
theorem rd_web {c : ECs} {U U' : Addr → Prop} {lv bv : V} {dl db : PyData} {L : List (Str × V)} {B : List BR} {H : Hp} {Q : VK} {E : XK} (hl : RepQ K U H lv dl) (hb : RepQ K U' H bv db) (rl : RowsD LampRow dl L) (rb : RowsD BondRow db B) (lL : L.length ≤ 1000) (lB : B.length ≤ 1000)
    (h1 : Right L B → ∀ p H', Same H H' → H p = none → WebV (fun q => H q = none) C CS H' p (sortL L) (sortB B) → Q (.ref p) H') (h2 : ∀ e, Wrong L B e → Raises c E H e) :
    ∀ x dx, H x = none → H dx = none → dx ≠ x → spWebI K C CS c (.ref x :: ([lv, bv] ++ [])) (upd (upd H dx (.own x)) x (.ins C dx [])) (fun v H2 => v = .non ∧ Q (.ref x) H2) E := by
  intro x dx nx nd ne
  have s : Same H (upd (upd H dx (.own x)) x (.ins C dx [])) := same_mut (same_new nd) nx
  refine ⟨fun _ => True, x, dx, lv, bv, dl, db, L, B, rfl, upd_same, hl.any.same s, hb.any.same s, rl, rb, lL, lB, fun R H' ex hw => ⟨rfl, h1 R x H' (fun p o e => ex.keep p o (ne_of_none e nx) (s p o e)) nx ⟨hw.to fun p o u e => ⟨?_, e⟩, R.webOk⟩⟩, fun e he => (h2 e he).same s⟩
  rcases u with rfl | u
  · exact nx
  · exact none_back s u
def setCeil (L : List (Str × V)) (z : Str) (v : V) : List (Str × V) := L.map fun r => (r.1, if r.1 = z then v else r.2)
theorem setCeil_ns {L : List (Str × V)} {z : Str} {v : V} : lampNs (setCeil L z v) = lampNs L := by
  unfold setCeil lampNs; rw [List.map_map]; rfl
theorem setCeil_ok {L : List (Str × V)} {B : List BR} {z : Str} {v : V} (h : WebOk L B) (hv : isOpen v = true) : WebOk (setCeil L z v) B := by
  have r := h.rt
  refine ⟨⟨⟨⟨⟨⟨⟨⟨⟨⟨by rw [setCeil_ns]; exact r.nm⟩, fun u hu => ?_⟩, r.sp⟩, by rw [setCeil_ns]; exact r.dl⟩, r.db⟩, r.sf⟩, by rw [setCeil_ns]; exact r.unk⟩, by unfold setCeil; rw [List.length_map]; exact r.l1, by unfold setCeil; rw [List.length_map]; exact r.l10⟩, r.l16⟩, ?_, h.ab, h.kp⟩
  · rcases List.mem_append.mp hu with q | q
    · obtain ⟨p, hp, rfl⟩ := List.mem_map.mp q
      obtain ⟨p0, hp0, rfl⟩ := List.mem_map.mp hp
      show isOpen (if p0.1 = z then v else p0.2) = true
      by_cases c : p0.1 = z
      · rw [if_pos c]; exact hv
      · rw [if_neg c]; exact r.num _ (List.mem_append.mpr (.inl (List.mem_map_of_mem hp0)))
    · exact r.num _ (List.mem_append.mpr (.inr q))
  · exact List.pairwise_map.mpr h.al
def spWithCeil (C CS CE CU : Addr) : Sp := fun vs H Q E => ∃ (U : Addr → Prop) (a : Addr) (L : List (Str × V)) (B : List BR) (z : Str) (v : V), vs = [.ref a, .str z, v] ∧ WebV U C CS H a L B ∧ Sc v ∧ (isOpen v = false → Err E CE H v) ∧ (isOpen v = true → z ∉ lampNs L → ErrF E CU H [("name", .str z)]) ∧
  (isOpen v = true → z ∈ lampNs L → ∀ p H', Same H H' → H p = none → WebV (fun q => H q = none) C CS H' p (setCeil L z v) B → Q (.ref p) H')
theorem ok_web_with_ceiling {k j : Nat} {f : Addr} {fd : FuncData} {c : ECs} (F : Fun K "with_ceiling" "Web.with_ceiling" sWeb_with_ceiling f fd) (T : Blt mg) (S : SpW K C) (cl_Web : Cls K C) (Hcheck_open_number : HasX P w K mg base "check_open_number" k ["value"] (spCheckO CE)) (Hcheck_lamp : HasX P w K mg base "check_lamp" k ["web", "lamp"] (spCheckLamp C CS CU))
    (HP_Web_bond_rows : HasPr P w K mg base CX0 C "bond_rows" j ["self"] (spWBondRows C CS)) (HM_Web_2 : HasMk P w K mg base (L2.CX P w) C "Web" j ["self", "lamps", "bonds"] [] (spWebI K C CS c)) (hk : j + 1 ≤ k) : FnOk P w K mg base (L2.CX P w) (k + 1) f fd ["self", "lamp", "ceiling"] (spWithCeil C CS CE CU) := by
  refine F.okX scWeb_with_ceiling (fun vs H Q E h => ?_) (fun cdv A outer s H vs Q E hr h => ?_)
  · obtain ⟨U, a, L, B, z, v, rfl, _⟩ := h; rfl
  · obtain ⟨U, a, L, B, z, v, rfl, hw, sv, h1, h2, h3⟩ := h
    obtain ⟨dx, c0, b, e, s, oc, oe, os, g, q, ua, ha, uc, hc, hb, ue, he, hg, us, hs, hq⟩ := hw.at_.ex
    refine ⟨_, (pss_cons (ps_expr (pe_callX Hcheck_open_number hr (by rfl) (takes_of rfl rfl rfl rfl) (pa_cons (pv 2) pa_nil)))
 (pss_cons (ps_expr (pe_callX Hcheck_lamp hr (by rfl) (takes_of rfl rfl rfl rfl) (pa_cons (pv 0) (pa_cons (pv 1) pa_nil))))
 (pss_cons (ps_setLc (i := 3) (own := [("name", 4), ("kept", 5)]) (g := (gSeq K 2 (gCons (gName 4) (gCons (gName 5) gNil)))) (by rfl) scWeb_with_ceiling.nd rfl rfl (sw_true rfl rfl rfl (by decide +kernel)) (pi_items (pe_fld (pv 0) rfl)) (blkOk_by (own := [("name", 4), ("kept", 5)]) (N := ["self", "lamp", "ceiling", "lamp_rows", "name", "kept"]) (sc := defScope sWeb_with_ceiling) (by decide +kernel)) (fun _ _ _ _ _ => (pg_seqU (K := K) rfl rfl (pgs_cons (pg_name (i := 4) scWeb_with_ceiling.nd rfl (.inl rfl)) (pgs_cons (pg_name (i := 5) scWeb_with_ceiling.nd rfl (.inl rfl)) pgs_nil)))) (fun _ _ _ _ _ => pts_nil) (fun _ _ _ _ _ => (pe_tup (pa_cons (pv 4) (pa_cons (pe_ifExp (pt_cmpR op_eq (pv 4) (pv 1) (nomark _)) (pv 2) (pv 5)) pa_nil)))))
 (pss_one (ps_ret (pe_makeHS HM_Web_2 (hr.mono (by omega)) (by rfl) (fun σ => passAt (takes_of rfl rfl rfl rfl) σ) (pa_cons (pv 3) (pa_cons (pe_propH HP_Web_bond_rows cl_Web (pv 0) (hr.mono (by omega)) pass0) pa_nil)))))))), ?_⟩
    walk_at "rdF"
    refine ⟨v, rfl, sv, fun ov => ?_, h1⟩
    walk_at "rdF"
    refine ⟨U, a, L, B, z, rfl, hw, fun hz => ?_, h2 ov⟩
    walk_at "rdF"
    refine ⟨a, C, dx, _, _, rfl, ha, S.cl, S.n1, wf_c, ?_⟩
    have lL : L.length ≤ 10 := hw.ok.rt.l10
    have ok' := setCeil_ok (z := z) hw.ok ov
    have lS : (setCeil L z v).length = L.length := by unfold setCeil; rw [List.length_map]
    refine ⟨c0, oc, _, rfl, hc, fun D nD => lc_items (fun i H' => Same H H' ∧ ∃ acc, H' D = some (.lst acc) ∧ RepL (fun q => H q = none ∧ q ≠ D) H' acc (((setCeil L z v).take i).map lampD)) ⟨same_new nD, [], by exact upd_same, by rw [List.take_zero]; exact .nil⟩ (fun i H' h => h.1 _ _ hc) ?_ ?_⟩
    · rintro i k' v' t H' hi nt ⟨sm, acc, hD, hacc⟩
      rw [List.getElem?_map] at hi
      cases qi : L[i]? with
      | none => rw [qi] at hi; cases hi
      | some r =>
        rw [qi] at hi
        cases hi
        have hr := List.mem_of_getElem? qi
        have qi' : (setCeil L z v)[i]? = some (r.1, if r.1 = z then v else r.2) := by unfold setCeil; rw [List.getElem?_map, qi]; rfl
        have nt' := same_new (o := .tup [kV (.inr r.1), r.2]) nt
        have sm' := sm.trans nt'
        have hD' := nt' _ _ hD
        have hacc' := hacc.same nt'
        refine ⟨t, [.str r.1, r.2], rfl, .inr upd_same, rfl, ?_⟩
        generalize upd H' t (.tup [kV (.inr r.1), r.2]) = H'' at *
        have fin : ∀ y, y = (if r.1 = z then v else r.2) → ∀ np, H'' np = none → ∃ acc, upd H'' np (.tup [.str r.1, y]) D = some (.lst acc) ∧ acc.length < sizeLine ∧ Same H (upd (upd H'' np (.tup [.str r.1, y])) D (.lst (acc ++ [.ref np]))) ∧ ∃ acc', upd (upd H'' np (.tup [.str r.1, y])) D (.lst (acc ++ [.ref np])) D = some (.lst acc') ∧ RepL (fun q => H q = none ∧ q ≠ D) (upd (upd H'' np (.tup [.str r.1, y])) D (.lst (acc ++ [.ref np]))) acc' (((setCeil L z v).take (i + 1)).map lampD) := fun y ey np n1 => by
          have sn := same_new (o := .tup [V.str r.1, y]) n1
          have ne : np ≠ D := fun c => by rw [c, hD'] at n1; cases n1
          refine ⟨acc, sn _ _ hD', sz (by rw [hacc.len, List.length_map, List.length_take]; omega), same_mut (sm'.trans sn) nD, _, upd_same, ?_⟩
          rw [take_succ qi', List.map_append]
          have hy : Sc y := by
            rw [ey]
            by_cases c : r.1 = z
            · rw [if_pos c]; exact sv
            · rw [if_neg c]; exact hw.ok.scL r hr
          have e1 : RepL (fun q => H q = none ∧ q ≠ D) (upd H'' np (.tup [.str r.1, y])) (acc ++ [.ref np]) ((((setCeil L z v).take i).map lampD) ++ [lampD (r.1, y)]) := (hacc'.same sn).snoc (.tup ⟨none_back sm' n1, ne⟩ upd_same (.cons (.str _) (.cons (.sc hy) .nil)))
          rw [← ey]
          exact e1.to fun p o u q => ⟨u, by rw [upd_ne u.2]; exact q⟩
        walk_at "rdF"
        refine ⟨by walk_at "wiped", ?_⟩
        walk_at "rdF"
        refine if_dec (fun hm => ?_) (fun hm => ?_)
        · walk_at "rdF"
          refine ⟨sz (by simp), fun np n1 => ?_⟩
          exact fin v (by rw [if_pos (V.str.inj hm)]) np n1
        · walk_at "rdF"
          refine ⟨sz (by simp), fun np n1 => ?_⟩
          exact fin r.2 (by rw [if_neg (fun c => hm (by rw [← c]))]) np n1
    · rintro H' ⟨sm, acc, hD, hacc⟩
      have ll : (L.map fun r => ((.inr r.1 : Key), r.2)).length = (setCeil L z v).length := by unfold setCeil; rw [List.length_map, List.length_map]
      rw [ll, List.take_length] at hacc
      walk_at "rdF"
      refine ⟨a, dx, _, rfl, sm _ _ ha, U, a, L, B, rfl, hw.same sm, fun p0 xs n0 hx => ?_⟩
      have s0 := same_new (o := .lst xs) n0
      have s01 := sm.trans s0
      have hl : Rep (fun _ => True) (upd H' p0 (.lst xs)) (.ref D) (.list ((setCeil L z v).map lampD)) := .lst trivial (s0 _ _ hD) ((hacc.same s0).less fun _ _ => trivial)
      have hv : Rep (fun _ => True) (upd H' p0 (.lst xs)) (.ref p0) (.list (B.map BR.d)) := .lst trivial upd_same ((hx.same s0).less fun _ _ => trivial)
      generalize upd H' p0 (.lst xs) = H1 at *
      walk_at "rdF"
      refine rd_web (.inl hl) (.inl hv) (rowsL ok'.rt.okL) (rowsB ok'.rt.okB) (by unfold setCeil; rw [List.length_map]; omega) (by have := hw.ok.rt.l16; omega) (fun R p H2 s2 np hw' => ?_) fun e he => (ok'.rt.notWrong he).elim
      rw [ok'.sortL, ok'.sortB] at hw'
      exact h3 ov hz p H2 (s01.trans s2) (none_back s01 np) (hw'.less fun q hq => none_back s01 hq)
theorem others_sub {B : List BR} {z : Str} : ∀ r ∈ othersD B z, r ∈ B := fun r hr => (List.mem_filter.mp hr).1
theorem Right.less {L : List (Str × V)} {B B' : List BR} (r : Right L B) (h : B'.Sublist B) : Right L B' := by
  have hm : ∀ q ∈ B', q ∈ B := fun q hq => h.subset hq
  refine ⟨⟨⟨⟨⟨⟨⟨⟨⟨fun y hy => r.nm y ?_⟩, fun u hu => r.num u ?_⟩, fun q hq => r.sp q (hm q hq)⟩, r.dl⟩, (h.map _).nodup r.db⟩, fun q hq => r.sf q (hm q hq)⟩, fun y hy => r.unk y ?_⟩, r.l1, r.l10⟩, Nat.le_trans h.length_le r.l16⟩
  · rcases List.mem_append.mp hy with q | q
    · exact List.mem_append.mpr (.inl q)
    · exact List.mem_append.mpr (.inr ((h.map _).subset q))
  · rcases List.mem_append.mp hu with q | q
    · exact List.mem_append.mpr (.inl q)
    · obtain ⟨p, hp, q⟩ := List.mem_flatMap.mp q
      exact List.mem_append.mpr (.inr (List.mem_flatMap.mpr ⟨p, hm p hp, q⟩))
  · obtain ⟨p, hp, q⟩ := List.mem_flatMap.mp hy
    exact List.mem_flatMap.mpr ⟨p, hm p hp, q⟩
theorem others_ok {L : List (Str × V)} {B : List BR} {z : Str} (h : WebOk L B) : WebOk L (othersD B z) :=
  ⟨h.rt.less List.filter_sublist, h.al, h.ab.sublist List.filter_sublist, fun r hr => h.kp r (others_sub r hr)⟩
def spWithout (C CS CU : Addr) : Sp := fun vs H Q E => ∃ (U : Addr → Prop) (a : Addr) (L : List (Str × V)) (B : List BR) (z : Str), vs = [.ref a, .str z] ∧ WebV U C CS H a L B ∧ (z ∉ bondNs B → ErrF E CU H [("name", .str z)]) ∧
  (z ∈ bondNs B → ∀ p H', Same H H' → H p = none → WebV (fun q => H q = none) C CS H' p L (othersD B z) → Q (.ref p) H')
theorem ok_web_without_bond {k j : Nat} {f : Addr} {fd : FuncData} {c : ECs} (F : Fun K "without_bond" "Web.without_bond" sWeb_without_bond f fd) (T : Blt mg) (S : SpW K C) (cl_Web : Cls K C) (Hlook_up : HasX P w K mg base "look_up" k ["table", "name"] (spLookUp CU)) (HT_Web_other_bond_rows : HasMt P w K mg base CX0 C "other_bond_rows" k ["self", "bond"] (spWOther C CS))
    (HP_Web_lamp_rows : HasPr P w K mg base CX0 C "lamp_rows" j ["self"] (spWLampRows C CS)) (HM_Web_2 : HasMk P w K mg base (L2.CX P w) C "Web" j ["self", "lamps", "bonds"] [] (spWebI K C CS c)) (hk : j + 1 ≤ k) : FnOk P w K mg base (L2.CX P w) (k + 1) f fd ["self", "bond"] (spWithout C CS CU) := by
  refine F.okX scWeb_without_bond (fun vs H Q E h => ?_) (fun cdv A outer s H vs Q E hr h => ?_)
  · obtain ⟨U, a, L, B, z, rfl, _⟩ := h; rfl
  · obtain ⟨U, a, L, B, z, rfl, hw, h2, h3⟩ := h
    obtain ⟨dx, c0, b, e, s, oc, oe, os, g, q, ua, ha, uc, hc, hb, ue, he, hg, us, hs, hq⟩ := hw.at_.ex
    have ok' := others_ok (z := z) hw.ok
    refine ⟨_, (pss_cons (ps_expr (pe_callX Hlook_up hr (by rfl) (takes_of rfl rfl rfl rfl) (pa_cons (pe_fld (pv 0) rfl) (pa_cons (pv 1) pa_nil))))
 (pss_one (ps_ret (pe_makeHS HM_Web_2 (hr.mono (by omega)) (by rfl) (fun σ => passAt (takes_of rfl rfl rfl rfl) σ) (pa_cons (pe_propH HP_Web_lamp_rows cl_Web (pv 0) (hr.mono (by omega)) pass0) (pa_cons (pe_mt HT_Web_other_bond_rows cl_Web (pv 0) hr pass0S (pa_cons (pv 1) pa_nil)) pa_nil)))))), ?_⟩
    walk_at "rdF"
    refine ⟨a, C, dx, _, _, rfl, ha, S.cl, S.n3, wf_e, ?_⟩
    walk_at "rdF"
    refine ⟨e, z, _, rfl, .inr ⟨_, he⟩, fun v hv => ?_, fun hn => h2 (bondN hw.ok hn)⟩
    obtain ⟨r, hr, e1, e2⟩ := bondV hw.ok hv
    have hz : z ∈ bondNs B := by rw [← e1]; exact List.mem_map_of_mem hr
    walk_at "rdF"
    refine ⟨a, dx, _, rfl, ha, U, a, L, B, rfl, hw, fun p0 xs H1 s1 n0 hp hx => ?_⟩
    have hl : Rep (fun _ => True) H1 (.ref p0) (.list (L.map lampD)) := .lst trivial hp (hx.less fun _ _ => trivial)
    walk_at "rdF"
    refine ⟨a, dx, _, rfl, s1 _ _ ha, by rfl, ?_⟩
    walk_at "rdF"
    refine ⟨U, a, L, B, z, rfl, hw.same s1, fun p2 H2 ys s2 n2 hp2 hy => ?_⟩
    have hb' : Rep (fun _ => True) H2 (.ref p2) (.list ((othersD B z).map BR.d)) := .lst trivial hp2 hy
    have s12 := s1.trans s2
    walk_at "rdF"
    refine rd_web (.inl (hl.same s2)) (.inl hb') (rowsL ok'.rt.okL) (rowsB ok'.rt.okB) (by have := hw.ok.rt.l10; omega) (by have := ok'.rt.l16; omega) (fun R p H3 s3 np hw' => ?_) fun e he => (ok'.rt.notWrong he).elim
    rw [ok'.sortL, ok'.sortB] at hw'
    exact h3 hz p H3 (s12.trans s3) (none_back s12 np) (hw'.less fun q hq => none_back s12 hq)
def spWithBond (C CS : Addr) (c : ECs) : Sp := fun vs H Q E => ∃ (U : Addr → Prop) (a : Addr) (L : List (Str × V)) (B : List BR) (r : BR), vs = [.ref a, .str r.n, .str r.x, .str r.y, r.l, r.h] ∧ WebV U C CS H a L B ∧ r.n.length ≤ 1000 ∧ Sc r.l ∧ Sc r.h ∧ (∀ e, Wrong L (B ++ [r]) e → Raises c E H e) ∧
  (Right L (B ++ [r]) → ∀ p H', Same H H' → H p = none → WebV (fun q => H q = none) C CS H' p L (sortB (B ++ [r])) → Q (.ref p) H')
theorem rep_row {U : Addr → Prop} {H : Hp} {p : Addr} {r : BR} (u : U p) (h : H p = some (.tup r.row)) (sl : Sc r.l) (sh : Sc r.h) : Rep U H (.ref p) r.d := .tup u h (.cons (.str _) (.cons (.str _) (.cons (.str _) (.cons (.sc sl) (.cons (.sc sh) .nil)))))
theorem ok_web_with_bond {k j : Nat} {f : Addr} {fd : FuncData} {c : ECs} (F : FunD K "with_bond" "Web.with_bond" (defArgs sWeb_with_bond) (defBody sWeb_with_bond) (defScope sWeb_with_bond) [] [("low", .non), ("high", .non)] f fd) (T : Blt mg) (S : SpW K C) (cl_Web : Cls K C)
    (HP_Web_lamp_rows : HasPr P w K mg base CX0 C "lamp_rows" j ["self"] (spWLampRows C CS)) (HP_Web_bond_rows : HasPr P w K mg base CX0 C "bond_rows" j ["self"] (spWBondRows C CS)) (HM_Web_2 : HasMk P w K mg base (L2.CX P w) C "Web" j ["self", "lamps", "bonds"] [] (spWebI K C CS c)) (hk : j + 1 ≤ k) : FnOk P w K mg base (L2.CX P w) (k + 1) f fd ["self", "name", "first", "second", "low", "high"] (spWithBond C CS c) := by
  refine F.ok scWeb_with_bond (fun vs H Q E h => ?_) (fun cdv A outer s H vs Q E hr h => ?_)
  · obtain ⟨U, a, L, B, r, rfl, _⟩ := h; rfl
  · obtain ⟨U, a, L, B, r, rfl, hw, nr, sl, sh, h2, h3⟩ := h
    obtain ⟨dx, c0, b, e, s, oc, oe, os, g, q, ua, ha, uc, hc, hb, ue, he, hg, us, hs, hq⟩ := hw.at_.ex
    refine ⟨_, (pss_one (ps_ret (pe_makeHS HM_Web_2 (hr.mono (by omega)) (by rfl) (fun σ => passAt (takes_of rfl rfl rfl rfl) σ) (pa_cons (pe_propH HP_Web_lamp_rows cl_Web (pv 0) (hr.mono (by omega)) pass0) (pa_cons (pe_op op_cat (pe_propH HP_Web_bond_rows cl_Web (pv 0) (hr.mono (by omega)) pass0) (pe_lst (pa_cons (pe_tup (pa_cons (pv 1) (pa_cons (pv 2) (pa_cons (pv 3) (pa_cons (pv 4) (pa_cons (pv 5) pa_nil)))))) pa_nil))) pa_nil))))), ?_⟩
    walk_at "rdF"
    refine ⟨a, dx, _, rfl, ha, U, a, L, B, rfl, hw, fun p0 xs H1 s1 n0 hp hx => ?_⟩
    have hl : Rep (fun _ => True) H1 (.ref p0) (.list (L.map lampD)) := .lst trivial hp (hx.less fun _ _ => trivial)
    walk_at "rdF"
    refine ⟨a, dx, _, rfl, s1 _ _ ha, U, a, L, B, rfl, hw.same s1, fun p2 ys n2 hy => ?_⟩
    have s2 := same_new (o := .lst ys) n2
    have hp2 := @upd_same H1 p2 (.lst ys)
    have hy := (hy.same s2).less (U' := fun _ => True) fun _ _ => trivial
    generalize upd H1 p2 (.lst ys) = H2 at *
    walk_at "rdF"
    refine ⟨sz (by simp), fun p3 n3 => ?_⟩
    have s3 := same_new (o := .tup [V.str r.n, V.str r.x, V.str r.y, r.l, r.h]) n3
    have hr3 : Rep (fun _ => True) (upd H2 p3 (.tup [V.str r.n, V.str r.x, V.str r.y, r.l, r.h])) (.ref p3) r.d := rep_row trivial upd_same sl sh
    generalize upd H2 p3 (.tup [V.str r.n, V.str r.x, V.str r.y, r.l, r.h]) = H3 at *
    refine ⟨sz (by simp), fun p4 n4 => ?_⟩
    have s4 := same_new (o := .lst [V.ref p3]) n4
    have hp4 := @upd_same H3 p4 (.lst [V.ref p3])
    generalize upd H3 p4 (.lst [V.ref p3]) = H4 at *
    have s24 := s3.trans s4
    have lB := hw.ok.rt.l16
    refine ⟨p2, p4, ys, [.ref p3], rfl, rfl, s24 _ _ hp2, hp4, sz (by rw [hy.len, List.length_map]; simp; omega), fun p5 n5 => ?_⟩
    have s5 := same_new (o := .lst (ys ++ [V.ref p3])) n5
    have s25 := s24.trans s5
    have hb5 : Rep (fun _ => True) (upd H4 p5 (.lst (ys ++ [V.ref p3]))) (.ref p5) (.list ((B ++ [r]).map BR.d)) := .lst trivial upd_same (by rw [List.map_append]; exact (hy.same s25).snoc (hr3.same (s4.trans s5)))
    generalize upd H4 p5 (.lst (ys ++ [V.ref p3])) = H5 at *
    have s15 := s2.trans s25
    have s05 := s1.trans s15
    walk_at "rdF"
    refine rd_web (.inl (hl.same s15)) (.inl hb5) (rowsL hw.ok.rt.okL) (rowsB fun q hq => ?_) (by have := hw.ok.rt.l10; omega) (by rw [List.length_append]; simp; omega) (fun R p H6 s6 np hw' => ?_) fun e he => (h2 e he).same s05
    · rcases List.mem_append.mp hq with hq | hq
      · exact hw.ok.rt.okB q hq
      · rw [List.mem_singleton.mp hq]; exact ⟨nr, sl, sh⟩
    · rw [hw.ok.sortL] at hw'
      exact h3 R p H6 (s05.trans s6) (none_back s05 np) (hw'.less fun q hq => none_back s05 hq)
def setSpan (B : List BR) (z : Str) (l h : V) : List BR := B.map fun r => if r.n = z then ⟨r.n, r.x, r.y, l, h⟩ else r
theorem setSpan_perm {l h : V} : ∀ {B : List BR}, (bondNs B).Nodup → ∀ r ∈ B, (othersD B r.n ++ [(⟨r.n, r.x, r.y, l, h⟩ : BR)]).Perm (setSpan B r.n l h)
  | [], _, r, hr => by cases hr
  | b :: B, nd, r, hr => by
    obtain ⟨n1, n2⟩ := List.nodup_cons.mp (show (b.n :: bondNs B).Nodup from nd)
    by_cases c : b.n = r.n
    · have eb : b = r := by
        rcases List.mem_cons.mp hr with e | e
        · exact e.symm
        · exact absurd (by rw [c]; exact List.mem_map_of_mem e) n1
      subst eb
      have e1 : othersD (b :: B) b.n = B := by
        unfold othersD
        rw [List.filter_cons_of_neg (by simp)]
        exact List.filter_eq_self.mpr fun q hq => by
          simp only [decide_eq_true_eq]
          exact fun e => n1 (by rw [← e]; exact List.mem_map_of_mem hq)
      have e2 : setSpan (b :: B) b.n l h = ⟨b.n, b.x, b.y, l, h⟩ :: B := by
        unfold setSpan
        rw [List.map_cons, if_pos rfl]
        congr 1
        conv => rhs; rw [← List.map_id B]
        exact List.map_congr_left fun q hq => by
          rw [if_neg fun e => n1 (by rw [← e]; exact List.mem_map_of_mem hq)]; rfl
      rw [e1, e2]
      exact List.perm_append_singleton _ _
    · have hr' : r ∈ B := by
        rcases List.mem_cons.mp hr with e | e
        · exact absurd (by rw [e]) c
        · exact e
      have ih := setSpan_perm (l := l) (h := h) n2 r hr'
      have e1 : othersD (b :: B) r.n = b :: othersD B r.n := by
        unfold othersD
        rw [List.filter_cons_of_pos (by simpa using c)]
      have e2 : setSpan (b :: B) r.n l h = b :: setSpan B r.n l h := by
        unfold setSpan
        rw [List.map_cons, if_neg c]
      rw [e1, e2]
      exact ih.cons b
theorem setSpan_ok {L : List (Str × V)} {B : List BR} {z : Str} {l h : V} (ok : WebOk L B) (ol : isOpen l = true) (oh : isOpen h = true) (cr : crossed l h = false) : WebOk L (setSpan B z l h) := by
  have r := ok.rt
  have nm : (fun r : BR => (if r.n = z then (⟨r.n, r.x, r.y, l, h⟩ : BR) else r).n) = BR.n := by
    funext r
    by_cases c : r.n = z <;> simp [c]
  have ns : bondNs (setSpan B z l h) = bondNs B := by
    unfold setSpan bondNs
    rw [List.map_map]
    exact congrArg (fun f => B.map f) nm
  have mem : ∀ q ∈ setSpan B z l h, ∃ r ∈ B, q = r ∨ q = ⟨r.n, r.x, r.y, l, h⟩ := fun q hq => by
    obtain ⟨r, hr, rfl⟩ := List.mem_map.mp hq
    by_cases c : r.n = z
    · exact ⟨r, hr, .inr (by rw [if_pos c])⟩
    · exact ⟨r, hr, .inl (by rw [if_neg c])⟩
  refine ⟨⟨⟨⟨⟨⟨⟨⟨⟨⟨by rw [ns]; exact r.nm⟩, fun u hu => ?_⟩, fun q hq => ?_⟩, r.dl⟩, by rw [ns]; exact r.db⟩, fun q hq => ?_⟩, fun y hy => ?_⟩, r.l1, r.l10⟩, by unfold setSpan; rw [List.length_map]; exact r.l16⟩, ok.al, ?_, fun q hq => ?_⟩
  · rcases List.mem_append.mp hu with q | q
    · exact r.num _ (List.mem_append.mpr (.inl q))
    · obtain ⟨q, hq, hu⟩ := List.mem_flatMap.mp q
      obtain ⟨p, hp, rfl | rfl⟩ := mem q hq
      · exact r.num _ (List.mem_append.mpr (.inr (List.mem_flatMap.mpr ⟨q, hp, hu⟩)))
      · simp at hu
        rcases hu with rfl | rfl
        · exact ol
        · exact oh
  · obtain ⟨p, hp, rfl | rfl⟩ := mem q hq
    · exact r.sp _ hp
    · exact cr
  · obtain ⟨p, hp, rfl | rfl⟩ := mem q hq
    · exact r.sf _ hp
    · exact r.sf p hp
  · obtain ⟨q, hq, hy⟩ := List.mem_flatMap.mp hy
    obtain ⟨p, hp, rfl | rfl⟩ := mem q hq
    · exact r.unk y (List.mem_flatMap.mpr ⟨q, hp, hy⟩)
    · exact r.unk y (List.mem_flatMap.mpr ⟨p, hp, hy⟩)
  · refine List.pairwise_map.mpr (ok.ab.imp fun {x y} q => ?_)
    have ex : (if x.n = z then (⟨x.n, x.x, x.y, l, h⟩ : BR) else x).n = x.n := congrFun nm x
    have ey : (if y.n = z then (⟨y.n, y.x, y.y, l, h⟩ : BR) else y).n = y.n := congrFun nm y
    rw [ex, ey]; exact q
  · obtain ⟨p, hp, rfl | rfl⟩ := mem q hq
    · exact ok.kp _ hp
    · have := ok.kp p hp
      unfold keptBR at this ⊢
      have e1 := congrArg BR.x this
      have e2 := congrArg BR.y this
      simp only at e1 e2 ⊢
      rw [e1, e2]
theorem sort_setSpan {L : List (Str × V)} {B : List BR} {l h : V} (ok : WebOk L B) (ol : isOpen l = true) (oh : isOpen h = true) (cr : crossed l h = false) {r : BR} (hr : r ∈ B) : sortB (othersD B r.n ++ [(⟨r.n, r.x, r.y, l, h⟩ : BR)]) = setSpan B r.n l h ∧ Right L (othersD B r.n ++ [(⟨r.n, r.x, r.y, l, h⟩ : BR)]) := by
  have ok' := setSpan_ok (z := r.n) ok ol oh cr
  have pm := setSpan_perm (l := l) (h := h) ok.rt.db r hr
  refine ⟨?_, ok'.rt.perm (List.Perm.refl _) pm⟩
  rw [← ok'.sortB]
  refine srt_of_perm (pm.map _) ?_
  rw [List.map_map]; exact ok'.rt.db
def spWithSpan (C CS CE CB CU : Addr) : Sp := fun vs H Q E => ∃ (U : Addr → Prop) (a : Addr) (L : List (Str × V)) (B : List BR) (z : Str) (l h : V), vs = [.ref a, .str z, l, h] ∧ WebV U C CS H a L B ∧ Sc l ∧ Sc h ∧ (isOpen l = false → Err E CE H l) ∧ (isOpen l = true → isOpen h = false → Err E CE H h) ∧ (isOpen l = true → isOpen h = true → crossed l h = true → ErrB E CB H l h) ∧
  (isOpen l = true → isOpen h = true → crossed l h = false → z ∉ bondNs B → ErrF E CU H [("name", .str z)]) ∧
  (isOpen l = true → isOpen h = true → crossed l h = false → z ∈ bondNs B → ∀ p H', Same H H' → H p = none → WebV (fun q => H q = none) C CS H' p L (setSpan B z l h) → Q (.ref p) H')
theorem ok_web_with_span {k j : Nat} {f : Addr} {fd : FuncData} {c : ECs} (F : Fun K "with_span" "Web.with_span" sWeb_with_span f fd) (T : Blt mg) (S : SpW K C) (SS : SpC K CS) (cl_Web : Cls K C) (HM_Span_2 : HasMk P w K mg base (L2.CX P w) CS "Span" j ["self", "low", "high"] [] (spSpanI CS CE CB)) (HT_Web_ends : HasMt P w K mg base (L2.CX P w) C "ends" k ["self", "bond"] (spWEnds C CS CU)) (HT_Web_other_bond_rows : HasMt P w K mg base CX0 C "other_bond_rows" k ["self", "bond"] (spWOther C CS))
    (HP_Web_lamp_rows : HasPr P w K mg base CX0 C "lamp_rows" j ["self"] (spWLampRows C CS)) (HM_Web_2 : HasMk P w K mg base (L2.CX P w) C "Web" j ["self", "lamps", "bonds"] [] (spWebI K C CS c)) (hk : j + 1 ≤ k) : FnOk P w K mg base (L2.CX P w) (k + 1) f fd ["self", "bond", "low", "high"] (spWithSpan C CS CE CB CU) := by
  refine F.okX scWeb_with_span (fun vs H Q E h => ?_) (fun cdv A outer s H vs Q E hr h => ?_)
  · obtain ⟨U, a, L, B, z, l, h, rfl, _⟩ := h; rfl
  · obtain ⟨U, a, L, B, z, l, hh, rfl, hw, sl, sh, h1, h2, h3, h4, h5⟩ := h
    obtain ⟨dx, c0, b, e, s, oc, oe, os, g, q, ua, ha, uc, hc, hb, ue, he, hg, us, hs, hq⟩ := hw.at_.ex
    refine ⟨_, (pss_cons (ps_set (i := 4) scWeb_with_span.nd rfl (.inl rfl) (pe_makeHS HM_Span_2 (hr.mono (by omega)) (by rfl) (fun σ => passAt (takes_of rfl rfl rfl rfl) σ) (pa_cons (pv 2) (pa_cons (pv 3) pa_nil))))
 (pss_cons (ps_asg (pe_mt HT_Web_ends cl_Web (pv 0) hr (fun σ => passAt (takes_of rfl rfl rfl rfl) σ) (pa_cons (pv 1) pa_nil)) (pg_seqU (K := K) rfl rfl (pgs_cons (pg_name (i := 5) scWeb_with_span.nd rfl (.inl rfl)) (pgs_cons (pg_name (i := 6) scWeb_with_span.nd rfl (.inl rfl)) pgs_nil))))
 (pss_cons (ps_set (i := 7) scWeb_with_span.nd rfl (.inl rfl) (pe_op op_cat (pe_mt HT_Web_other_bond_rows cl_Web (pv 0) hr pass0S (pa_cons (pv 1) pa_nil)) (pe_lst (pa_cons (pe_tup (pa_cons (pv 1) (pa_cons (pv 5) (pa_cons (pv 6) (pa_cons (pe_fld (pv 4) rfl) (pa_cons (pe_fld (pv 4) rfl) pa_nil)))))) pa_nil))))
 (pss_one (ps_ret (pe_makeHS HM_Web_2 (hr.mono (by omega)) (by rfl) (fun σ => passAt (takes_of rfl rfl rfl rfl) σ) (pa_cons (pe_propH HP_Web_lamp_rows cl_Web (pv 0) (hr.mono (by omega)) pass0) (pa_cons (pv 7) pa_nil)))))))), ?_⟩
    walk_at "rdF"
    intro up dp nup ndp ndu
    have sN : Same H (upd (upd H dp (.own up)) up (.ins CS dp [])) := same_mut (same_new ndp) nup
    refine ⟨up, dp, _, _, rfl, upd_same, sl, sh, fun ol oh cr => ⟨rfl, ?_⟩, fun o => ?_, fun o o' => ?_, fun o o' o2 => ?_⟩
    · rw [upd_upd]
      have s1 : Same H (upd (upd H dp (.own up)) up (.ins CS dp (spn l hh))) := same_mut (same_new ndp) nup
      have hUp : (upd (upd H dp (.own up)) up (.ins CS dp (spn l hh))) up = some (.ins CS dp (spn l hh)) := upd_same
      generalize (upd (upd H dp (.own up)) up (.ins CS dp (spn l hh))) = H1 at *
      walk_at "rdF"
      refine ⟨a, dx, _, rfl, s1 _ _ ha, by rfl, ?_⟩
      walk_at "rdF"
      refine ⟨U, a, L, B, z, rfl, hw.same s1, fun r hr e1 v hv => ?_, fun hn => ErrF.same (fs := [("name", .str z)]) (h4 ol oh cr hn) s1⟩
      refine rd_gSeq hv rfl rfl fun xs rx => ?_
      obtain ⟨u, v, rfl, ru, rv⟩ := rep2 rx
      cases ru.strI
      cases rv.strI
      walk_at "rdF"
      refine ⟨a, dx, _, rfl, s1 _ _ ha, by rfl, ?_⟩
      walk_at "rdF"
      refine ⟨U, a, L, B, z, rfl, hw.same s1, fun p2 H2 ys s2 n2 hp2 hy => ?_⟩
      have hz : z ∈ bondNs B := by rw [← e1]; exact List.mem_map_of_mem hr
      have s02 := s1.trans s2
      obtain ⟨es, R'⟩ := sort_setSpan hw.ok ol oh cr hr
      rw [e1] at es R'
      walk_at "rdF"
      refine ⟨up, CS, dp, _, _, rfl, s2 _ _ hUp, SS.cl, SS.nl, spn_low, ?_⟩
      walk_at "rdF"
      refine ⟨up, CS, dp, _, _, rfl, s2 _ _ hUp, SS.cl, SS.nh, spn_high, ?_⟩
      walk_at "rdF"
      refine ⟨sz (by simp), fun p3 n3 => ?_⟩
      have s3 := same_new (o := .tup [V.str z, V.str r.x, V.str r.y, l, hh]) n3
      have hr3 : Rep (fun _ => True) (upd H2 p3 (.tup [V.str z, V.str r.x, V.str r.y, l, hh])) (.ref p3) (BR.d ⟨z, r.x, r.y, l, hh⟩) := rep_row (r := ⟨z, r.x, r.y, l, hh⟩) trivial upd_same sl sh
      generalize upd H2 p3 (.tup [V.str z, V.str r.x, V.str r.y, l, hh]) = H3 at *
      refine ⟨sz (by simp), fun p4 n4 => ?_⟩
      have s4 := same_new (o := .lst [V.ref p3]) n4
      have hp4 := @upd_same H3 p4 (.lst [V.ref p3])
      generalize upd H3 p4 (.lst [V.ref p3]) = H4 at *
      have s24 := s3.trans s4
      have lB := hw.ok.rt.l16
      have lo : (othersD B z).length ≤ B.length := List.length_filter_le _ _
      refine ⟨p2, p4, ys, [.ref p3], rfl, rfl, s24 _ _ hp2, hp4, sz (by rw [hy.len, List.length_map]; simp; omega), fun p5 n5 => ?_⟩
      have s5 := same_new (o := .lst (ys ++ [V.ref p3])) n5
      have s25 := s24.trans s5
      have hb5 : Rep (fun _ => True) (upd H4 p5 (.lst (ys ++ [V.ref p3]))) (.ref p5) (.list ((othersD B z ++ [(⟨z, r.x, r.y, l, hh⟩ : BR)]).map BR.d)) := .lst trivial upd_same (by rw [List.map_append]; exact (hy.same s25).snoc (hr3.same (s4.trans s5)))
      generalize upd H4 p5 (.lst (ys ++ [V.ref p3])) = H5 at *
      have s05 := s02.trans s25
      walk_at "rdF"
      refine ⟨a, dx, _, rfl, s05 _ _ ha, U, a, L, B, rfl, hw.same s05, fun p0 xs H6 s6 n0 hp hx => ?_⟩
      have hl : Rep (fun _ => True) H6 (.ref p0) (.list (L.map lampD)) := .lst trivial hp (hx.less fun _ _ => trivial)
      have s06 := s05.trans s6
      walk_at "rdF"
      refine rd_web (.inl hl) (.inl (hb5.same s6)) (rowsL hw.ok.rt.okL) (rowsB R'.okB) (by have := hw.ok.rt.l10; omega) (by have := R'.l16; omega) (fun R p H7 s7 np hw' => ?_) fun e he => (R'.notWrong he).elim
      rw [hw.ok.sortL, es] at hw'
      exact h5 ol oh cr hz p H7 (s06.trans s7) (none_back s06 np) (hw'.less fun q hq => none_back s06 hq)
    · exact ErrF.same (fs := [("number", l)]) (h1 o) sN
    · exact ErrF.same (fs := [("number", hh)]) (h2 o o') sN
    · exact ErrF.same (fs := [("high", hh), ("low", l)]) (h3 o o' o2) sN
end
set_option maxHeartbeats 1000000
abbrev sWeb___iter__ : Stmt := inClass (topS 41) 17
theorem scWeb___iter__ : FnScope ["self"] ["self"] (defScope sWeb___iter__) := ⟨rfl, rfl, rfl, by decide +kernel, rfl, by decide +kernel, by decide +kernel⟩
abbrev sWeb___eq__ : Stmt := inClass (topS 41) 18
theorem scWeb___eq__ : FnScope ["self", "other"] ["self", "other"] (defScope sWeb___eq__) := ⟨rfl, rfl, rfl, by decide +kernel, rfl, by decide +kernel, by decide +kernel⟩
theorem pe_globC {X : Cx} {x : Str} {C : Addr} {pos : Pos} (hg : Gl X x) (hm : X.mg x = some (.ref C)) (hd : (x == ("__debug__" : Str)) = false := by decide) : PE X (.Name x pos) (tC (.ref C)) := pe_glob hg hm rfl hd
instance : DecidableEq BR := fun a b =>
  match a, b with
  | ⟨n, x, y, l, h⟩, ⟨n', x', y', l', h'⟩ =>
    if e : n = n' ∧ x = x' ∧ y = y' ∧ l = l' ∧ h = h' then isTrue (by obtain ⟨rfl, rfl, rfl, rfl, rfl⟩ := e; rfl)
    else isFalse fun c => e (by cases c; exact ⟨rfl, rfl, rfl, rfl, rfl⟩)
section
variable {P : Program} {w : World} {K : PySem.W.Frag} {mg : Str → Option Value} {base : Heap} {C CS CE CB CU : Addr}
theorem ok_web_iter {k : Nat} {f : Addr} {fd : FuncData} (F : Fun K "__iter__" "Web.__iter__" sWeb___iter__ f fd) (T : Blt mg) (S : SpW K C) : FnS P w K mg base CX0 (k + 1) f fd ["self"] (spIterF C "_ceilings") := by
  refine fn_ofS F scWeb___iter__ (fun n vs H Q E h => ?_) (fun cdv A outer s H vs Q E hr h => ?_)
  · obtain ⟨a, dx, d, fs, o, kvs, rfl, _⟩ := h; rfl
  · obtain ⟨a, dx, d, fs, o, kvs, rfl, ha, hf, hd, h⟩ := h
    refine ⟨_, (pss_one (ps_ret (pe_callB call_iterD (by rfl) T.iter (by decide +kernel) (pa_cons (pe_fld (pv 0) rfl) pa_nil)))), ?_⟩
    walk_at "rdF"
    refine ⟨a, C, dx, _, _, rfl, ha, S.cl, S.n1, hf, ?_⟩
    walk_at "rdF"
    exact ⟨d, o, kvs, rfl, hd, fun it n l => h it n l⟩
structure SpI (K : PySem.W.Frag) (C : Addr) : Prop where
  cl : Cls K C
  ha : PySem.W.findIn K (.ref C) "__class__" = some (some (.builtin "object.__class__"))
  hn : PySem.W.specialIn K (.builtin "object.__class__") "__get__" = some (some (.builtin "getset_descriptor.__get__"))
  ht : PySem.W.takesIn K (.builtin "object.__class__") = some true
  hm : PySem.W.mroIn K C (.type "object") = some true
  self : PySem.W.kitOne K (.ref C) (.ref C) = some true
  int : PySem.W.kitOne K (.type "int") (.ref C) = some false
  str : PySem.W.kitOne K (.type "str") (.ref C) = some false
  tup : PySem.W.kitOne K (.type "tuple") (.ref C) = some false
  non : PySem.W.kitOne K (.type "NoneType") (.ref C) = some false
theorem rd_isiC {H : Hp} {Q : VK} {x : V} {t : Value} {b : Bool} (ty : TyOf K H x t) (e : PySem.W.kitOne K t (.ref C) = some b) (q : Q (.bl b) H) : rIsi K [x, .ref C] H Q := ⟨x, .ref C, t, .ref C, b, rfl, .own C, .base ty, e, q⟩
theorem eq_ceils {L L2 : List (Str × V)} {B B2 : List BR} (h : WebOk L B) (h2 : WebOk L2 B2) :
    (decide ((L.map fun r => ((.inr r.1 : Key), r.2)).length = (L2.map fun r => ((.inr r.1 : Key), r.2)).length) && eqFl (L2.map fun r => ((.inr r.1 : Key), r.2)) (L.map fun r => ((.inr r.1 : Key), r.2))) = decide (L = L2) := by
  rw [List.length_map, List.length_map]
  by_cases e : L = L2
  · subst e
    rw [decide_eq_true rfl, decide_eq_true rfl, Bool.true_and]
    unfold eqFl
    rw [List.all_eq_true]
    intro p hp
    obtain ⟨r, hr, rfl⟩ := List.mem_map.mp hp
    exact decide_eq_true (valV_at (n := fun r : Str × V => r.1) (g := fun r => r.2) h.rt.dl r hr)
  · rw [decide_eq_false e, Bool.and_eq_false_iff]
    by_cases l : L.length = L2.length
    · refine .inr ?_
      cases q : eqFl (L2.map fun r => ((.inr r.1 : Key), r.2)) (L.map fun r => ((.inr r.1 : Key), r.2)) with
      | false => rfl
      | true =>
        unfold eqFl at q
        rw [List.all_eq_true] at q
        have sub : ∀ r ∈ L, r ∈ L2 := fun r hr => by
          obtain ⟨r', hr', e1, e2⟩ := lampV h2 (of_decide_eq_true (q _ (List.mem_map_of_mem hr)))
          have : r' = r := Prod.ext e1 e2
          rw [← this]; exact hr'
        have nd : L.Nodup := List.Pairwise.of_map (fun r : Str × V => r.1) (fun a b hab e => hab (by rw [e])) h.rt.dl
        exact absurd (asc_uniq (perm_of_sub nd l sub) h.al h2.al h.rt.dl) e
    · exact .inl (decide_eq_false l)
theorem BR.d_inj {r q : BR} (hr : NI r.l ∧ NI r.h) (hq : NI q.l ∧ NI q.h) (e : r.d = q.d) : r = q := by
  obtain ⟨n, x, y, l, h⟩ := r
  obtain ⟨n', x', y', l', h'⟩ := q
  unfold BR.d at e
  simp only [PyData.tuple.injEq, List.cons.injEq, PyData.str.injEq, and_true] at e
  obtain ⟨e1, e2, e3, e4, e5⟩ := e
  have f1 := vD_inj hr.1.sc hq.1.sc e4
  have f2 := vD_inj hr.2.sc hq.2.sc e5
  simp only at f1 f2
  rw [e1, e2, e3, f1, f2]
theorem map_d_inj : ∀ {B B2 : List BR}, (∀ r ∈ B, NI r.l ∧ NI r.h) → (∀ r ∈ B2, NI r.l ∧ NI r.h) → B.map BR.d = B2.map BR.d → B = B2
  | [], [], _, _, _ => rfl
  | [], _ :: _, _, _, e => by cases e
  | _ :: _, [], _, _, e => by cases e
  | r :: B, q :: B2, h, h2, e => by
    rw [List.map_cons, List.map_cons, List.cons.injEq] at e
    rw [BR.d_inj (h r List.mem_cons_self) (h2 q List.mem_cons_self) e.1, map_d_inj (fun p hp => h p (List.mem_cons_of_mem _ hp)) (fun p hp => h2 p (List.mem_cons_of_mem _ hp)) e.2]
theorem nb_d {r : BR} (h : NI r.l ∧ NI r.h) : nb r.d = true := nb_tuple fun e he => by
  simp at he
  rcases he with rfl | rfl | rfl | rfl | rfl <;> first | rfl | exact nb_ni h.1 | exact nb_ni h.2
theorem nb_lampD {r : Str × V} (h : NI r.2) : nb (lampD r) = true := nb_tuple fun e he => by
  simp at he
  rcases he with rfl | rfl <;> first | rfl | exact nb_ni h
theorem lampD_inj {r q : Str × V} (hr : NI r.2) (hq : NI q.2) (e : lampD r = lampD q) : r = q := by
  obtain ⟨n, x⟩ := r
  obtain ⟨n', x'⟩ := q
  unfold lampD at e
  simp only [PyData.tuple.injEq, List.cons.injEq, PyData.str.injEq, and_true] at e
  have f1 := vD_inj hr.sc hq.sc e.2
  simp only at f1
  rw [e.1, f1]
theorem map_l_inj : ∀ {L L2 : List (Str × V)}, (∀ r ∈ L, NI r.2) → (∀ r ∈ L2, NI r.2) → L.map lampD = L2.map lampD → L = L2
  | [], [], _, _, _ => rfl
  | [], _ :: _, _, _, e => by cases e
  | _ :: _, [], _, _, e => by cases e
  | r :: B, q :: B2, h, h2, e => by
    rw [List.map_cons, List.map_cons, List.cons.injEq] at e
    rw [lampD_inj (h r List.mem_cons_self) (h2 q List.mem_cons_self) e.1, map_l_inj (fun p hp => h p (List.mem_cons_of_mem _ hp)) (fun p hp => h2 p (List.mem_cons_of_mem _ hp)) e.2]
theorem WebOk.niL {L : List (Str × V)} {B : List BR} (h : WebOk L B) : ∀ r ∈ L, NI r.2 := fun r hr => isOpen_NI (h.rt.num _ (List.mem_append.mpr (.inl (List.mem_map_of_mem hr))))
theorem WebOk.nmB {L : List (Str × V)} {B : List BR} (h : WebOk L B) : ∀ r ∈ B, isNm r.n = true ∧ isNm r.x = true ∧ isNm r.y = true := fun r hr => by
  have hx : ∀ z ∈ endsOf B, isNm z = true := fun z hz => h.rt.nm _ (List.mem_append.mpr (.inl (h.rt.unk z hz)))
  exact ⟨h.rt.nm _ (List.mem_append.mpr (.inr (List.mem_map_of_mem hr))), hx _ (List.mem_flatMap.mpr ⟨r, hr, by simp⟩), hx _ (List.mem_flatMap.mpr ⟨r, hr, by simp⟩)⟩
theorem shp_d {L : List (Str × V)} {B : List BR} (h : WebOk L B) : ∀ r ∈ B, Shp 1 r.d := fun r hr => by
  obtain ⟨a, b, c⟩ := h.nmB r hr
  obtain ⟨n1, n2⟩ := h.niB r hr
  refine .tuple fun e he => ?_
  simp at he
  rcases he with rfl | rfl | rfl | rfl | rfl
  · exact .str (.nm a)
  · exact .str (.nm b)
  · exact .str (.nm c)
  · exact .ni n1
  · exact .ni n2
theorem eq_rows {L L2 : List (Str × V)} {B B2 : List BR} (h : WebOk L B) (h2 : WebOk L2 B2) : PyData.eqv (.tuple (B.map BR.d)) (.tuple (B2.map BR.d)) = decide (B = B2) := by
  have n1 : nb (.tuple (B.map BR.d)) = true := nb_tuple fun e he => by
    obtain ⟨r, hr, rfl⟩ := List.mem_map.mp he
    exact nb_d (h.niB r hr)
  have n2 : nb (.tuple (B2.map BR.d)) = true := nb_tuple fun e he => by
    obtain ⟨r, hr, rfl⟩ := List.mem_map.mp he
    exact nb_d (h2.niB r hr)
  have hi := eqv_iff _ _ n1 n2
  by_cases e : B = B2
  · subst e
    rw [hi.mpr rfl, decide_eq_true rfl]
  · rw [decide_eq_false e]
    cases q : PyData.eqv (.tuple (B.map BR.d)) (.tuple (B2.map BR.d)) with
    | false => rfl
    | true => exact absurd (map_d_inj h.niB h2.niB (PyData.tuple.inj (hi.mp q))) e
def spWEq (C CS : Addr) : Sp := fun vs H Q _ => ∃ (U : Addr → Prop) (a : Addr) (L : List (Str × V)) (B : List BR) (y : V), vs = [.ref a, y] ∧ WebV U C CS H a L B ∧
  ((∃ (U2 : Addr → Prop) (b : Addr) (L2 : List (Str × V)) (B2 : List BR), y = .ref b ∧ WebV U2 C CS H b L2 B2 ∧ Q (.bl (decide (L = L2) && decide (B = B2))) H) ∨ (((∃ z, y = .str z) ∨ ∃ b xs, y = .ref b ∧ H b = some (.tup xs)) ∧ Q (.bl false) H))
theorem ok_web_eq {k : Nat} {f : Addr} {fd : FuncData} (F : Fun K "__eq__" "Web.__eq__" sWeb___eq__ f fd) (T : Blt mg) (S : SpW K C) (SI : SpI K C) (gW : mg "Web" = some (.ref C)) : FnOk P w K mg base CX0 (k + 1) f fd ["self", "other"] (spWEq C CS) := by
  refine F.ok scWeb___eq__ (fun vs H Q E h => ?_) (fun cdv A outer s H vs Q E hr h => ?_)
  · obtain ⟨U, a, L, B, y, rfl, _⟩ := h; rfl
  · obtain ⟨U, a, L, B, y, rfl, hw, h⟩ := h
    refine ⟨_, (pss_one (ps_ret (pe_and (pe_callB (call_isiR (K := K) rfl) (by rfl) T.isinstance (by decide +kernel) (pa_cons (pv 1) (pa_cons (pe_globC rfl gW) pa_nil))) (pe_and (pe_cmpR (op_eqDS (Nat.lt_of_succ_lt (hu_of' hr))) (pe_fld (pv 0) rfl) (pe_fld (pv 1) rfl) (by rfl)) (pe_one (pe_cmpR (op_eqD hr.units) (pe_fld (pv 0) rfl) (pe_fld (pv 1) rfl) (by rfl))))))), ?_⟩
    obtain ⟨dx, c, b, e, s, oc, oe, os, g, q, ua, ha, uc, hc, hb, ue, he, hg, us, hs, hq⟩ := hw.at_.ex
    rcases h with ⟨U2, a2, L2, B2, rfl, hw2, h⟩ | ⟨hy, h⟩
    · obtain ⟨dx2, c2, b2, e2, s2, oc2, oe2, os2, g2, q2, ua2, ha2, uc2, hc2, hb2, ue2, he2, hg2, us2, hs2, hq2⟩ := hw2.at_.ex
      walk_at "rdF"
      refine rd_isiC (.ins ha2 SI.cl SI.ha SI.hn SI.ht SI.hm) SI.self ?_
      walk_at "rdF"
      refine ⟨a, C, dx, _, _, rfl, ha, S.cl, S.n1, wf_c, ?_⟩
      walk_at "rdF"
      refine ⟨a2, C, dx2, _, _, rfl, ha2, S.cl, S.n1, wf_c, ?_⟩
      refine ⟨c, c2, _, _, rfl, rfl, .inr ⟨_, hc⟩, .inr ⟨_, hc2⟩, fun p hp => ?_, fun p hp => ?_, ?_⟩
      · obtain ⟨r, hr, rfl⟩ := List.mem_map.mp hp
        exact hw.ok.niL r hr
      · obtain ⟨r, hr, rfl⟩ := List.mem_map.mp hp
        exact hw2.ok.niL r hr
      · rw [eq_ceils hw.ok hw2.ok]
        by_cases e : L = L2
        · rw [decide_eq_true e] at h ⊢
          walk_at "rdF"
          refine ⟨a, C, dx, _, _, rfl, ha, S.cl, S.n2, wf_b, ?_⟩
          walk_at "rdF"
          refine ⟨a2, C, dx2, _, _, rfl, ha2, S.cl, S.n2, wf_b, ?_⟩
          refine ⟨_, _, hb.dp, hb2.dp, (Shp.tuple (n := 1) fun e he => ?_).shaped (by omega), (Shp.tuple (n := 1) fun e he => ?_).shaped (by omega), ?_⟩
          · obtain ⟨r, hr, rfl⟩ := List.mem_map.mp he
            exact shp_d hw.ok r hr
          · obtain ⟨r, hr, rfl⟩ := List.mem_map.mp he
            exact shp_d hw2.ok r hr
          · rw [eq_rows hw.ok hw2.ok]
            walk_at "rdF"
            simpa using h
        · rw [decide_eq_false e] at h ⊢
          walk_at "rdF"
          simpa using h
    · walk_at "rdF"
      rcases hy with ⟨z, rfl⟩ | ⟨b, xs, rfl, hb⟩
      · refine rd_isiC (.str z) SI.str ?_
        walk_at "rdF"
        exact h
      · refine rd_isiC (.tup hb) SI.tup ?_
        walk_at "rdF"
        exact h
end
set_option maxHeartbeats 1000000
abbrev s_law_alike : Stmt := topS 61
theorem sc_law_alike : FnScope ["left", "right", "k"] ["left", "right"] (defScope s_law_alike) := ⟨rfl, rfl, rfl, by decide +kernel, rfl, by decide +kernel, by decide +kernel⟩
abbrev R (H : Hp) (v : V) (d : PyData) : Prop := Rep (fun _ => True) H v d
abbrev RL (H : Hp) (vs : List V) (ds : List PyData) : Prop := RepL (fun _ => True) H vs ds
def Okd : Nat → PyData → Prop
  | _, .none => True
  | _, .bool _ => True
  | _, .int _ => True
  | _, .str _ => True
  | n + 1, .list xs => xs.length ≤ 100000 ∧ ∀ e ∈ xs, Okd n e
  | n + 1, .tuple xs => xs.length ≤ 100000 ∧ ∀ e ∈ xs, Okd n e
  | _, _ => False
section
variable {P : Program} {w : World} {K : PySem.W.Frag} {mg : Str → Option Value} {base : Heap} {C CS CE CB CU : Addr}
def spAlike (n : Nat) : Sp := fun vs H Q _ => ∃ (x y : V) (d : PyData), vs = [x, y] ∧ R H x d ∧ R H y d ∧ Okd n d ∧ ∀ H', Same H H' → Q (.bl true) H'
theorem ka_no {K : PySem.W.Frag} {a : String} (h1 : kitB a "list" = some false) (h2 : kitB a "tuple" = some false) : PySem.W.kitAny K (.type a) [.type "list", .type "tuple"] = some false :=
  kitAny_cons (kit_ty h1) (fun _ => kitAny_cons (kit_ty h2) (fun _ => rfl) (fun h => by cases h)) (fun h => by cases h)
theorem dec_refl {α : Type} {a : α} [d : Decidable (a = a)] : decide (a = a) = true := decide_eq_true rfl
theorem kb_non_list : kitB "NoneType" "list" = some false := by decide +kernel
theorem kb_non_tuple : kitB "NoneType" "tuple" = some false := by decide +kernel
theorem ka_intI {K : PySem.W.Frag} {a : String} (h1 : kitB a "int" = some true) : PySem.W.kitAny K (.type a) [.type "int", .type "str"] = some true := kitAny_cons (kit_ty h1) (fun h => by cases h) (fun _ => rfl)
theorem ka_strI {K : PySem.W.Frag} : PySem.W.kitAny K (.type "str") [.type "int", .type "str"] = some true := kitAny_cons (kit_ty kb_str_int) (fun _ => kitAny_cons (kit_ty kb_str_str) (fun h => by cases h) (fun _ => rfl)) (fun h => by cases h)
theorem atI_nat {xs : List V} {i : Nat} {u : V} (h : xs[i]? = some u) : atI xs (i : Int) = some u := by
  have hl := (List.getElem?_eq_some_iff.mp h).1
  obtain ⟨hb, e⟩ := atI_get (xs := xs) (i := (i : Int)) (by omega) (by omega)
  rw [e]
  rw [List.getElem?_eq_getElem hl] at h
  exact h
theorem rd_isiIS {H : Hp} {x : V} {Q : VK} {K : PySem.W.Frag} {tp : Addr} {b : Bool} {a : String} (h : H tp = some (.tup [.ty "int", .ty "str"])) (ty : TyOf K H x (.type a)) (k : PySem.W.kitAny K (.type a) [.type "int", .type "str"] = some b) (q : Q (.bl b) H) : rIsiT K [x, .ref tp] H Q :=
  ⟨x, tp, _, .type a, _, b, rfl, h, .cons (.ty _) (.cons (.ty _) .nil), .base ty, k, q⟩
theorem ok_alikeS {n k : Nat} {f : Addr} {fd : FuncData} (F : Fun K "_law_alike" "_law_alike" s_law_alike f fd) (T : Blt mg) (H_law_alike : Has P w K mg base "_law_alike" k ["left", "right"] (spAlike n)) : FnOk P w K mg base CX0 (k + 1) f fd ["left", "right"] (spAlike (n + 1)) := by
  refine F.ok sc_law_alike (fun vs H Q E h => ?_) (fun cdv A outer s H vs Q E hr h => ?_)
  · obtain ⟨x, y, d, rfl, _⟩ := h; rfl
  · obtain ⟨x, y, d, rfl, hx, hy, hd, h⟩ := h
    refine ⟨_, (pss_cons (ps_if (PW.pt (pw_and (pt_val (pe_callB (call_isiTR (K := K) rfl) (by rfl) T.isinstance (by decide +kernel) (pa_cons (pv 0) (pa_cons (pe_tup (pa_cons (pe_bltn (v := .ty "list") rfl T.list' (by decide +kernel) rfl) (pa_cons (pe_bltn (v := .ty "tuple") rfl T.tuple (by decide +kernel) rfl) pa_nil))) pa_nil)))) (pw_and1 (pt_val (pe_callB (call_isiTR (K := K) rfl) (by rfl) T.isinstance (by decide +kernel) (pa_cons (pv 1) (pa_cons (pe_tup (pa_cons (pe_bltn (v := .ty "list") rfl T.list' (by decide +kernel) rfl) (pa_cons (pe_bltn (v := .ty "tuple") rfl T.tuple (by decide +kernel) rfl) pa_nil))) pa_nil))))))) (pss_cons (ps_if (PW.pt (pw_or (pt_cmpR op_ne (pe_callB call_len_seq (by rfl) T.len (by decide +kernel) (pa_cons (pv 0) pa_nil)) (pe_callB call_len_seq (by rfl) T.len (by decide +kernel) (pa_cons (pv 1) pa_nil)) (nomark _)) (pw_or1 (pt_cmpR op_ne (pe_callB (call_isiR (K := K) rfl) (by rfl) T.isinstance (by decide +kernel) (pa_cons (pv 0) (pa_cons (pe_bltn (v := .ty "list") rfl T.list' (by decide +kernel) rfl) pa_nil))) (pe_callB (call_isiR (K := K) rfl) (by rfl) T.isinstance (by decide +kernel) (pa_cons (pv 1) (pa_cons (pe_bltn (v := .ty "list") rfl T.list' (by decide +kernel) rfl) pa_nil))) (nomark _))))) (pss_one (ps_ret pe_bl)) pss_nil)
 (pss_one (ps_ret (pe_cmpR op_eq (pe_callB call_len_seq (by rfl) T.len (by decide +kernel) (pa_cons (pe_lc (own := [("k", 2)]) (g := (gName 2)) (by rfl) sc_law_alike.nd (pi_range1 rfl T.range (pa_cons (pe_callB call_len_seq (by rfl) T.len (by decide +kernel) (pa_cons (pv 0) pa_nil)) pa_nil)) (blkOk_by (own := [("k", 2)]) (N := ["left", "right", "k"]) (sc := defScope s_law_alike) (by decide +kernel)) (fun _ _ _ _ _ => (pg_name (i := 2) sc_law_alike.nd rfl (.inl rfl))) (fun _ _ _ _ _ => (pts_one (pt_not (pt_val (pe_callH H_law_alike hr (by rfl) (pa_cons (pe_ix (ix_seqR (K := K) rfl) (pv 0) (pv 2) (fun _ _ => rfl)) (pa_cons (pe_ix (ix_seqR (K := K) rfl) (pv 1) (pv 2) (fun _ _ => rfl)) pa_nil))))))) (fun _ _ _ _ _ => (pv 2))) pa_nil)) pe_int (nomark _))))) pss_nil)
 (pss_cons (ps_if (PW.pt (pw_or (pt_cmpR op_isN (pv 0) pe_non (nomark _)) (pw_or1 (pt_cmpR op_isN (pv 1) pe_non (nomark _))))) (pss_one (ps_ret (pe_and (pe_cmpR op_isN (pv 0) pe_non (nomark _)) (pe_one (pe_cmpR op_isN (pv 1) pe_non (nomark _)))))) pss_nil)
 (pss_cons (ps_if (PW.pt (pw_or (pt_cmpR op_ne (pe_callB (call_isiR (K := K) rfl) (by rfl) T.isinstance (by decide +kernel) (pa_cons (pv 0) (pa_cons (pe_bltn (v := .ty "bool") rfl T.bool (by decide +kernel) rfl) pa_nil))) (pe_callB (call_isiR (K := K) rfl) (by rfl) T.isinstance (by decide +kernel) (pa_cons (pv 1) (pa_cons (pe_bltn (v := .ty "bool") rfl T.bool (by decide +kernel) rfl) pa_nil))) (nomark _)) (pw_or1 (pt_cmpR op_ne (pe_callB (call_isiR (K := K) rfl) (by rfl) T.isinstance (by decide +kernel) (pa_cons (pv 0) (pa_cons (pe_bltn (v := .ty "int") rfl T.int (by decide +kernel) rfl) pa_nil))) (pe_callB (call_isiR (K := K) rfl) (by rfl) T.isinstance (by decide +kernel) (pa_cons (pv 1) (pa_cons (pe_bltn (v := .ty "int") rfl T.int (by decide +kernel) rfl) pa_nil))) (nomark _))))) (pss_one (ps_ret pe_bl)) pss_nil)
 (pss_one (ps_ret (pe_and (pe_cmpR op_eq (pe_callB (call_isiR (K := K) rfl) (by rfl) T.isinstance (by decide +kernel) (pa_cons (pv 0) (pa_cons (pe_bltn (v := .ty "str") rfl T.str (by decide +kernel) rfl) pa_nil))) (pe_callB (call_isiR (K := K) rfl) (by rfl) T.isinstance (by decide +kernel) (pa_cons (pv 1) (pa_cons (pe_bltn (v := .ty "str") rfl T.str (by decide +kernel) rfl) pa_nil))) (nomark _)) (pe_and (pe_callB (call_isiTR (K := K) rfl) (by rfl) T.isinstance (by decide +kernel) (pa_cons (pv 0) (pa_cons (pe_tup (pa_cons (pe_bltn (v := .ty "int") rfl T.int (by decide +kernel) rfl) (pa_cons (pe_bltn (v := .ty "str") rfl T.str (by decide +kernel) rfl) pa_nil))) pa_nil))) (pe_one (pe_cmpR op_eq (pv 0) (pv 1) (nomark _)))))))))), ?_⟩
    have sT : ∀ {H1 : Hp} {p : Addr}, H1 p = none → Same H1 (upd H1 p (.tup [V.ty "list", V.ty "tuple"])) := fun n => same_new n
    have sI : ∀ {H1 : Hp} {p : Addr}, H1 p = none → Same H1 (upd H1 p (.tup [V.ty "int", V.ty "str"])) := fun n => same_new n
    cases d with
    | none =>
      cases hx
      cases hy
      walk_at "rdF"
      refine ⟨sz (by simp), fun p np => ?_⟩
      walk_at "rdF"
      refine rd_isiLT upd_same .non (ka_no kb_non_list kb_non_tuple) ?_
      walk_at "rdF"
      exact h _ (sT np)
    | bool b =>
      cases hx
      cases hy
      walk_at "rdF"
      refine ⟨sz (by simp), fun p np => ?_⟩
      walk_at "rdF"
      refine rd_isiLT upd_same (.bl _) (ka_no kb_bool_list kb_bool_tuple) ?_
      walk_at "rdF"
      repeat (walk_at "rdF"; rw [dec_refl])
      walk_at "rdF"
      refine ⟨sz (by simp), fun p2 np2 => ?_⟩
      walk_at "rdF"
      refine rd_isiIS upd_same (.bl _) (ka_intI kb_bool_int) ?_
      walk_at "rdF"
      rw [dec_refl]
      exact h _ ((sT np).trans (sI np2))
    | int i =>
      cases hx
      cases hy
      walk_at "rdF"
      refine ⟨sz (by simp), fun p np => ?_⟩
      walk_at "rdF"
      refine rd_isiLT upd_same (.int _) (ka_no kb_int_list kb_int_tuple) ?_
      repeat (walk_at "rdF"; rw [dec_refl])
      walk_at "rdF"
      refine ⟨sz (by simp), fun p2 np2 => ?_⟩
      walk_at "rdF"
      refine rd_isiIS upd_same (.int _) (ka_intI kb_int_int) ?_
      walk_at "rdF"
      rw [dec_refl]
      exact h _ ((sT np).trans (sI np2))
    | str z =>
      cases hx
      cases hy
      walk_at "rdF"
      refine ⟨sz (by simp), fun p np => ?_⟩
      walk_at "rdF"
      refine rd_isiLT upd_same (.str _) (ka_no kb_str_list kb_str_tuple) ?_
      repeat (walk_at "rdF"; rw [dec_refl])
      walk_at "rdF"
      refine ⟨sz (by simp), fun p2 np2 => ?_⟩
      walk_at "rdF"
      refine rd_isiIS upd_same (.str _) ka_strI ?_
      walk_at "rdF"
      rw [dec_refl]
      exact h _ ((sT np).trans (sI np2))
    | list ds =>
      obtain ⟨a, xs, rfl, _, ha, rx⟩ := hx.lstI
      obtain ⟨b, ys, rfl, _, hb, ry⟩ := hy.lstI
      obtain ⟨l5, hd⟩ := hd
      walk_at "rdF"
      refine ⟨sz (by simp), fun p np => ?_⟩
      walk_at "rdF"
      have s1 := sT np
      refine rd_isiLT upd_same (.lst (s1 _ _ ha)) ka_list ?_
      walk_at "rdF"
      refine ⟨sz (by simp), fun p2 np2 => ?_⟩
      walk_at "rdF"
      have s2 := s1.trans (sT np2)
      refine rd_isiLT upd_same (.lst (s2 _ _ hb)) ka_list ?_
      have ha2 := s2 _ _ ha
      have hb2 := s2 _ _ hb
      generalize upd (upd H p _) p2 _ = H2 at *
      walk_at "rdF"
      refine rd_seqL ha2 ?_
      walk_at "rdF"
      refine rd_seqL hb2 ?_
      rw [rx.len, ry.len]
      walk_at "rdF"
      rw [dec_refl]
      walk_at "rdF"
      rw [dec_refl]
      walk_at "rdF"
      refine rd_seqL ha2 ?_
      rw [rx.len]
      walk_at "rdF"
      refine ⟨by omega, by omega, fun D nD => lc_rng (fun i H' => Same H H' ∧ H' D = some (.lst [])) ⟨s2.trans (same_new nD), upd_same⟩ ?_ ?_⟩
      · rintro i H3 hi ⟨s3, hD⟩
        obtain ⟨u, hu, ru⟩ := rx.at (List.getElem?_eq_getElem hi)
        obtain ⟨v, hv, rv⟩ := ry.at (List.getElem?_eq_getElem hi)
        refine ⟨by walk_at "wiped", ?_⟩
        walk_at "rdF"
        refine rd_ixQL (s3 _ _ ha) (atI_nat hu) ?_
        walk_at "rdF"
        refine rd_ixQL (s3 _ _ hb) (atI_nat hv) ?_
        walk_at "rdF"
        refine ⟨u, v, _, rfl, ru.same s3, rv.same s3, hd _ (List.getElem_mem hi), fun H4 s4 => ?_⟩
        walk_at "rdF"
        exact ⟨s3.trans s4, s4 _ _ hD⟩
      · rintro H3 ⟨s3, hD⟩
        walk_at "rdF"
        refine rd_seqL hD ?_
        walk_at "rdF"
        exact h H3 s3
    | tuple ds =>
      obtain ⟨a, xs, rfl, _, ha, rx⟩ := hx.tupI
      obtain ⟨b, ys, rfl, _, hb, ry⟩ := hy.tupI
      obtain ⟨l5, hd⟩ := hd
      walk_at "rdF"
      refine ⟨sz (by simp), fun p np => ?_⟩
      walk_at "rdF"
      have s1 := sT np
      refine rd_isiLT upd_same (.tup (s1 _ _ ha)) ka_tuple ?_
      walk_at "rdF"
      refine ⟨sz (by simp), fun p2 np2 => ?_⟩
      walk_at "rdF"
      have s2 := s1.trans (sT np2)
      refine rd_isiLT upd_same (.tup (s2 _ _ hb)) ka_tuple ?_
      have ha2 := s2 _ _ ha
      have hb2 := s2 _ _ hb
      generalize upd (upd H p _) p2 _ = H2 at *
      walk_at "rdF"
      refine rd_seqT ha2 ?_
      walk_at "rdF"
      refine rd_seqT hb2 ?_
      rw [rx.len, ry.len]
      walk_at "rdF"
      rw [dec_refl]
      walk_at "rdF"
      rw [dec_refl]
      walk_at "rdF"
      refine rd_seqT ha2 ?_
      rw [rx.len]
      walk_at "rdF"
      refine ⟨by omega, by omega, fun D nD => lc_rng (fun i H' => Same H H' ∧ H' D = some (.lst [])) ⟨s2.trans (same_new nD), upd_same⟩ ?_ ?_⟩
      · rintro i H3 hi ⟨s3, hD⟩
        obtain ⟨u, hu, ru⟩ := rx.at (List.getElem?_eq_getElem hi)
        obtain ⟨v, hv, rv⟩ := ry.at (List.getElem?_eq_getElem hi)
        refine ⟨by walk_at "wiped", ?_⟩
        walk_at "rdF"
        refine rd_ixQT (s3 _ _ ha) (atI_nat hu) ?_
        walk_at "rdF"
        refine rd_ixQT (s3 _ _ hb) (atI_nat hv) ?_
        walk_at "rdF"
        refine ⟨u, v, _, rfl, ru.same s3, rv.same s3, hd _ (List.getElem_mem hi), fun H4 s4 => ?_⟩
        walk_at "rdF"
        exact ⟨s3.trans s4, s4 _ _ hD⟩
      · rintro H3 ⟨s3, hD⟩
        walk_at "rdF"
        refine rd_seqL hD ?_
        walk_at "rdF"
        exact h H3 s3
    | dict _ => cases hx
theorem ok_alike0 {k : Nat} {f : Addr} {fd : FuncData} (F : Fun K "_law_alike" "_law_alike" s_law_alike f fd) (T : Blt mg) : FnOk P w K mg base CX0 (k + 1) f fd ["left", "right"] (spAlike 0) := by
  refine F.ok sc_law_alike (fun vs H Q E h => ?_) (fun cdv A outer s H vs Q E hr h => ?_)
  · obtain ⟨x, y, d, rfl, _⟩ := h; rfl
  · obtain ⟨x, y, d, rfl, hx, hy, hd, h⟩ := h
    refine ⟨_, (pss_cons (ps_if (PW.pt (pw_and (pt_val (pe_callB (call_isiTR (K := K) rfl) (by rfl) T.isinstance (by decide +kernel) (pa_cons (pv 0) (pa_cons (pe_tup (pa_cons (pe_bltn (v := .ty "list") rfl T.list' (by decide +kernel) rfl) (pa_cons (pe_bltn (v := .ty "tuple") rfl T.tuple (by decide +kernel) rfl) pa_nil))) pa_nil)))) (pw_and1 (pt_val (pe_callB (call_isiTR (K := K) rfl) (by rfl) T.isinstance (by decide +kernel) (pa_cons (pv 1) (pa_cons (pe_tup (pa_cons (pe_bltn (v := .ty "list") rfl T.list' (by decide +kernel) rfl) (pa_cons (pe_bltn (v := .ty "tuple") rfl T.tuple (by decide +kernel) rfl) pa_nil))) pa_nil))))))) (pss_cons (ps_if (PW.pt (pw_or (pt_cmpR op_ne (pe_callB call_len_seq (by rfl) T.len (by decide +kernel) (pa_cons (pv 0) pa_nil)) (pe_callB call_len_seq (by rfl) T.len (by decide +kernel) (pa_cons (pv 1) pa_nil)) (nomark _)) (pw_or1 (pt_cmpR op_ne (pe_callB (call_isiR (K := K) rfl) (by rfl) T.isinstance (by decide +kernel) (pa_cons (pv 0) (pa_cons (pe_bltn (v := .ty "list") rfl T.list' (by decide +kernel) rfl) pa_nil))) (pe_callB (call_isiR (K := K) rfl) (by rfl) T.isinstance (by decide +kernel) (pa_cons (pv 1) (pa_cons (pe_bltn (v := .ty "list") rfl T.list' (by decide +kernel) rfl) pa_nil))) (nomark _))))) (pss_one (ps_ret pe_bl)) pss_nil)
 (pss_one ps_never)) pss_nil)
 (pss_cons (ps_if (PW.pt (pw_or (pt_cmpR op_isN (pv 0) pe_non (nomark _)) (pw_or1 (pt_cmpR op_isN (pv 1) pe_non (nomark _))))) (pss_one (ps_ret (pe_and (pe_cmpR op_isN (pv 0) pe_non (nomark _)) (pe_one (pe_cmpR op_isN (pv 1) pe_non (nomark _)))))) pss_nil)
 (pss_cons (ps_if (PW.pt (pw_or (pt_cmpR op_ne (pe_callB (call_isiR (K := K) rfl) (by rfl) T.isinstance (by decide +kernel) (pa_cons (pv 0) (pa_cons (pe_bltn (v := .ty "bool") rfl T.bool (by decide +kernel) rfl) pa_nil))) (pe_callB (call_isiR (K := K) rfl) (by rfl) T.isinstance (by decide +kernel) (pa_cons (pv 1) (pa_cons (pe_bltn (v := .ty "bool") rfl T.bool (by decide +kernel) rfl) pa_nil))) (nomark _)) (pw_or1 (pt_cmpR op_ne (pe_callB (call_isiR (K := K) rfl) (by rfl) T.isinstance (by decide +kernel) (pa_cons (pv 0) (pa_cons (pe_bltn (v := .ty "int") rfl T.int (by decide +kernel) rfl) pa_nil))) (pe_callB (call_isiR (K := K) rfl) (by rfl) T.isinstance (by decide +kernel) (pa_cons (pv 1) (pa_cons (pe_bltn (v := .ty "int") rfl T.int (by decide +kernel) rfl) pa_nil))) (nomark _))))) (pss_one (ps_ret pe_bl)) pss_nil)
 (pss_one (ps_ret (pe_and (pe_cmpR op_eq (pe_callB (call_isiR (K := K) rfl) (by rfl) T.isinstance (by decide +kernel) (pa_cons (pv 0) (pa_cons (pe_bltn (v := .ty "str") rfl T.str (by decide +kernel) rfl) pa_nil))) (pe_callB (call_isiR (K := K) rfl) (by rfl) T.isinstance (by decide +kernel) (pa_cons (pv 1) (pa_cons (pe_bltn (v := .ty "str") rfl T.str (by decide +kernel) rfl) pa_nil))) (nomark _)) (pe_and (pe_callB (call_isiTR (K := K) rfl) (by rfl) T.isinstance (by decide +kernel) (pa_cons (pv 0) (pa_cons (pe_tup (pa_cons (pe_bltn (v := .ty "int") rfl T.int (by decide +kernel) rfl) (pa_cons (pe_bltn (v := .ty "str") rfl T.str (by decide +kernel) rfl) pa_nil))) pa_nil))) (pe_one (pe_cmpR op_eq (pv 0) (pv 1) (nomark _)))))))))), ?_⟩
    have sT : ∀ {H1 : Hp} {p : Addr}, H1 p = none → Same H1 (upd H1 p (.tup [V.ty "list", V.ty "tuple"])) := fun n => same_new n
    have sI : ∀ {H1 : Hp} {p : Addr}, H1 p = none → Same H1 (upd H1 p (.tup [V.ty "int", V.ty "str"])) := fun n => same_new n
    cases d with
    | none =>
      cases hx
      cases hy
      walk_at "rdF"
      refine ⟨sz (by simp), fun p np => ?_⟩
      walk_at "rdF"
      refine rd_isiLT upd_same .non (ka_no kb_non_list kb_non_tuple) ?_
      walk_at "rdF"
      exact h _ (sT np)
    | bool b =>
      cases hx
      cases hy
      walk_at "rdF"
      refine ⟨sz (by simp), fun p np => ?_⟩
      walk_at "rdF"
      refine rd_isiLT upd_same (.bl _) (ka_no kb_bool_list kb_bool_tuple) ?_
      walk_at "rdF"
      repeat (walk_at "rdF"; rw [dec_refl])
      walk_at "rdF"
      refine ⟨sz (by simp), fun p2 np2 => ?_⟩
      walk_at "rdF"
      refine rd_isiIS upd_same (.bl _) (ka_intI kb_bool_int) ?_
      walk_at "rdF"
      rw [dec_refl]
      exact h _ ((sT np).trans (sI np2))
    | int i =>
      cases hx
      cases hy
      walk_at "rdF"
      refine ⟨sz (by simp), fun p np => ?_⟩
      walk_at "rdF"
      refine rd_isiLT upd_same (.int _) (ka_no kb_int_list kb_int_tuple) ?_
      repeat (walk_at "rdF"; rw [dec_refl])
      walk_at "rdF"
      refine ⟨sz (by simp), fun p2 np2 => ?_⟩
      walk_at "rdF"
      refine rd_isiIS upd_same (.int _) (ka_intI kb_int_int) ?_
      walk_at "rdF"
      rw [dec_refl]
      exact h _ ((sT np).trans (sI np2))
    | str z =>
      cases hx
      cases hy
      walk_at "rdF"
      refine ⟨sz (by simp), fun p np => ?_⟩
      walk_at "rdF"
      refine rd_isiLT upd_same (.str _) (ka_no kb_str_list kb_str_tuple) ?_
      repeat (walk_at "rdF"; rw [dec_refl])
      walk_at "rdF"
      refine ⟨sz (by simp), fun p2 np2 => ?_⟩
      walk_at "rdF"
      refine rd_isiIS upd_same (.str _) ka_strI ?_
      walk_at "rdF"
      rw [dec_refl]
      exact h _ ((sT np).trans (sI np2))
    | list ds => exact hd.elim
    | tuple ds => exact hd.elim
    | dict _ => cases hx
end
set_option maxHeartbeats 1000000
abbrev s_law_posts : Stmt := topS 58
theorem sc_law_posts : FnScope ["plan", "node"] ["plan"] (defScope s_law_posts) := ⟨rfl, rfl, rfl, by decide +kernel, rfl, by decide +kernel, by decide +kernel⟩
abbrev s_law_labels : Stmt := topS 59
theorem sc_law_labels : FnScope ["plan", "edge"] ["plan"] (defScope s_law_labels) := ⟨rfl, rfl, rfl, by decide +kernel, rfl, by decide +kernel, by decide +kernel⟩
abbrev s_law_kept_rows : Stmt := topS 60
theorem sc_law_kept_rows : FnScope ["plan", "edges", "edge"] ["plan"] (defScope s_law_kept_rows) := ⟨rfl, rfl, rfl, by decide +kernel, rfl, by decide +kernel, by decide +kernel⟩
section
variable {P : Program} {w : World} {K : PySem.W.Frag} {mg : Str → Option Value} {base : Heap} {C CS CE CB CU : Addr}
theorem names_srt {α : Type} {f : α → Str} {l : List α} {ys : List Str} (h : ys.Perm (l.map f)) (hs : List.Pairwise (fun x y => ¬ ltS y x) ys) (nd : (l.map f).Nodup) : ys = (srtBy f l).map f := by
  refine asc_uniq (f := fun z : Str => z) (h.trans ((srt_perm l).map f).symm) hs (List.pairwise_map.mpr (srt_asc l)) ?_
  have e : ys.map (fun z : Str => z) = ys := List.map_id' ys
  rw [e]; exact h.nodup_iff.mpr nd
def spPosts : Sp := fun vs H Q _ => ∃ (v : V) (L : List (Str × V)) (rest : List PyData), vs = [v] ∧ R H v (.list (.list (L.map lampD) :: rest)) ∧ L.length ≤ 1000 ∧ (lampNs L).Nodup ∧ ∀ p H', Same H H' → H p = none → H' p = some (.lst ((lampNs (sortL L)).map V.str)) → Q (.ref p) H'
theorem ok_posts {k : Nat} {f : Addr} {fd : FuncData} (F : Fun K "_law_posts" "_law_posts" s_law_posts f fd) (T : Blt mg) : FnOk P w K mg base CX0 (k + 1) f fd ["plan"] spPosts := by
  refine F.ok sc_law_posts (fun vs H Q E h => ?_) (fun cdv A outer s H vs Q E hr h => ?_)
  · obtain ⟨v, L, rest, rfl, _⟩ := h; rfl
  · obtain ⟨v, L, rest, rfl, hv, lL, nd, h⟩ := h
    refine ⟨_, (pss_one (ps_ret (pe_callB cr_sortedX (by rfl) T.sorted (by decide +kernel) (pa_cons (pe_lc (own := [("node", 1)]) (g := (gName 1)) (by rfl) sc_law_posts.nd (pi_seq (pe_ix (ix_seqR (K := K) rfl) (pv 0) pe_int (fun _ _ => rfl))) (blkOk_by (own := [("node", 1)]) (N := ["plan", "node"]) (sc := defScope s_law_posts) (by decide +kernel)) (fun _ _ _ _ _ => (pg_name (i := 1) sc_law_posts.nd rfl (.inl rfl))) (fun _ _ _ _ _ => pts_nil) (fun _ _ _ _ _ => (pe_ix (ix_seqR (K := K) rfl) (pv 1) pe_int (fun _ _ => rfl)))) pa_nil)))), ?_⟩
    walk_at "rdF"
    refine rep_ix hv rfl (by decide) rfl fun u hu => ?_
    refine lc_seq (U := fun _ => True) (fun ds => ds.map fun e => (kids e).getD 0 .none) (fun _ => True) (.inl hu) rfl (fun _ _ => trivial) rfl (fun _ _ => trivial) ?_ ?_
    · rintro D i x e H' uD nD he hx hI
      have he' : (L.map lampD)[i]? = some e := he
      rw [List.getElem?_map] at he'
      cases qi : L[i]? with
      | none => rw [qi] at he'; cases he'
      | some r =>
        rw [qi] at he'
        cases he'
        refine ⟨rfl, ?_⟩
        walk_at "rdF"
        refine rep_ix hx rfl (by decide) rfl fun u hu => ?_
        refine hI.put .refl trivial nD (fun _ => trivial) hu ?_ ?_
        · rw [List.length_map, List.length_take]
          show min i (L.map lampD).length < _
          rw [List.length_map]; omega
        · rw [take_succ he, List.map_append]; rfl
    · rintro p acc H2 e2 _ np hp hacc _
      have ea : (kids (.list (L.map lampD))).map (fun e => (kids e).getD 0 .none) = (lampNs L).map PyData.str := by
        show (L.map lampD).map _ = _
        rw [List.map_map, List.map_map]; rfl
      rw [ea] at hacc
      obtain rfl := hacc.strsI
      have s2 := e2.toSame
      walk_at "rdF"
      refine ⟨p, lampNs L, rfl, .inl (sl_of hp), fun ys q hp' hs nq => ?_⟩
      rw [names_srt (f := fun r : Str × V => r.1) hp' hs nd]
      exact h q _ (s2.trans (same_new nq)) (none_back s2 nq) upd_same
def spLabels : Sp := fun vs H Q _ => ∃ (v : V) (B : List BR) (x : PyData) (rest : List PyData), vs = [v] ∧ R H v (.list (x :: .list (B.map BR.d) :: rest)) ∧ B.length ≤ 1000 ∧ (bondNs B).Nodup ∧ ∀ p H', Same H H' → H p = none → H' p = some (.lst ((bondNs (srtBy BR.n B)).map V.str)) → Q (.ref p) H'
theorem ok_labels {k : Nat} {f : Addr} {fd : FuncData} (F : Fun K "_law_labels" "_law_labels" s_law_labels f fd) (T : Blt mg) : FnOk P w K mg base CX0 (k + 1) f fd ["plan"] spLabels := by
  refine F.ok sc_law_labels (fun vs H Q E h => ?_) (fun cdv A outer s H vs Q E hr h => ?_)
  · obtain ⟨v, B, x, rest, rfl, _⟩ := h; rfl
  · obtain ⟨v, B, x, rest, rfl, hv, lL, nd, h⟩ := h
    refine ⟨_, (pss_one (ps_ret (pe_callB cr_sortedX (by rfl) T.sorted (by decide +kernel) (pa_cons (pe_lc (own := [("edge", 1)]) (g := (gName 1)) (by rfl) sc_law_labels.nd (pi_seq (pe_ix (ix_seqR (K := K) rfl) (pv 0) pe_int (fun _ _ => rfl))) (blkOk_by (own := [("edge", 1)]) (N := ["plan", "edge"]) (sc := defScope s_law_labels) (by decide +kernel)) (fun _ _ _ _ _ => (pg_name (i := 1) sc_law_labels.nd rfl (.inl rfl))) (fun _ _ _ _ _ => pts_nil) (fun _ _ _ _ _ => (pe_ix (ix_seqR (K := K) rfl) (pv 1) pe_int (fun _ _ => rfl)))) pa_nil)))), ?_⟩
    walk_at "rdF"
    refine rep_ix hv rfl (by decide) rfl fun u hu => ?_
    refine lc_seq (U := fun _ => True) (fun ds => ds.map fun e => (kids e).getD 0 .none) (fun _ => True) (.inl hu) rfl (fun _ _ => trivial) rfl (fun _ _ => trivial) ?_ ?_
    · rintro D i x e H' uD nD he hx hI
      have he' : (B.map BR.d)[i]? = some e := he
      rw [List.getElem?_map] at he'
      cases qi : B[i]? with
      | none => rw [qi] at he'; cases he'
      | some r =>
        rw [qi] at he'
        cases he'
        refine ⟨rfl, ?_⟩
        walk_at "rdF"
        refine rep_ix hx rfl (by decide) rfl fun u hu => ?_
        refine hI.put .refl trivial nD (fun _ => trivial) hu ?_ ?_
        · rw [List.length_map, List.length_take]
          show min i (B.map BR.d).length < _
          rw [List.length_map]; omega
        · rw [take_succ he, List.map_append]; rfl
    · rintro p acc H2 e2 _ np hp hacc _
      have ea : (kids (.list (B.map BR.d))).map (fun e => (kids e).getD 0 .none) = (bondNs B).map PyData.str := by
        show (B.map BR.d).map _ = _
        rw [List.map_map, List.map_map]; rfl
      rw [ea] at hacc
      obtain rfl := hacc.strsI
      have s2 := e2.toSame
      walk_at "rdF"
      refine ⟨p, bondNs B, rfl, .inl (sl_of hp), fun ys q hp' hs nq => ?_⟩
      rw [names_srt (f := BR.n) hp' hs nd]
      exact h q _ (s2.trans (same_new nq)) (none_back s2 nq) upd_same
def keptOf (e : PyData) : PyData := match kids e with
  | [.str n, .str x, .str y, l, h] => .tuple [.str n, .str (minS x y), .str (maxS x y), l, h]
  | _ => .none
def spKeptRows : Sp := fun vs H Q _ => ∃ (v : V) (L : List (Str × V)) (B : List BR) (rest : List PyData), vs = [v] ∧ R H v (.list (.list (L.map lampD) :: .list (B.map BR.d) :: rest)) ∧ (lampNs L).Nodup ∧ (bondNs B).Nodup ∧ B.length ≤ 1000 ∧ (∀ r ∈ B, Sc r.l ∧ Sc r.h) ∧
  ∀ p H', Same H H' → H p = none → R H' (.ref p) (.list [.list ((sortL L).map lampD), .list ((sortB B).map BR.d)]) → Q (.ref p) H'
theorem ok_kept_rows {k : Nat} {f : Addr} {fd : FuncData} (F : Fun K "_law_kept_rows" "_law_kept_rows" s_law_kept_rows f fd) (T : Blt mg) : FnOk P w K mg base CX0 (k + 1) f fd ["plan"] spKeptRows := by
  refine F.ok sc_law_kept_rows (fun vs H Q E h => ?_) (fun cdv A outer s H vs Q E hr h => ?_)
  · obtain ⟨v, L, B, rest, rfl, _⟩ := h; rfl
  · obtain ⟨v, L, B, rest, rfl, hv, ndL, ndB, lB, scB, h⟩ := h
    refine ⟨_, (pss_cons (ps_setLc (i := 1) (own := [("edge", 2)]) (g := (gName 2)) (by rfl) sc_law_kept_rows.nd rfl rfl (sw_true rfl rfl rfl (by decide +kernel)) (pi_seq (pe_ix (ix_seqR (K := K) rfl) (pv 0) pe_int (fun _ _ => rfl))) (blkOk_by (own := [("edge", 2)]) (N := ["plan", "edges", "edge"]) (sc := defScope s_law_kept_rows) (by decide +kernel)) (fun _ _ _ _ _ => (pg_name (i := 2) sc_law_kept_rows.nd rfl (.inl rfl))) (fun _ _ _ _ _ => pts_nil) (fun _ _ _ _ _ => (pe_tup (pa_cons (pe_ix (ix_seqR (K := K) rfl) (pv 2) pe_int (fun _ _ => rfl)) (pa_cons (pe_callB (call_minS rfl) (by rfl) T.min (by decide +kernel) (pa_cons (pe_ix (ix_seqR (K := K) rfl) (pv 2) pe_int (fun _ _ => rfl)) (pa_cons (pe_ix (ix_seqR (K := K) rfl) (pv 2) pe_int (fun _ _ => rfl)) pa_nil))) (pa_cons (pe_callB (call_maxS rfl) (by rfl) T.max (by decide +kernel) (pa_cons (pe_ix (ix_seqR (K := K) rfl) (pv 2) pe_int (fun _ _ => rfl)) (pa_cons (pe_ix (ix_seqR (K := K) rfl) (pv 2) pe_int (fun _ _ => rfl)) pa_nil))) (pa_cons (pe_ix (ix_seqR (K := K) rfl) (pv 2) pe_int (fun _ _ => rfl)) (pa_cons (pe_ix (ix_seqR (K := K) rfl) (pv 2) pe_int (fun _ _ => rfl)) pa_nil))))))))
 (pss_one (ps_ret (pe_lst (pa_cons (pe_callB (cr_sortedR (K := K) rfl) (by rfl) T.sorted (by decide +kernel) (pa_cons (pe_ix (ix_seqR (K := K) rfl) (pv 0) pe_int (fun _ _ => rfl)) pa_nil)) (pa_cons (pe_callB (cr_sortedR (K := K) rfl) (by rfl) T.sorted (by decide +kernel) (pa_cons (pv 1) pa_nil)) pa_nil)))))), ?_⟩
    walk_at "rdF"
    refine rep_ix hv rfl (by decide) rfl fun u hu => ?_
    refine lc_seq (U := fun _ => True) (fun ds => ds.map keptOf) (fun _ => True) (.inl hu) rfl (fun _ _ => trivial) rfl (fun _ _ => trivial) ?_ ?_
    · rintro D i x e H' uD nD he hx hI
      have he' : (B.map BR.d)[i]? = some e := he
      rw [List.getElem?_map] at he'
      cases qi : B[i]? with
      | none => rw [qi] at he'; cases he'
      | some r =>
        rw [qi] at he'
        cases he'
        obtain ⟨sl, sh⟩ := scB r (List.mem_of_getElem? qi)
        refine ⟨rfl, ?_⟩
        walk_at "rdF"
        refine rep_ix hx rfl (by decide) rfl fun u1 h1 => ?_
        cases h1.strI
        walk_at "rdF"
        refine rep_ix hx rfl (by decide) rfl fun u1 h1 => ?_
        cases h1.strI
        walk_at "rdF"
        refine rep_ix hx rfl (by decide) rfl fun u1 h1 => ?_
        cases h1.strI
        refine ⟨_, _, rfl, ?_⟩
        walk_at "rdF"
        refine rep_ix hx rfl (by decide) rfl fun u1 h1 => ?_
        cases h1.strI
        walk_at "rdF"
        refine rep_ix hx rfl (by decide) rfl fun u1 h1 => ?_
        cases h1.strI
        refine ⟨_, _, rfl, ?_⟩
        walk_at "rdF"
        refine rep_ix hx rfl (by decide) rfl fun u1 h1 => ?_
        cases h1.scI sl
        walk_at "rdF"
        refine rep_ix hx rfl (by decide) rfl fun u1 h1 => ?_
        cases h1.scI sh
        walk_at "rdF"
        refine ⟨sz (by simp), fun p np => ?_⟩
        refine hI.put (e := (keptBR r).d) (.new np) trivial nD (fun _ => trivial) (rep_row (r := keptBR r) ⟨trivial, hI.ne np⟩ upd_same sl sh) ?_ ?_
        · rw [List.length_map, List.length_take]
          show min i (B.map BR.d).length < _
          rw [List.length_map]; omega
        · rw [take_succ he, List.map_append]; rfl
    · rintro p acc H2 e2 _ np hp hacc _
      have ea : (kids (.list (B.map BR.d))).map keptOf = (B.map keptBR).map BR.d := by
        show (B.map BR.d).map _ = _
        rw [List.map_map, List.map_map]; rfl
      rw [ea] at hacc
      have s2 := e2.toSame
      have hacc2 : RL H2 acc ((B.map keptBR).map BR.d) := hacc.less fun _ _ => trivial
      walk_at "rdF"
      refine rep_ix (hv.same s2) rfl (by decide) rfl fun u1 h1 => ?_
      obtain ⟨lp, ls, rfl, _, hlp, hls⟩ := h1.lstI
      walk_at "rdF"
      refine sorted_rows (l := L) (n := fun r => r.1) (r := fun r => [vD r.2]) (.inl hlp) hls ndL fun p3 ys hperm hys n3 => ?_
      have s3 := same_new (o := .lst ys) n3
      have hp3 := @upd_same H2 p3 (.lst ys)
      have hys3 : RL _ ys ((sortL L).map lampD) := hys.same s3
      have hacc3 := hacc2.same s3
      have hpa := s3 _ _ hp
      generalize upd H2 p3 (.lst ys) = H3 at *
      walk_at "rdF"
      refine sorted_rows (l := B.map keptBR) (n := BR.n) (r := fun r => [.str r.x, .str r.y, vD r.l, vD r.h]) (.inl hpa) hacc3 (by rw [List.map_map]; exact ndB) fun p4 zs hperm4 hzs n4 => ?_
      have s4 := same_new (o := .lst zs) n4
      have hp4 := @upd_same H3 p4 (.lst zs)
      have hzs4 : RL _ zs ((sortB B).map BR.d) := hzs.same s4
      generalize upd H3 p4 (.lst zs) = H4 at *
      walk_at "rdF"
      refine ⟨sz (by simp), fun p5 n5 => ?_⟩
      have s5 := same_new (o := .lst [V.ref p3, V.ref p4]) n5
      have s24 := (s2.trans s3).trans s4
      refine h p5 _ (s24.trans s5) (none_back s24 n5) ?_
      exact .lst trivial upd_same (.cons (.lst trivial (s5 _ _ (s4 _ _ hp3)) (hys3.same (s4.trans s5))) (.cons (.lst trivial (s5 _ _ hp4) (hzs4.same s5)) .nil))
end
set_option maxHeartbeats 1000000
abbrev s_law_has_rows : Stmt := topS 63
theorem sc_law_has_rows : FnScope ["web", "plan"] ["web", "plan"] (defScope s_law_has_rows) := ⟨rfl, rfl, rfl, by decide +kernel, rfl, by decide +kernel, by decide +kernel⟩
abbrev s_law_is_bond : Stmt := topS 62
theorem sc_law_is_bond : FnScope ["web", "edge", "lights", "span", "light", "due", "told"] ["web", "edge", "lights"] (defScope s_law_is_bond) := ⟨rfl, rfl, rfl, by decide +kernel, rfl, by decide +kernel, by decide +kernel⟩
section
variable {P : Program} {w : World} {K : PySem.W.Frag} {mg : Str → Option Value} {base : Heap} {C CS CE CB CU : Addr}
theorem okd_lamp {r : Str × V} {n : Nat} : Okd (n + 1) (lampD r) := ⟨by simp [lampD], fun e he => by
  simp at he
  rcases he with rfl | rfl
  · cases n <;> trivial
  · cases r.2 <;> cases n <;> trivial⟩
theorem okd_bond {r : BR} {n : Nat} : Okd (n + 1) r.d := ⟨by simp, fun e he => by
  simp at he
  rcases he with rfl | rfl | rfl | rfl | rfl
  · cases n <;> trivial
  · cases n <;> trivial
  · cases n <;> trivial
  · cases r.l <;> cases n <;> trivial
  · cases r.h <;> cases n <;> trivial⟩
theorem okd_map {α : Type} {f : α → PyData} {l : List α} {n : Nat} (h : l.length ≤ 100000) (hf : ∀ x ∈ l, Okd n (f x)) : Okd (n + 1) (.list (l.map f)) := ⟨by rw [List.length_map]; exact h, fun e he => by
  obtain ⟨x, hx, rfl⟩ := List.mem_map.mp he
  exact hf x hx⟩
theorem okd_str {n : Nat} {z : Str} : Okd n (.str z) := by cases n <;> trivial
theorem okd_bool {n : Nat} {b : Bool} : Okd n (.bool b) := by cases n <;> trivial
theorem okd_sc {n : Nat} {v : V} : Okd n (vD v) := by cases v <;> cases n <;> trivial
theorem okd_strs {n : Nat} {l : List Str} (h : l.length ≤ 100000) : Okd (n + 1) (.list (l.map PyData.str)) := okd_map h fun _ _ => okd_str
/-- a web that keeps these rows -/
structure Keeps (C CS : Addr) (H : Hp) (a : Addr) (L0 : List (Str × V)) (B0 : List BR) : Prop where
  ex : ∃ U, WebV U C CS H a (sortL L0) (sortB B0)
theorem Keeps.same {H H' : Hp} {a : Addr} {L0 : List (Str × V)} {B0 : List BR} (h : Keeps C CS H a L0 B0) (s : Same H H') : Keeps C CS H' a L0 B0 := by
  obtain ⟨U, h⟩ := h.ex
  exact ⟨U, h.same s⟩
def planD (L : List (Str × V)) (B : List BR) (rest : List PyData) : PyData := .list (.list (L.map lampD) :: .list (B.map BR.d) :: rest)
def spHasRows (C CS : Addr) : Sp := fun vs H Q _ => ∃ (a : Addr) (v : V) (L0 : List (Str × V)) (B0 : List BR) (rest : List PyData), vs = [.ref a, v] ∧ Keeps C CS H a L0 B0 ∧ R H v (planD L0 B0 rest) ∧ Right L0 B0 ∧ ∀ H', Same H H' → Q (.bl true) H'
theorem ok_has_rows {k j : Nat} {f : Addr} {fd : FuncData} (F : Fun K "_law_has_rows" "_law_has_rows" s_law_has_rows f fd) (T : Blt mg) (SI : SpI K C) (gW : mg "Web" = some (.ref C)) (cl_Web : Cls K C) (H_law_alike : Has P w K mg base "_law_alike" k ["left", "right"] (spAlike 3)) (H_law_kept_rows : Has P w K mg base "_law_kept_rows" k ["plan"] spKeptRows)
    (HP_Web_lamp_rows : HasPr P w K mg base CX0 C "lamp_rows" j ["self"] (spWLampRows C CS)) (HP_Web_bond_rows : HasPr P w K mg base CX0 C "bond_rows" j ["self"] (spWBondRows C CS)) (hk : j + 1 ≤ k) : FnOk P w K mg base CX0 (k + 1) f fd ["web", "plan"] (spHasRows C CS) := by
  refine F.ok sc_law_has_rows (fun vs H Q E h => ?_) (fun cdv A outer s H vs Q E hr h => ?_)
  · obtain ⟨a, v, L0, B0, rest, rfl, _⟩ := h; rfl
  · obtain ⟨a, v, L0, B0, rest, rfl, ⟨U, hw⟩, hv, rt, h⟩ := h
    obtain ⟨dx, c, b, e, s, oc, oe, os, g, q, ua, ha, uc, hc, hb, ue, he, hg, us, hs, hq⟩ := hw.at_.ex
    refine ⟨_, (pss_one (ps_ret (pe_and (pe_callB (call_isiR (K := K) rfl) (by rfl) T.isinstance (by decide +kernel) (pa_cons (pv 0) (pa_cons (pe_globC rfl gW) pa_nil))) (pe_one (pe_callH H_law_alike hr (by rfl) (pa_cons (pe_lst (pa_cons (pe_propH HP_Web_lamp_rows cl_Web (pv 0) (hr.mono (by omega)) pass0) (pa_cons (pe_propH HP_Web_bond_rows cl_Web (pv 0) (hr.mono (by omega)) pass0) pa_nil))) (pa_cons (pe_callH H_law_kept_rows hr (by rfl) (pa_cons (pv 1) pa_nil)) pa_nil))))))), ?_⟩
    walk_at "rdF"
    refine rd_isiC (.ins ha SI.cl SI.ha SI.hn SI.ht SI.hm) SI.self ?_
    walk_at "rdF"
    refine ⟨a, dx, _, rfl, ha, U, a, _, _, rfl, hw, fun p0 xs H1 s1 n0 hp hx => ?_⟩
    have hl1 : R H1 (.ref p0) (.list ((sortL L0).map lampD)) := .lst trivial hp (hx.less fun _ _ => trivial)
    walk_at "rdF"
    refine ⟨a, dx, _, rfl, s1 _ _ ha, U, a, _, _, rfl, hw.same s1, fun p1 ys n1 hy => ?_⟩
    have s2 := same_new (o := .lst ys) n1
    have hl2 : R (upd H1 p1 (.lst ys)) (.ref p1) (.list ((sortB B0).map BR.d)) := .lst trivial upd_same ((hy.same s2).less fun _ _ => trivial)
    generalize upd H1 p1 (.lst ys) = H2 at *
    walk_at "rdF"
    refine ⟨sz (by simp), fun p2 n2 => ?_⟩
    have s3 := same_new (o := .lst [V.ref p0, V.ref p1]) n2
    have hl3 : R (upd H2 p2 (.lst [V.ref p0, V.ref p1])) (.ref p2) (.list [.list ((sortL L0).map lampD), .list ((sortB B0).map BR.d)]) := .lst trivial upd_same (.cons (hl1.same (s2.trans s3)) (.cons (hl2.same s3) .nil))
    generalize upd H2 p2 (.lst [V.ref p0, V.ref p1]) = H3 at *
    have s03 := (s1.trans s2).trans s3
    walk_at "rdF"
    have lB := rt.l16
    have lL := rt.l10
    refine ⟨v, L0, B0, rest, rfl, hv.same s03, rt.dl, rt.db, by omega, fun r hr => (rt.okB r hr).2, fun p4 H4 s4 n4 hk => ?_⟩
    walk_at "rdF"
    refine ⟨_, _, _, rfl, hl3.same s4, hk, ?_, fun H5 s5 => h H5 ((s03.trans s4).trans s5)⟩
    refine ⟨by simp, fun e he => ?_⟩
    simp at he
    rcases he with rfl | rfl
    · exact okd_map (by rw [srt_len]; omega) fun r _ => okd_lamp
    · exact okd_map (by rw [srt_len, List.length_map]; omega) fun r _ => okd_bond
theorem nodup_inj {α : Type} {f : α → Str} : ∀ {l : List α}, (l.map f).Nodup → ∀ x ∈ l, ∀ y ∈ l, f x = f y → x = y
  | [], _, _, h, _, _, _ => by cases h
  | z :: l, nd, x, hx, y, hy, e => by
    obtain ⟨n1, n2⟩ := List.nodup_cons.mp (show (f z :: l.map f).Nodup from nd)
    rcases List.mem_cons.mp hx with hx | hx <;> rcases List.mem_cons.mp hy with hy | hy
    · rw [hx, hy]
    · exact absurd (by rw [← hx, e]; exact List.mem_map_of_mem hy) n1
    · exact absurd (by rw [← hy, ← e]; exact List.mem_map_of_mem hx) n1
    · exact nodup_inj n2 x hx y hy e
abbrev gApp : List V → List V → List V := fun vs zs => vs ++ zs
abbrev gRev : List V → List V → List V := fun vs zs => vs ++ zs.reverse
def spIsBond (C CS : Addr) : Sp := fun vs H Q _ => ∃ (U : Addr → Prop) (a : Addr) (L : List (Str × V)) (B : List BR) (e lv : V) (r : BR) (ns : List Int), vs = [.ref a, e, lv] ∧ WebV U C CS H a L B ∧ r ∈ B ∧ R H e r.d ∧ R H lv (.list (ns.map PyData.int)) ∧ (∀ n ∈ ns, InR n) ∧ ns.length ≤ 1000 ∧ ∀ H', Same H H' → Q (.bl true) H'
theorem ok_is_bond {k : Nat} {f : Addr} {fd : FuncData} (F : Fun K "_law_is_bond" "_law_is_bond" s_law_is_bond f fd) (T : Blt mg) (SI : SpI K CS) (SS : SpC K CS) (gS : mg "Span" = some (.ref CS)) (cl_Web : Cls K C) (H_law_alike : Has P w K mg base "_law_alike" k ["left", "right"] (spAlike 3))
    (HT_Web_span : HasMt P w K mg base (L2.CX P w) C "span" k ["self", "bond"] (spWSpan C CS CU)) (HT_Web_span_bond : HasMtN P w K mg base (L2.CX P w) C "span" k 0 ["self", "bond"] ["bond"] gApp (spWSpan C CS CU))
    (HT_Web_lets : HasMt P w K mg base (L2.CX P w) C "lets" k ["self", "bond", "light"] (spWLets C CS CE CU)) (HT_Web_lets_light_bond : HasMtN P w K mg base (L2.CX P w) C "lets" k 0 ["self", "bond", "light"] ["light", "bond"] gRev (spWLets C CS CE CU))
    (HT_Web_ends : HasMt P w K mg base (L2.CX P w) C "ends" k ["self", "bond"] (spWEnds C CS CU)) (HT_Web_ends_bond : HasMtN P w K mg base (L2.CX P w) C "ends" k 0 ["self", "bond"] ["bond"] gApp (spWEnds C CS CU))
    (HT_Web_across : HasMt P w K mg base (L2.CX P w) C "across" k ["self", "bond", "lamp"] (spWAcross C CS CU)) (HT_Web_across_lamp_bond : HasMtN P w K mg base (L2.CX P w) C "across" k 0 ["self", "bond", "lamp"] ["lamp", "bond"] gRev (spWAcross C CS CU)) : FnOk P w K mg base CX0 (k + 1) f fd ["web", "edge", "lights"] (spIsBond C CS) := by
  refine F.ok sc_law_is_bond (fun vs H Q E h => ?_) (fun cdv A outer s H vs Q E hr h => ?_)
  · obtain ⟨U, a, L, B, e, lv, r, ns, rfl, _⟩ := h; rfl
  · obtain ⟨U, a, L, B, e, lv, r, ns, rfl, hw, hr', he, hl, hn, ln, h⟩ := h
    obtain ⟨dx, c, b, e0, s, oc, oe, os, g, q, ua, ha, uc, hc, hb, ue, he0, hg, us, hs, hq⟩ := hw.at_.ex
    have scr := hw.ok.rt.okB r hr'
    refine ⟨_, (C8.pss_cut (ps_for PassesOwn.never rfl (pi_list (pe_lst (pa_cons (pe_mt HT_Web_span cl_Web (pv 0) hr (fun σ => passAt takes0 σ) (pa_cons (pe_ix (ix_seqR (K := K) rfl) (pv 1) pe_int (fun _ _ => rfl)) pa_nil)) (pa_cons (pe_mtK (ks := ["bond"]) HT_Web_span_bond cl_Web (pv 0) hr (fun σ => passAt takes0 σ) (pk_cons (pe_ix (ix_seqR (K := K) rfl) (pv 1) pe_int (fun _ _ => rfl)) pk_nil)) pa_nil)))) (pg_name (i := 3) sc_law_is_bond.nd rfl (.inl rfl)) (pss_one (ps_if (PW.pt (pw_or (pt_not (pt_val (pe_callB (call_isiR (K := K) rfl) (by rfl) T.isinstance (by decide +kernel) (pa_cons (pv 3) (pa_cons (pe_globC rfl gS) pa_nil))))) (pw_or1 (pt_not (pt_val (pe_callH H_law_alike hr (by rfl) (pa_cons (pe_lst (pa_cons (pe_fld (pv 3) rfl) (pa_cons (pe_fld (pv 3) rfl) pa_nil))) (pa_cons (pe_lst (pa_cons (pe_ix (ix_seqR (K := K) rfl) (pv 1) pe_int (fun _ _ => rfl)) (pa_cons (pe_ix (ix_seqR (K := K) rfl) (pv 1) pe_int (fun _ _ => rfl)) pa_nil))) pa_nil)))))))) (pss_one (ps_ret pe_bl)) pss_nil)))
 (C8.pss_cut (ps_for PassesOwn.never rfl (pi_seq (pv 2)) (pg_name (i := 4) sc_law_is_bond.nd rfl (.inl rfl)) (C8.pss_cut (ps_set (i := 5) sc_law_is_bond.nd rfl (.inl rfl) (pe_and (pe_or (pe_cmpR op_isN (pe_ix (ix_seqR (K := K) rfl) (pv 1) pe_int (fun _ _ => rfl)) pe_non (nomark _)) (pe_one (pe_cmpR op_le (pe_ix (ix_seqR (K := K) rfl) (pv 1) pe_int (fun _ _ => rfl)) (pv 4) (nomark _)))) (pe_one (pe_or (pe_cmpR op_isN (pe_ix (ix_seqR (K := K) rfl) (pv 1) pe_int (fun _ _ => rfl)) pe_non (nomark _)) (pe_one (pe_cmpR op_le (pv 4) (pe_ix (ix_seqR (K := K) rfl) (pv 1) pe_int (fun _ _ => rfl)) (nomark _)))))))
 (pss_one (ps_if (pt_not (pt_val (pe_callH H_law_alike hr (by rfl) (pa_cons (pe_lst (pa_cons (pe_mt HT_Web_lets cl_Web (pv 0) hr (fun σ => passAt takes0 σ) (pa_cons (pe_ix (ix_seqR (K := K) rfl) (pv 1) pe_int (fun _ _ => rfl)) (pa_cons (pv 4) pa_nil))) (pa_cons (pe_mtK (ks := ["light", "bond"]) HT_Web_lets_light_bond cl_Web (pv 0) hr (fun σ => passAt takes0 σ) (pk_cons (pv 4) (pk_cons (pe_ix (ix_seqR (K := K) rfl) (pv 1) pe_int (fun _ _ => rfl)) pk_nil))) pa_nil))) (pa_cons (pe_lst (pa_cons (pv 5) (pa_cons (pv 5) pa_nil))) pa_nil))))) (pss_one (ps_ret pe_bl)) pss_nil))))
 (pss_cons (ps_set (i := 6) sc_law_is_bond.nd rfl (.inl rfl) (pe_lst (pa_cons (pe_mt HT_Web_ends cl_Web (pv 0) hr (fun σ => passAt takes0 σ) (pa_cons (pe_ix (ix_seqR (K := K) rfl) (pv 1) pe_int (fun _ _ => rfl)) pa_nil)) (pa_cons (pe_mt HT_Web_across cl_Web (pv 0) hr (fun σ => passAt takes0 σ) (pa_cons (pe_ix (ix_seqR (K := K) rfl) (pv 1) pe_int (fun _ _ => rfl)) (pa_cons (pe_ix (ix_seqR (K := K) rfl) (pv 1) pe_int (fun _ _ => rfl)) pa_nil))) (pa_cons (pe_mtK (ks := ["lamp", "bond"]) HT_Web_across_lamp_bond cl_Web (pv 0) hr (fun σ => passAt takes0 σ) (pk_cons (pe_ix (ix_seqR (K := K) rfl) (pv 1) pe_int (fun _ _ => rfl)) (pk_cons (pe_ix (ix_seqR (K := K) rfl) (pv 1) pe_int (fun _ _ => rfl)) pk_nil))) pa_nil)))))
 (pss_one (ps_ret (pe_callH H_law_alike hr (by rfl) (pa_cons (pe_op op_cat (pv 6) (pe_lst (pa_cons (pe_mtK (ks := ["bond"]) HT_Web_ends_bond cl_Web (pv 0) hr (fun σ => passAt takes0 σ) (pk_cons (pe_ix (ix_seqR (K := K) rfl) (pv 1) pe_int (fun _ _ => rfl)) pk_nil)) pa_nil))) (pa_cons (pe_lst (pa_cons (pe_tup (pa_cons (pe_ix (ix_seqR (K := K) rfl) (pv 1) pe_int (fun _ _ => rfl)) (pa_cons (pe_ix (ix_seqR (K := K) rfl) (pv 1) pe_int (fun _ _ => rfl)) pa_nil))) (pa_cons (pe_ix (ix_seqR (K := K) rfl) (pv 1) pe_int (fun _ _ => rfl)) (pa_cons (pe_ix (ix_seqR (K := K) rfl) (pv 1) pe_int (fun _ _ => rfl)) (pa_cons (pe_tup (pa_cons (pe_ix (ix_seqR (K := K) rfl) (pv 1) pe_int (fun _ _ => rfl)) (pa_cons (pe_ix (ix_seqR (K := K) rfl) (pv 1) pe_int (fun _ _ => rfl)) pa_nil))) pa_nil))))) pa_nil)))))))), ?_⟩
    walk_at "rdF"
    refine rd_cut (fun σ' H' => ∃ y3, σ' = [some (.ref a), some e, some lv, y3, none, none, none] ∧ Same H H') ?_ ?_
    · walk_at "rdF"
      refine ⟨a, dx, _, rfl, ha, by rfl, ?_⟩
      walk_at "rdF"
      refine rep_ix he rfl (by decide) rfl fun u1 h1 => ?_
      cases h1.strI
      refine ⟨U, a, L, B, r.n, rfl, hw, fun r1 hr1 en v1 hv1 => ?_, fun hn => absurd (List.mem_map_of_mem hr') hn⟩
      obtain rfl := nodup_inj hw.ok.rt.db r1 hr1 r hr' en
      walk_at "rdF"
      refine ⟨a, dx, _, rfl, ha, by rfl, ?_⟩
      walk_at "rdF"
      refine rep_ix he rfl (by decide) rfl fun u1 h1 => ?_
      cases h1.strI
      refine ⟨rfl, rfl, U, a, L, B, r1.n, rfl, hw, fun r hr2 en2 v2 hv2 => ?_, fun hn => absurd (List.mem_map_of_mem hr') hn⟩
      obtain rfl := nodup_inj hw.ok.rt.db r hr2 r1 hr' en2
      walk_at "rdF"
      refine ⟨sz (by simp), fun p np => ?_⟩
      have s1 := same_new (o := .lst [v1, v2]) np
      refine ⟨p, rfl, ⟨_, sl_of upd_same⟩, L2.for_list (xs := [v1, v2]) (fun i σ' H' => ∃ y3, σ' = [some (.ref a), some e, some lv, y3, none, none, none] ∧ Same (upd H p (.lst [v1, v2])) H') ⟨_, rfl, Same.refl _⟩ (fun i σ' H' _ h => ?_) ?_ ?_⟩
      · obtain ⟨_, _, sm⟩ := h
        exact sl_of (sm _ _ upd_same)
      · rintro i v σ' H' hv ⟨y3, rfl, sm⟩
        have s2 := s1.trans sm
        have hsp : SpanAt U CS H v r.l r.h := by
          match i with
          | 0 => simp at hv; rw [← hv]; exact hv1
          | 1 => simp at hv; rw [← hv]; exact hv2
          | i + 2 => simp at hv
        obtain ⟨sp, dp, rfl, _, hsp⟩ := hsp
        walk_at "rdF"
        refine rd_isiC (.ins (s2 _ _ hsp) SI.cl SI.ha SI.hn SI.ht SI.hm) SI.self ?_
        walk_at "rdF"
        refine ⟨sp, CS, dp, _, _, rfl, s2 _ _ hsp, SS.cl, SS.nl, spn_low, ?_⟩
        walk_at "rdF"
        refine ⟨sp, CS, dp, _, _, rfl, s2 _ _ hsp, SS.cl, SS.nh, spn_high, ?_⟩
        walk_at "rdF"
        refine ⟨sz (by simp), fun p2 n2 => ?_⟩
        have s3 := same_new (o := .lst [r.l, r.h]) n2
        have he3 := (he.same s2).same s3
        have k1 : R (upd H' p2 (.lst [r.l, r.h])) (.ref p2) (.list [vD r.l, vD r.h]) := .lst trivial upd_same (.cons (.sc scr.2.1) (.cons (.sc scr.2.2) .nil))
        generalize upd H' p2 (.lst [r.l, r.h]) = H2 at *
        walk_at "rdF"
        refine rep_ix he3 rfl (by decide) rfl fun u3 h3 => ?_
        cases h3.scI scr.2.1
        walk_at "rdF"
        refine rep_ix he3 rfl (by decide) rfl fun u4 h4 => ?_
        cases h4.scI scr.2.2
        walk_at "rdF"
        refine ⟨sz (by simp), fun p3 n3 => ?_⟩
        have s4 := same_new (o := .lst [r.l, r.h]) n3
        have k2 : R (upd H2 p3 (.lst [r.l, r.h])) (.ref p3) (.list [vD r.l, vD r.h]) := .lst trivial upd_same (.cons (.sc scr.2.1) (.cons (.sc scr.2.2) .nil))
        walk_at "rdF"
        refine ⟨_, _, _, rfl, k1.same s4, k2, ⟨by simp, fun e he => ?_⟩, fun H5 s5 => ?_⟩
        · simp at he
          rcases he with rfl | rfl <;> exact okd_sc
        · walk_at "rdF"
          exact ⟨_, rfl, ((sm.trans s3).trans s4).trans s5⟩
      · rintro σ' H' ⟨y3, rfl, sm⟩
        walk_at "rdF"
        exact ⟨_, rfl, s1.trans sm⟩
    · rintro σ1 H1 ⟨y3, rfl, s1⟩
      have nl := hw.ok.niB r hr'
      refine rd_cut (fun σ' H' => ∃ y4 y5, σ' = [some (.ref a), some e, some lv, y3, y4, y5, none] ∧ Same H H') ?_ ?_
      · walk_at "rdF"
        refine for_seqR (.inl (hl.same s1)) rfl (fun i σ' H' => ∃ y4 y5, σ' = [some (.ref a), some e, some lv, y3, y4, y5, none] ∧ Same H1 H') ⟨_, _, rfl, Same.refl _⟩ (fun i σ' H' h => ?_) ?_ ?_
        · obtain ⟨_, _, _, sm⟩ := h
          exact .same sm
        · rintro i x d σ' H' hd hx ⟨y4, y5, rfl, sm⟩
          have hd : (ns.map PyData.int)[i]? = some d := hd
          rw [List.getElem?_map] at hd
          cases qi : ns[i]? with
          | none => rw [qi] at hd; cases hd
          | some n =>
            rw [qi] at hd
            cases hd
            cases hx.intI
            have hin := hn n (List.mem_of_getElem? qi)
            have s2 := s1.trans sm
            have he2 := he.same s2
            walk_at "rdF"
            refine rd_cut (fun σ'' H'' => σ'' = [some (.ref a), some e, some lv, y3, some (.int n), some (.bl (lets_ r.l r.h n)), none] ∧ H'' = H') ?_ ?_
            · obtain ⟨rn, rx, ry, rl, rh⟩ := r
              obtain ⟨n1, n2⟩ := nl
              have n1 : rl = .non ∨ ∃ i, rl = .int i := n1
              have n2 : rh = .non ∨ ∃ i, rh = .int i := n2
              have two : ∀ {R : V → Hp → Prop}, R rh H' → rIx K e (.int 4) H' R := fun h => rep_ix he2 rfl (by decide) rfl fun u h4 => by cases h4.scI scr.2.2; exact h
              have one : ∀ {R : V → Hp → Prop}, R rl H' → rIx K e (.int 3) H' R := fun h => rep_ix he2 rfl (by decide) rfl fun u h4 => by cases h4.scI scr.2.1; exact h
              walk_at "rdF"
              refine one ?_
              rcases n1 with rfl | ⟨i1, rfl⟩
              · walk_at "rdF"
                refine two ?_
                rcases n2 with rfl | ⟨i2, rfl⟩
                · walk_at "rdF"
                  exact ⟨rfl, rfl⟩
                · walk_at "rdF"
                  refine two ?_
                  walk_at "rdF"
                  exact ⟨by simp [lets_], rfl⟩
              · walk_at "rdF"
                refine one ?_
                walk_at "rdF"
                refine if_dec (fun c1 => ?_) (fun c1 => ?_)
                · walk_at "rdF"
                  refine two ?_
                  rcases n2 with rfl | ⟨i2, rfl⟩
                  · walk_at "rdF"
                    exact ⟨by simp [lets_, c1], rfl⟩
                  · walk_at "rdF"
                    refine two ?_
                    walk_at "rdF"
                    exact ⟨by simp [lets_, c1], rfl⟩
                · walk_at "rdF"
                  exact ⟨by simp [lets_, c1], rfl⟩
            · rintro σ'' H'' ⟨rfl, rfl⟩
              walk_at "rdF"
              refine ⟨a, dx, _, rfl, s2 _ _ ha, by rfl, ?_⟩
              walk_at "rdF"
              refine rep_ix he2 rfl (by decide) rfl fun u1 h1 => ?_
              cases h1.strI
              walk_at "rdF"
              refine ⟨U, a, L, B, r.n, .int n, rfl, hw.same s2, trivial, fun o => absurd hin (of_decide_eq_false o), fun _ hn => absurd (List.mem_map_of_mem hr') hn, fun _ m em r1 hr1 en => ?_⟩
              obtain rfl := V.int.inj em
              obtain rfl := nodup_inj hw.ok.rt.db r1 hr1 r hr' en
              walk_at "rdF"
              refine ⟨a, dx, _, rfl, s2 _ _ ha, by rfl, ?_⟩
              walk_at "rdF"
              refine rep_ix he2 rfl (by decide) rfl fun u1 h1 => ?_
              cases h1.strI
              walk_at "rdF"
              refine ⟨rfl, rfl, U, a, L, B, r1.n, .int n, rfl, hw.same s2, trivial, fun o => absurd hin (of_decide_eq_false o), fun _ hn => absurd (List.mem_map_of_mem hr') hn, fun _ m em r2 hr2 en2 => ?_⟩
              obtain rfl := V.int.inj em
              obtain rfl := nodup_inj hw.ok.rt.db r2 hr2 r1 hr' en2
              walk_at "rdF"
              refine ⟨sz (by simp), fun p2 n2 => ?_⟩
              have s3 := same_new (o := .lst [.bl (lets_ r2.l r2.h n), .bl (lets_ r2.l r2.h n)]) n2
              have k1 : R (upd H'' p2 (.lst [.bl (lets_ r2.l r2.h n), .bl (lets_ r2.l r2.h n)])) (.ref p2) (.list [.bool (lets_ r2.l r2.h n), .bool (lets_ r2.l r2.h n)]) := .lst trivial upd_same (.cons (.bl _) (.cons (.bl _) .nil))
              generalize upd H'' p2 (.lst [.bl (lets_ r2.l r2.h n), .bl (lets_ r2.l r2.h n)]) = H3 at *
              walk_at "rdF"
              refine ⟨sz (by simp), fun p3 n3 => ?_⟩
              have s4 := same_new (o := .lst [.bl (lets_ r2.l r2.h n), .bl (lets_ r2.l r2.h n)]) n3
              have k2 : R (upd H3 p3 (.lst [.bl (lets_ r2.l r2.h n), .bl (lets_ r2.l r2.h n)])) (.ref p3) (.list [.bool (lets_ r2.l r2.h n), .bool (lets_ r2.l r2.h n)]) := .lst trivial upd_same (.cons (.bl _) (.cons (.bl _) .nil))
              walk_at "rdF"
              refine ⟨_, _, _, rfl, k1.same s4, k2, ⟨by simp, fun e he => ?_⟩, fun H5 s5 => ?_⟩
              · simp at he
                rw [he]; exact okd_bool
              · walk_at "rdF"
                exact ⟨_, _, rfl, ((sm.trans s3).trans s4).trans s5⟩
        · rintro σ' H' ⟨y4, y5, rfl, sm⟩
          walk_at "rdF"
          exact ⟨_, _, rfl, s1.trans sm⟩
      · rintro σ2 H2 ⟨y4, y5, rfl, s2⟩
        have he2 := he.same s2
        have hw2 := hw.same s2
        have ha2 := s2 _ _ ha
        have ix0 : ∀ {H' : Hp} {R : V → Hp → Prop}, Same H2 H' → R (.str r.n) H' → rIx K e (.int 0) H' R := fun s h => rep_ix (he2.same s) rfl (by decide) rfl fun u h4 => by cases h4.strI; exact h
        have ix1 : ∀ {H' : Hp} {R : V → Hp → Prop}, Same H2 H' → R (.str r.x) H' → rIx K e (.int 1) H' R := fun s h => rep_ix (he2.same s) rfl (by decide) rfl fun u h4 => by cases h4.strI; exact h
        have ix2 : ∀ {H' : Hp} {R : V → Hp → Prop}, Same H2 H' → R (.str r.y) H' → rIx K e (.int 2) H' R := fun s h => rep_ix (he2.same s) rfl (by decide) rfl fun u h4 => by cases h4.strI; exact h
        have hb := List.mem_map_of_mem (f := BR.n) hr'
        have sf := hw.ok.rt.sf r hr'
        walk_at "rdF"
        refine ⟨a, dx, _, rfl, ha2, by rfl, ?_⟩
        walk_at "rdF"
        refine ix0 (Same.refl _) ?_
        refine ⟨U, a, L, B, r.n, rfl, hw2, fun r1 hr1 en v1 hv1 => ?_, fun hn => absurd hb hn⟩
        obtain rfl := nodup_inj hw.ok.rt.db r1 hr1 r hr' en
        walk_at "rdF"
        refine ⟨a, dx, _, rfl, ha2, by rfl, ?_⟩
        walk_at "rdF"
        refine ix0 (Same.refl _) ?_
        walk_at "rdF"
        refine ix1 (Same.refl _) ?_
        refine ⟨U, a, L, B, r1.n, r1.x, rfl, hw2, fun r2 hr2 en2 => ⟨fun e1 => ?_, fun e1 => ?_, fun e1 => ?_⟩, fun hn => absurd hb hn⟩
        rotate_left
        · intro e2
          obtain rfl := nodup_inj hw.ok.rt.db r2 hr2 r1 hr' en2
          exact absurd rfl e1
        · intro e2
          obtain rfl := nodup_inj hw.ok.rt.db r2 hr2 r1 hr' en2
          exact absurd rfl e1
        obtain rfl := nodup_inj hw.ok.rt.db r2 hr2 r1 hr' en2
        walk_at "rdF"
        refine ⟨a, dx, _, rfl, ha2, by rfl, ?_⟩
        walk_at "rdF"
        refine ix2 (Same.refl _) ?_
        walk_at "rdF"
        refine ix0 (Same.refl _) ?_
        refine ⟨rfl, rfl, U, a, L, B, r2.n, r2.y, rfl, hw2, fun r3 hr3 en3 => ⟨fun e1 => ?_, fun e1 e2 => ?_, fun e1 e2 => ?_⟩, fun hn => absurd hb hn⟩
        · obtain rfl := nodup_inj hw.ok.rt.db r3 hr3 r2 hr' en3
          exact absurd e1.symm sf
        rotate_left
        · obtain rfl := nodup_inj hw.ok.rt.db r3 hr3 r2 hr' en3
          exact absurd rfl e2
        obtain rfl := nodup_inj hw.ok.rt.db r3 hr3 r2 hr' en3
        walk_at "rdF"
        refine ⟨sz (by simp), fun p2 n2 => ?_⟩
        walk_at "rdF"
        have s3 := same_new (o := .lst [v1, .str r3.y, .str r3.x]) n2
        have hp2 := @upd_same H2 p2 (.lst [v1, .str r3.y, .str r3.x])
        generalize upd H2 p2 (.lst [v1, .str r3.y, .str r3.x]) = H3 at *
        refine ⟨a, dx, _, rfl, s3 _ _ ha2, by rfl, ?_⟩
        walk_at "rdF"
        refine ix0 s3 ?_
        refine ⟨rfl, rfl, U, a, L, B, r3.n, rfl, hw2.same s3, fun r4 hr4 en4 v4 hv4 => ?_, fun hn => absurd hb hn⟩
        obtain rfl := nodup_inj hw.ok.rt.db r4 hr4 r3 hr' en4
        walk_at "rdF"
        refine ⟨sz (by simp), fun p3 n3 => ?_⟩
        have s4 := same_new (o := .lst [v4]) n3
        have hp3 := @upd_same H3 p3 (.lst [v4])
        have hv4' := hv4.same s4
        generalize upd H3 p3 (.lst [v4]) = H4 at *
        refine ⟨p2, p3, _, _, rfl, rfl, s4 _ _ hp2, hp3, sz (by simp), fun p4 n4 => ?_⟩
        have s5 := same_new (o := .lst ([v1, .str r4.y, .str r4.x] ++ [v4])) n4
        have k1 : R (upd H4 p4 (.lst ([v1, .str r4.y, .str r4.x] ++ [v4]))) (.ref p4) (.list [.tuple [.str r4.x, .str r4.y], .str r4.y, .str r4.x, .tuple [.str r4.x, .str r4.y]]) := .lst trivial upd_same (.cons ((hv1.same ((s3.trans s4).trans s5)).less fun _ _ => trivial) (.cons (.str _) (.cons (.str _) (.cons ((hv4'.same s5).less fun _ _ => trivial) .nil))))
        generalize upd H4 p4 (.lst ([v1, .str r4.y, .str r4.x] ++ [v4])) = H5 at *
        have s25 := (s3.trans s4).trans s5
        walk_at "rdF"
        refine ix1 s25 ?_
        walk_at "rdF"
        refine ix2 s25 ?_
        walk_at "rdF"
        refine ⟨sz (by simp), fun p5 n5 => ?_⟩
        have s6 := same_new (o := .tup [.str r4.x, .str r4.y]) n5
        have k5 : R (upd H5 p5 (.tup [.str r4.x, .str r4.y])) (.ref p5) (.tuple [.str r4.x, .str r4.y]) := .tup trivial upd_same (.cons (.str _) (.cons (.str _) .nil))
        generalize upd H5 p5 (.tup [.str r4.x, .str r4.y]) = H6 at *
        have s26 := s25.trans s6
        walk_at "rdF"
        refine ix2 s26 ?_
        walk_at "rdF"
        refine ix1 s26 ?_
        walk_at "rdF"
        refine ix1 s26 ?_
        walk_at "rdF"
        refine ix2 s26 ?_
        walk_at "rdF"
        refine ⟨sz (by simp), fun p6 n6 => ?_⟩
        have s7 := same_new (o := .tup [.str r4.x, .str r4.y]) n6
        have k6 : R (upd H6 p6 (.tup [.str r4.x, .str r4.y])) (.ref p6) (.tuple [.str r4.x, .str r4.y]) := .tup trivial upd_same (.cons (.str _) (.cons (.str _) .nil))
        generalize upd H6 p6 (.tup [.str r4.x, .str r4.y]) = H7 at *
        walk_at "rdF"
        refine ⟨sz (by simp), fun p7 n7 => ?_⟩
        have s8 := same_new (o := .lst [.ref p5, .str r4.y, .str r4.x, .ref p6]) n7
        have k7 : R (upd H7 p7 (.lst [.ref p5, .str r4.y, .str r4.x, .ref p6])) (.ref p7) (.list [.tuple [.str r4.x, .str r4.y], .str r4.y, .str r4.x, .tuple [.str r4.x, .str r4.y]]) := .lst trivial upd_same (.cons ((k5.same s7).same s8) (.cons (.str _) (.cons (.str _) (.cons (k6.same s8) .nil))))
        walk_at "rdF"
        refine ⟨_, _, _, rfl, ((k1.same s6).same s7).same s8, k7, ⟨by simp, fun e he => ?_⟩, fun H9 s9 => h H9 ((s2.trans ((s26.trans s7).trans s8)).trans s9)⟩
        have two : ∀ {n : Nat} {x y : Str}, Okd (n + 1) (.tuple [.str x, .str y]) := fun {n x y} => ⟨by simp, fun e he => by
          simp at he
          rcases he with rfl | rfl <;> exact okd_str⟩
        simp at he
        rcases he with rfl | rfl | rfl | rfl <;> first | exact two | exact okd_str
end
set_option maxHeartbeats 2000000
abbrev s_law_is_web : Stmt := topS 64
theorem sc_law_is_web : FnScope ["web", "plan", "lights", "edges", "posts", "one", "told", "node", "tied", "edge", "post"] ["web", "plan", "lights"] (defScope s_law_is_web) := ⟨rfl, rfl, rfl, by decide +kernel, rfl, by decide +kernel, by decide +kernel⟩
section
variable {P : Program} {w : World} {K : PySem.W.Frag} {mg : Str → Option Value} {base : Heap} {C CS CE CB CU : Addr}
def touch (z : Str) (e : PyData) : Bool := match kids e with
  | [_, .str x, .str y, _, _] => decide (z ∈ [x, y])
  | _ => false
theorem touch_rows {z : Str} {B : List BR} : ((B.map BR.d).filter (touch z)).map (fun e => (kids e).getD 0 .none) = (bondsOf B z).map PyData.str := by
  unfold bondsOf
  rw [List.filter_map, List.map_map, List.map_map]; rfl
def spIsWeb (C CS : Addr) : Sp := fun vs H Q _ => ∃ (a : Addr) (v lv : V) (L0 : List (Str × V)) (B0 : List BR) (rest : List PyData) (ns : List Int), vs = [.ref a, v, lv] ∧ Keeps C CS H a L0 B0 ∧ R H v (planD L0 B0 rest) ∧ Right L0 B0 ∧ R H lv (.list (ns.map PyData.int)) ∧ (∀ n ∈ ns, InR n) ∧ ns.length ≤ 1000 ∧ ∀ H', Same H H' → Q (.bl true) H'
theorem ok_is_web {k j : Nat} {f : Addr} {fd : FuncData} (F : Fun K "_law_is_web" "_law_is_web" s_law_is_web f fd) (T : Blt mg) (cl_Web : Cls K C) (HI_Web : HasIt P w K mg base C "_ceilings" j)
    (H_law_alike : Has P w K mg base "_law_alike" k ["left", "right"] (spAlike 3)) (H_law_has_rows : Has P w K mg base "_law_has_rows" k ["web", "plan"] (spHasRows C CS)) (H_law_kept_rows : Has P w K mg base "_law_kept_rows" k ["plan"] spKeptRows) (H_law_posts : Has P w K mg base "_law_posts" k ["plan"] spPosts) (H_law_is_bond : Has P w K mg base "_law_is_bond" k ["web", "edge", "lights"] (spIsBond C CS))
    (HP_Web_lamps : HasPr P w K mg base CX0 C "lamps" j ["self"] (spWLamps C CS)) (HP_Web_bonds : HasPr P w K mg base CX0 C "bonds" j ["self"] (spWBonds C CS)) (HM_Web_contains : HasM P w K mg base CX0 C "__contains__" k ["self", "lamp"] (spWHas C CS))
    (HT_Web_ceiling : HasMt P w K mg base (L2.CX P w) C "ceiling" k ["self", "lamp"] (spWCeil C CS CU)) (HT_Web_ceiling_lamp : HasMtN P w K mg base (L2.CX P w) C "ceiling" k 0 ["self", "lamp"] ["lamp"] gApp (spWCeil C CS CU))
    (HT_Web_bonds_of : HasMt P w K mg base (L2.CX P w) C "bonds_of" k ["self", "lamp"] (spWBondsOf C CS CU)) (HT_Web_bonds_of_lamp : HasMtN P w K mg base (L2.CX P w) C "bonds_of" k 0 ["self", "lamp"] ["lamp"] gApp (spWBondsOf C CS CU)) (hk : j + 2 ≤ k) : FnOk P w K mg base CX0 (k + 1) f fd ["web", "plan", "lights"] (spIsWeb C CS) := by
  refine F.ok sc_law_is_web (fun vs H Q E h => ?_) (fun cdv A outer s H vs Q E hr h => ?_)
  · obtain ⟨a, v, lv, L0, B0, rest, ns, rfl, _⟩ := h; rfl
  · obtain ⟨a, v, lv, L0, B0, rest, ns, rfl, kw, hv, rt, hl, hn, ln, h⟩ := h
    refine ⟨_, (pss_cons (ps_if (pt_not (pt_val (pe_callH H_law_has_rows hr (by rfl) (pa_cons (pv 0) (pa_cons (pv 1) pa_nil))))) (pss_one (ps_ret pe_bl)) pss_nil)
 (pss_cons (ps_set (i := 3) sc_law_is_web.nd rfl (.inl rfl) (pe_ix (ix_seqR (K := K) rfl) (pe_callH H_law_kept_rows hr (by rfl) (pa_cons (pv 1) pa_nil)) pe_int (fun _ _ => rfl)))
 (pss_cons (ps_set (i := 4) sc_law_is_web.nd rfl (.inr rfl) (pe_callH H_law_posts hr (by rfl) (pa_cons (pv 1) pa_nil)))
 (C8.pss_cut (ps_if (pt_not (pt_val (pe_callH H_law_alike hr (by rfl) (pa_cons (pe_lst (pa_cons (pe_propH HP_Web_lamps cl_Web (pv 0) (hr.mono (by omega)) pass0) (pa_cons (pe_propH HP_Web_bonds cl_Web (pv 0) (hr.mono (by omega)) pass0) (pa_cons (pe_callTy (call_listIt HI_Web (hr.mono (by omega)) (by rfl)) (by rfl) T.list' (by decide +kernel) (pa_cons (pv 0) pa_nil)) pa_nil)))) (pa_cons (pe_lst (pa_cons (pv 4) (pa_cons (pe_lc (own := [("edge", 9)]) (g := (gName 9)) (by rfl) sc_law_is_web.nd (pi_seq (pv 3)) (blkOk_by (own := [("edge", 9)]) (N := ["web", "plan", "lights", "edges", "posts", "one", "told", "node", "tied", "edge", "post"]) (sc := defScope s_law_is_web) (by decide +kernel)) (fun _ _ _ _ _ => (pg_name (i := 9) sc_law_is_web.nd rfl (.inl rfl))) (fun _ _ _ _ _ => pts_nil) (fun _ _ _ _ _ => (pe_ix (ix_seqR (K := K) rfl) (pv 9) pe_int (fun _ _ => rfl)))) (pa_cons (pv 4) pa_nil)))) pa_nil))))) (pss_one (ps_ret pe_bl)) pss_nil)
 (C8.pss_cut (ps_for PassesOwn.never rfl (pi_own HI_Web (hr.mono (by omega)) (pv 0)) (pg_name (i := 5) sc_law_is_web.nd rfl (.inl rfl)) (pss_one (ps_if (pt_cmpR op_ne (pv 5) (pe_ix (ix_seqR (K := K) rfl) (pv 4) pe_int (fun _ _ => rfl)) (nomark _)) (pss_one ps_break) pss_nil)))
 (pss_cons (ps_set (i := 6) sc_law_is_web.nd rfl (.inl rfl) (pe_lst pa_nil))
 (C8.pss_cut (ps_for PassesOwn.never rfl (pi_own HI_Web (hr.mono (by omega)) (pv 0)) (pg_name (i := 5) sc_law_is_web.nd rfl (.inl rfl)) (pss_one (ps_expr (pe_bm PySem.F.plainAttrs_list PySem.F.slot_list_append PySem.F.type_list_append mt_append (pv 6) (pa_cons (pe_lst (pa_cons (pv 5) (pa_cons (pe_callTy (call_listIt HI_Web (hr.mono (by omega)) (by rfl)) (by rfl) T.list' (by decide +kernel) (pa_cons (pv 0) pa_nil)) pa_nil))) pa_nil)))))
 (C8.pss_cut (ps_if (pt_not (pt_val (pe_callH H_law_alike hr (by rfl) (pa_cons (pv 6) (pa_cons (pe_lc (own := [("post", 10)]) (g := (gName 10)) (by rfl) sc_law_is_web.nd (pi_seq (pv 4)) (blkOk_by (own := [("post", 10)]) (N := ["web", "plan", "lights", "edges", "posts", "one", "told", "node", "tied", "edge", "post"]) (sc := defScope s_law_is_web) (by decide +kernel)) (fun _ _ _ _ _ => (pg_name (i := 10) sc_law_is_web.nd rfl (.inl rfl))) (fun _ _ _ _ _ => pts_nil) (fun _ _ _ _ _ => (pe_lst (pa_cons (pv 10) (pa_cons (pv 4) pa_nil))))) pa_nil))))) (pss_one (ps_ret pe_bl)) pss_nil)
 (C8.pss_cut (ps_for PassesOwn.never rfl (pi_seq (pe_ix (ix_seqR (K := K) rfl) (pv 1) pe_int (fun _ _ => rfl))) (pg_name (i := 7) sc_law_is_web.nd rfl (.inr rfl)) (pss_cons (ps_setLc (i := 8) (own := [("edge", 9)]) (g := (gName 9)) (by rfl) sc_law_is_web.nd rfl rfl (sw_true rfl rfl rfl (by decide +kernel)) (pi_seq (pv 3)) (blkOk_by (own := [("edge", 9)]) (N := ["web", "plan", "lights", "edges", "posts", "one", "told", "node", "tied", "edge", "post"]) (sc := defScope s_law_is_web) (by decide +kernel)) (fun _ _ _ _ _ => (pg_name (i := 9) sc_law_is_web.nd rfl (.inl rfl))) (fun _ _ _ _ _ => (pts_one (pt_cmpR (op_in_seqR (K := K) rfl) (pe_ix (ix_seqR (K := K) rfl) (pv 7) pe_int (fun _ _ => rfl)) (pe_tup (pa_cons (pe_ix (ix_seqR (K := K) rfl) (pv 9) pe_int (fun _ _ => rfl)) (pa_cons (pe_ix (ix_seqR (K := K) rfl) (pv 9) pe_int (fun _ _ => rfl)) pa_nil))) (by rfl)))) (fun _ _ _ _ _ => (pe_ix (ix_seqR (K := K) rfl) (pv 9) pe_int (fun _ _ => rfl))))
 (pss_cons (ps_set (i := 6) sc_law_is_web.nd rfl (.inl rfl) (pe_lst (pa_cons (pe_mt HT_Web_ceiling cl_Web (pv 0) hr (fun σ => passAt takes0 σ) (pa_cons (pe_ix (ix_seqR (K := K) rfl) (pv 7) pe_int (fun _ _ => rfl)) pa_nil)) (pa_cons (pe_mtK (ks := ["lamp"]) HT_Web_ceiling_lamp cl_Web (pv 0) hr (fun σ => passAt takes0 σ) (pk_cons (pe_ix (ix_seqR (K := K) rfl) (pv 7) pe_int (fun _ _ => rfl)) pk_nil)) (pa_cons (pe_mt HT_Web_bonds_of cl_Web (pv 0) hr (fun σ => passAt takes0 σ) (pa_cons (pe_ix (ix_seqR (K := K) rfl) (pv 7) pe_int (fun _ _ => rfl)) pa_nil)) (pa_cons (pe_mtK (ks := ["lamp"]) HT_Web_bonds_of_lamp cl_Web (pv 0) hr (fun σ => passAt takes0 σ) (pk_cons (pe_ix (ix_seqR (K := K) rfl) (pv 7) pe_int (fun _ _ => rfl)) pk_nil)) pa_nil))))))
 (pss_one (ps_if (pt_not (pt_val (pe_callH H_law_alike hr (by rfl) (pa_cons (pe_lst (pa_cons (pv 6) (pa_cons (pe_cmpR (op_inM HM_Web_contains hr pass0) (pe_ix (ix_seqR (K := K) rfl) (pv 7) pe_int (fun _ _ => rfl)) (pv 0) (by rfl)) pa_nil))) (pa_cons (pe_lst (pa_cons (pe_lst (pa_cons (pe_ix (ix_seqR (K := K) rfl) (pv 7) pe_int (fun _ _ => rfl)) (pa_cons (pe_ix (ix_seqR (K := K) rfl) (pv 7) pe_int (fun _ _ => rfl)) (pa_cons (pv 8) (pa_cons (pv 8) pa_nil))))) (pa_cons pe_bl pa_nil))) pa_nil))))) (pss_one (ps_ret pe_bl)) pss_nil)))))
 (pss_one (ps_ret (pe_cmpR op_eq (pe_callB call_len_seq (by rfl) T.len (by decide +kernel) (pa_cons (pe_lc (own := [("edge", 9)]) (g := (gName 9)) (by rfl) sc_law_is_web.nd (pi_seq (pv 3)) (blkOk_by (own := [("edge", 9)]) (N := ["web", "plan", "lights", "edges", "posts", "one", "told", "node", "tied", "edge", "post"]) (sc := defScope s_law_is_web) (by decide +kernel)) (fun _ _ _ _ _ => (pg_name (i := 9) sc_law_is_web.nd rfl (.inl rfl))) (fun _ _ _ _ _ => (pts_one (pt_not (pt_val (pe_callH H_law_is_bond hr (by rfl) (pa_cons (pv 0) (pa_cons (pv 9) (pa_cons (pv 2) pa_nil)))))))) (fun _ _ _ _ _ => (pv 9))) pa_nil)) pe_int (nomark _))))))))))))), ?_⟩
    walk_at "rdF"
    refine ⟨a, v, L0, B0, rest, rfl, kw, hv, rt, fun H1 s1 => ?_⟩
    walk_at "rdF"
    have lB := rt.l16
    have lL := rt.l10
    refine ⟨v, L0, B0, rest, rfl, hv.same s1, rt.dl, rt.db, by omega, fun r hr => (rt.okB r hr).2, fun p4 H2 s2 n4 hkr => ?_⟩
    walk_at "rdF"
    refine rep_ix hkr rfl (by decide) rfl fun ev hev => ?_
    walk_at "rdF"
    have s02 := s1.trans s2
    refine ⟨v, L0, _, rfl, hv.same s02, by omega, rt.dl, fun pp H3 s3 np hpp => ?_⟩
    have s03 := s02.trans s3
    have hev3 := hev.same s3
    obtain ⟨U, hw⟩ := (kw.same s03).ex
    have hv3 := hv.same s03
    have hl3 := hl.same s03
    have fin3 : ∀ H', Same H3 H' → Q (.bl true) H' := fun H' s => h H' (s03.trans s)
    clear h hv hl kw hkr hev
    walk_at "rdF"
    have ok := hw.ok
    obtain ⟨dx, c, b, e0, s, oc, oe, os, g, q, ua, ha, uc, hc, hb, ue, he0, hg, us, hs, hq⟩ := hw.at_.ex
    have hpps : R H3 (.ref pp) (.list ((lampNs (sortL L0)).map PyData.str)) := .lst trivial hpp .strs
    refine rd_cut (fun σ' H' => σ' = [some (.ref a), some v, some lv, some ev, some (.ref pp), none, none, none, none, none, none] ∧ Same H3 H') ?_ ?_
    · walk_at "rdF"
      refine ⟨a, dx, _, rfl, ha, U, a, _, _, rfl, hw, fun p1 n1 => ?_⟩
      have s4 := same_new (o := .lst ((lampNs (sortL L0)).map V.str)) n1
      have k1 : R (upd H3 p1 (.lst ((lampNs (sortL L0)).map V.str))) (.ref p1) (.list ((lampNs (sortL L0)).map PyData.str)) := .lst trivial upd_same .strs
      generalize upd H3 p1 (.lst ((lampNs (sortL L0)).map V.str)) = H4 at *
      walk_at "rdF"
      refine ⟨a, dx, _, rfl, s4 _ _ ha, U, a, _, _, rfl, hw.same s4, fun p2 n2 => ?_⟩
      have s5 := same_new (o := .lst ((bondNs (sortB B0)).map V.str)) n2
      have k2 : R (upd H4 p2 (.lst ((bondNs (sortB B0)).map V.str))) (.ref p2) (.list ((bondNs (sortB B0)).map PyData.str)) := .lst trivial upd_same .strs
      generalize upd H4 p2 (.lst ((bondNs (sortB B0)).map V.str)) = H5 at *
      have s35 := s4.trans s5
      walk_at "rdF"
      refine ⟨_, rfl, a, dx, c, _, oc, _, rfl, s35 _ _ ha, wf_c, s35 _ _ hc, fun p3 n3 => ?_⟩
      have ek : ((sortL L0).map fun r => ((.inr r.1 : Key), r.2)).map (fun kv => kV kv.1) = (lampNs (sortL L0)).map V.str := by rw [List.map_map, List.map_map]; rfl
      rw [ek]
      have s6 := same_new (o := .lst ((lampNs (sortL L0)).map V.str)) n3
      have k3 : R (upd H5 p3 (.lst ((lampNs (sortL L0)).map V.str))) (.ref p3) (.list ((lampNs (sortL L0)).map PyData.str)) := .lst trivial upd_same .strs
      generalize upd H5 p3 (.lst ((lampNs (sortL L0)).map V.str)) = H6 at *
      walk_at "rdF"
      refine ⟨sz (by simp), fun p4 n4 => ?_⟩
      have s7 := same_new (o := .lst [.ref p1, .ref p2, .ref p3]) n4
      have s47 := (s5.trans s6).trans s7
      have k4 : R (upd H6 p4 (.lst [.ref p1, .ref p2, .ref p3])) (.ref p4) (.list [.list ((lampNs (sortL L0)).map PyData.str), .list ((bondNs (sortB B0)).map PyData.str), .list ((lampNs (sortL L0)).map PyData.str)]) := .lst trivial upd_same (.cons (k1.same s47) (.cons (k2.same (s6.trans s7)) (.cons (k3.same s7) .nil)))
      generalize upd H6 p4 (.lst [.ref p1, .ref p2, .ref p3]) = H7 at *
      have s37 := s4.trans s47
      walk_at "rdF"
      refine lc_seq (U := fun _ => True) (fun ds => ds.map fun e => (kids e).getD 0 .none) (fun _ => True) (.inl (hev3.same s37)) rfl (fun _ _ => trivial) rfl (fun _ _ => trivial) ?_ ?_
      · rintro D i x e H' uD nD he hx hI
        have he' : ((sortB B0).map BR.d)[i]? = some e := he
        rw [List.getElem?_map] at he'
        cases qi : (sortB B0)[i]? with
        | none => rw [qi] at he'; cases he'
        | some r =>
          rw [qi] at he'
          cases he'
          refine ⟨by walk_at "wiped", ?_⟩
          walk_at "rdF"
          refine rep_ix hx rfl (by decide) rfl fun u hu => ?_
          refine hI.put .refl trivial nD (fun _ => trivial) hu ?_ ?_
          · rw [List.length_map, List.length_take]
            show min i ((sortB B0).map BR.d).length < _
            rw [List.length_map, srt_len, List.length_map]; omega
          · rw [take_succ he, List.map_append]; rfl
      · rintro p5 acc H8 e8 _ n5 hp5 hacc _
        have ea : (kids (.list ((sortB B0).map BR.d))).map (fun e => (kids e).getD 0 .none) = (bondNs (sortB B0)).map PyData.str := by
          show ((sortB B0).map BR.d).map _ = _
          rw [List.map_map, List.map_map]; rfl
        rw [ea] at hacc
        have s8 := e8.toSame
        have k5 : R H8 (.ref p5) (.list ((bondNs (sortB B0)).map PyData.str)) := .lst trivial hp5 (hacc.less fun _ _ => trivial)
        walk_at "rdF"
        refine ⟨sz (by simp), fun p6 n6 => ?_⟩
        have s9 := same_new (o := .lst [.ref pp, .ref p5, .ref pp]) n6
        have hpp9 := hpps.same ((s37.trans s8).trans s9)
        have k6 : R (upd H8 p6 (.lst [.ref pp, .ref p5, .ref pp])) (.ref p6) (.list [.list ((lampNs (sortL L0)).map PyData.str), .list ((bondNs (sortB B0)).map PyData.str), .list ((lampNs (sortL L0)).map PyData.str)]) := .lst trivial upd_same (.cons hpp9 (.cons (k5.same s9) (.cons hpp9 .nil)))
        walk_at "rdF"
        refine ⟨_, _, _, rfl, k4.same (s8.trans s9), k6, ⟨by simp, fun e he => ?_⟩, fun H10 s10 => ?_⟩
        · simp only [List.mem_cons, List.not_mem_nil, or_false] at he
          rcases he with rfl | rfl | rfl
          · exact okd_strs (by rw [List.length_map, srt_len]; omega)
          · exact okd_strs (by rw [List.length_map, srt_len, List.length_map]; omega)
          · exact okd_strs (by rw [List.length_map, srt_len]; omega)
        · walk_at "rdF"
          exact ⟨rfl, ((s37.trans s8).trans s9).trans s10⟩
    · rintro σ4 H4 ⟨rfl, s34⟩
      have ll : (sortL L0).length = L0.length := srt_len
      have lL1 := rt.l1
      refine rd_cut (fun σ' H' => ∃ y5, σ' = [some (.ref a), some v, some lv, some ev, some (.ref pp), y5, none, none, none, none, none] ∧ Same H3 H') ?_ ?_
      · walk_at "rdF"
        refine ⟨a, dx, c, _, oc, _, rfl, s34 _ _ ha, wf_c, s34 _ _ hc, for_keys (fun i σ' H' => ∃ y5, σ' = [some (.ref a), some v, some lv, some ev, some (.ref pp), y5, none, none, none, none, none] ∧ Same H3 H') ⟨_, rfl, s34⟩ (fun i σ' H' hh => ?_) ?_ ?_⟩
        · obtain ⟨_, _, sm⟩ := hh
          exact sm _ _ hc
        · rintro i k' v' σ' H' hi ⟨y5, rfl, sm⟩
          rw [List.getElem?_map] at hi
          cases qi : (sortL L0)[i]? with
          | none => rw [qi] at hi; cases hi
          | some r =>
            rw [qi] at hi
            cases hi
            have h0 : 0 < (sortL L0).length := by omega
            have e0 : (kids (.list ((lampNs (sortL L0)).map PyData.str)))[(0 : Int).toNat]? = some (.str ((sortL L0)[0]'h0).1) := by
              show ((lampNs (sortL L0)).map PyData.str)[0]? = _
              rw [List.getElem?_map, List.getElem?_map, List.getElem?_eq_getElem h0]; rfl
            walk_at "rdF"
            refine rep_ix (hpps.same sm) rfl (by decide) e0 fun u hu => ?_
            cases hu.strI
            show rNe (.str r.1) _ _ _
            walk_at "rdF"
            refine if_ndec (fun hm => ?_) (fun hm => ?_)
            · exact ⟨_, rfl, sm⟩
            · walk_at "rdF"
              exact ⟨_, rfl, sm⟩
        · rintro σ' H' ⟨y5, rfl, sm⟩
          exact ⟨_, rfl, sm⟩
      · rintro σ5 H5 ⟨y5, rfl, s35⟩
        walk_at "rdF"
        refine ⟨sz (by simp), fun tp ntp => ?_⟩
        walk_at "rdF"
        have s56 := same_new (o := .lst []) ntp
        have htp0 := @upd_same H5 tp (.lst [])
        have n3 : H3 tp = none := none_back s35 ntp
        generalize upd H5 tp (.lst []) = H6 at *
        refine rd_cut (fun σ' H' => ∃ y5, σ' = [some (.ref a), some v, some lv, some ev, some (.ref pp), y5, some (.ref tp), none, none, none, none] ∧ Same H3 H' ∧ R H' (.ref tp) (.list ((sortL L0).map fun r => .list [.str r.1, .list ((lampNs (sortL L0)).map PyData.str)]))) ?_ ?_
        · walk_at "rdF"
          have s36 := s35.trans s56
          refine ⟨a, dx, c, _, oc, _, rfl, s36 _ _ ha, wf_c, s36 _ _ hc, for_keys (fun i σ' H' => ∃ y5 acc, σ' = [some (.ref a), some v, some lv, some ev, some (.ref pp), y5, some (.ref tp), none, none, none, none] ∧ Same H3 H' ∧ H' tp = some (.lst acc) ∧ RepL (fun q => q ≠ tp) H' acc (((sortL L0).take i).map fun r => .list [.str r.1, .list ((lampNs (sortL L0)).map PyData.str)])) ⟨_, [], rfl, s36, htp0, by rw [List.take_zero]; exact .nil⟩ (fun i σ' H' hh => ?_) ?_ ?_⟩
          · obtain ⟨_, _, _, sm, _⟩ := hh
            exact sm _ _ hc
          · rintro i k' v' σ' H' hi ⟨y5, acc, rfl, sm, hacc, racc⟩
            rw [List.getElem?_map] at hi
            cases qi : (sortL L0)[i]? with
            | none => rw [qi] at hi; cases hi
            | some r =>
              rw [qi] at hi
              cases hi
              walk_at "rdF"
              refine ⟨.inl ⟨rfl, _, sl_of hacc⟩, ?_⟩
              walk_at "rdF"
              refine ⟨_, rfl, a, dx, c, _, oc, _, rfl, sm _ _ ha, wf_c, sm _ _ hc, fun p3 m3 => ?_⟩
              have ek : ((sortL L0).map fun r => ((.inr r.1 : Key), r.2)).map (fun kv => kV kv.1) = (lampNs (sortL L0)).map V.str := by rw [List.map_map, List.map_map]; rfl
              rw [ek]
              have t6 := same_new (o := .lst ((lampNs (sortL L0)).map V.str)) m3
              have g3 : p3 ≠ tp := fun c => by rw [c, hacc] at m3; cases m3
              have k3 : Rep (fun q => q ≠ tp) (upd H' p3 (.lst ((lampNs (sortL L0)).map V.str))) (.ref p3) (.list ((lampNs (sortL L0)).map PyData.str)) := .lst g3 upd_same .strs
              generalize upd H' p3 (.lst ((lampNs (sortL L0)).map V.str)) = H8 at *
              walk_at "rdF"
              refine ⟨sz (by simp), fun p4 m4 => ?_⟩
              have t7 := same_new (o := .lst [V.str r.1, .ref p3]) m4
              have g4 : p4 ≠ tp := fun c => by rw [c, t6 _ _ hacc] at m4; cases m4
              have k4 : Rep (fun q => q ≠ tp) (upd H8 p4 (.lst [V.str r.1, .ref p3])) (.ref p4) (.list [.str r.1, .list ((lampNs (sortL L0)).map PyData.str)]) := .lst g4 upd_same (.cons (.str _) (.cons (k3.same t7) .nil))
              have h9 := t7 _ _ (t6 _ _ hacc)
              have r9 := (racc.same t6).same t7
              have sm9 := (sm.trans t6).trans t7
              show tNil _ (upd H8 p4 (.lst [V.str r.1, .ref p3])) _
              generalize upd H8 p4 (.lst [V.str r.1, .ref p3]) = H9 at *
              walk_at "rdF"
              refine ⟨tp, acc, _, rfl, rfl, h9, sz (by rw [racc.len, List.length_map, List.length_take]; omega), ?_⟩
              walk_at "rdF"
              refine ⟨_, _, rfl, same_mut sm9 n3, upd_same, ?_⟩
              rw [take_succ qi, List.map_append]
              exact (r9.snoc k4).to fun p o u e => ⟨u, by rw [upd_ne u]; exact e⟩
          · rintro σ' H' ⟨y5, acc, rfl, sm, hacc, racc⟩
            rw [List.length_map, List.take_length] at racc
            exact ⟨_, rfl, sm, .lst trivial hacc (racc.less fun _ _ => trivial)⟩
        · rintro σ7 H7 ⟨y5, rfl, s37, ktp⟩
          refine rd_cut (fun σ' H' => ∃ y5, σ' = [some (.ref a), some v, some lv, some ev, some (.ref pp), y5, some (.ref tp), none, none, none, none] ∧ Same H3 H') ?_ ?_
          · walk_at "rdF"
            refine lc_seq (U := fun _ => True) (fun ds => ds.map fun e => .list [e, .list ((lampNs (sortL L0)).map PyData.str)]) (fun _ => True) (.inl (hpps.same s37)) rfl (fun _ _ => trivial) rfl (fun _ _ => trivial) ?_ ?_
            · rintro D i x e H' uD nD he hx hI
              have he' : ((lampNs (sortL L0)).map PyData.str)[i]? = some e := he
              rw [List.getElem?_map] at he'
              cases qi : (lampNs (sortL L0))[i]? with
              | none => rw [qi] at he'; cases he'
              | some z =>
                rw [qi] at he'
                cases he'
                refine ⟨by walk_at "wiped", ?_⟩
                walk_at "rdF"
                refine ⟨sz (by simp), fun q nq => ?_⟩
                cases hx.strI
                have hpp' := (hpps.same s37).off nD |>.ex (hI.ex.less fun _ _ => trivial)
                refine hI.put (e := .list [.str z, .list ((lampNs (sortL L0)).map PyData.str)]) (.new nq) trivial nD (fun _ => trivial) (.lst ⟨trivial, hI.ne nq⟩ upd_same (.cons (.str _) (.cons (hpp'.same (same_new nq)) .nil))) ?_ ?_
                · rw [List.length_map, List.length_take]
                  show min i ((lampNs (sortL L0)).map PyData.str).length < _
                  rw [List.length_map, List.length_map]; omega
                · rw [take_succ he, List.map_append]; rfl
            · rintro p5 acc H8 e8 _ n5 hp5 hacc _
              have s8 := e8.toSame
              have ea : (kids (.list ((lampNs (sortL L0)).map PyData.str))).map (fun e => PyData.list [e, .list ((lampNs (sortL L0)).map PyData.str)]) = (sortL L0).map fun r => .list [.str r.1, .list ((lampNs (sortL L0)).map PyData.str)] := by
                show ((lampNs (sortL L0)).map PyData.str).map _ = _
                rw [List.map_map, List.map_map]; rfl
              rw [ea] at hacc
              walk_at "rdF"
              refine ⟨_, _, _, rfl, ktp.same s8, .lst trivial hp5 (hacc.less fun _ _ => trivial), okd_map (by omega) fun r _ => ⟨by simp, fun e he => ?_⟩, fun H10 s10 => ?_⟩
              · simp only [List.mem_cons, List.not_mem_nil, or_false] at he
                rcases he with rfl | rfl
                · exact okd_str
                · exact okd_strs (by rw [List.length_map]; omega)
              · walk_at "rdF"
                exact ⟨_, rfl, (s37.trans s8).trans s10⟩
          · rintro σ8 H8 ⟨y5', rfl, s38⟩
            refine rd_cut (fun σ' H' => ∃ y5 y6 y7 y8, σ' = [some (.ref a), some v, some lv, some ev, some (.ref pp), y5, y6, y7, y8, none, none] ∧ Same H3 H') ?_ ?_
            · walk_at "rdF"
              refine rep_ix (hv3.same s38) rfl (by decide) rfl fun nv hnv => ?_
              refine for_seqR (.inl hnv) rfl (fun i σ' H' => ∃ y5 y6 y7 y8, σ' = [some (.ref a), some v, some lv, some ev, some (.ref pp), y5, y6, y7, y8, none, none] ∧ Same H8 H') ⟨_, _, _, _, rfl, Same.refl _⟩ (fun i σ' H' hh => ?_) ?_ ?_
              · obtain ⟨_, _, _, _, _, sm⟩ := hh
                exact .same sm
              · rintro i x e σ' H' he hx ⟨y5, y6, y7, y8, rfl, sm8⟩
                have sm := s38.trans sm8
                have he : (L0.map lampD)[i]? = some e := he
                rw [List.getElem?_map] at he
                cases qi : L0[i]? with
                | none => rw [qi] at he; cases he
                | some r =>
                  rw [qi] at he
                  cases he
                  have hr0 := List.mem_of_getElem? qi
                  have hrs : r ∈ sortL L0 := srt_mem.mpr hr0
                  have hz : r.1 ∈ lampNs (sortL L0) := List.mem_map_of_mem hrs
                  have sr := ok.scL r hrs
                  walk_at "rdF"
                  refine lc_seq (U := fun _ => True) (fun ds => (ds.filter (touch r.1)).map fun e => (kids e).getD 0 .none) (fun _ => True) (.inl (hev3.same sm)) rfl (fun _ _ => trivial) rfl (fun _ _ => trivial) ?_ ?_
                  · rintro D i2 y e2 H2 uD nD he2 hy hI
                    have he' : ((sortB B0).map BR.d)[i2]? = some e2 := he2
                    rw [List.getElem?_map] at he'
                    cases qi2 : (sortB B0)[i2]? with
                    | none => rw [qi2] at he'; cases he'
                    | some b =>
                      rw [qi2] at he'
                      cases he'
                      have hx2 := hx.ex hI.ex
                      have lout : ∀ m, (((((kids (.list ((sortB B0).map BR.d))).take m).filter (touch r.1)).map fun e => (kids e).getD 0 .none)).length < 100000 := fun m => by
                        rw [List.length_map]
                        refine Nat.lt_of_le_of_lt (List.length_filter_le _ _) ?_
                        rw [List.length_take]
                        show min m ((sortB B0).map BR.d).length < _
                        rw [List.length_map, srt_len, List.length_map]; omega
                      refine ⟨by walk_at "wiped", ?_⟩
                      walk_at "rdF"
                      refine rep_ix hx2 rfl (by decide) rfl fun u hu => ?_
                      cases hu.strI
                      walk_at "rdF"
                      refine rep_ix hy rfl (by decide) rfl fun u hu => ?_
                      cases hu.strI
                      walk_at "rdF"
                      refine rep_ix hy rfl (by decide) rfl fun u hu => ?_
                      cases hu.strI
                      walk_at "rdF"
                      refine ⟨sz (by simp), fun q nq => ?_⟩
                      have sq := same_new (o := .tup [.str b.x, .str b.y]) nq
                      have kq : R (upd H2 q (.tup [.str b.x, .str b.y])) (.ref q) (.tuple [.str b.x, .str b.y]) := .tup trivial upd_same (.cons (.str _) (.cons (.str _) .nil))
                      have hy' := hy.same sq
                      have eq' : Ex (fun _ => True) H2 (upd H2 q (.tup [.str b.x, .str b.y])) := .new nq
                      generalize upd H2 q (.tup [.str b.x, .str b.y]) = H2' at *
                      refine rd_inRep (ns := [b.x, b.y]) kq rfl rfl ?_
                      refine ⟨_, rfl, ?_⟩
                      refine if_dec (fun hm => ?_) (fun hm => ?_)
                      · walk_at "rdF"
                        refine rep_ix hy' rfl (by decide) rfl fun u hu => ?_
                        refine hI.put eq' trivial nD (fun _ => trivial) hu (lout _) ?_
                        rw [take_succ he2, List.filter_append, List.map_append, List.filter_cons_of_pos (by simpa [touch, BR.d, kids] using hm)]; rfl
                      · rw [take_succ he2, List.filter_append, List.map_append, List.filter_cons_of_neg (by simpa [touch, BR.d, kids] using hm)]
                        simp only [List.filter_nil, List.map_nil, List.append_nil]
                        exact ⟨hI.ex.trans eq', by
                          obtain ⟨acc, h1, h2⟩ := hI.at_
                          exact ⟨acc, eq'.keep _ _ trivial h1, h2.ex (eq'.less fun _ _ => trivial)⟩, trivial⟩
                  · rintro p5 acc H8' e8 _ n5 hp5 hacc _
                    rw [show (kids (.list ((sortB B0).map BR.d))) = (sortB B0).map BR.d from rfl, touch_rows] at hacc
                    have s8 := e8.toSame
                    have kt : R H8' (.ref p5) (.list ((bondsOf (sortB B0) r.1).map PyData.str)) := .lst trivial hp5 (hacc.less fun _ _ => trivial)
                    have smA := sm.trans s8
                    have hxA := hx.same s8
                    have ix0 : ∀ {H' : Hp} {R : V → Hp → Prop}, Same H8' H' → R (.str r.1) H' → rIx K x (.int 0) H' R := fun s h => rep_ix (hxA.same s) rfl (by decide) rfl fun u h4 => by cases h4.strI; exact h
                    have ix1 : ∀ {H' : Hp} {R : V → Hp → Prop}, Same H8' H' → R r.2 H' → rIx K x (.int 1) H' R := fun s h => rep_ix (hxA.same s) rfl (by decide) rfl fun u h4 => by cases h4.scI sr; exact h
                    walk_at "rdF"
                    refine ⟨a, dx, _, rfl, smA _ _ ha, by rfl, ?_⟩
                    walk_at "rdF"
                    refine ix0 (Same.refl _) ?_
                    refine ⟨U, a, _, _, r.1, rfl, hw.same smA, fun r1 hr1 en => ?_, fun hn => absurd hz hn⟩
                    obtain rfl := nodup_inj ok.rt.dl r1 hr1 r hrs en
                    walk_at "rdF"
                    refine ⟨a, dx, _, rfl, smA _ _ ha, by rfl, ?_⟩
                    walk_at "rdF"
                    refine ix0 (Same.refl _) ?_
                    refine ⟨rfl, rfl, U, a, _, _, r1.1, rfl, hw.same smA, fun r2 hr2 en2 => ?_, fun hn => absurd hz hn⟩
                    obtain rfl := nodup_inj ok.rt.dl r2 hr2 r1 hrs en2
                    walk_at "rdF"
                    refine ⟨a, dx, _, rfl, smA _ _ ha, by rfl, ?_⟩
                    walk_at "rdF"
                    refine ix0 (Same.refl _) ?_
                    refine ⟨U, a, _, _, r2.1, rfl, hw.same smA, fun _ p6 H9 s9 n6 hp6 => ?_, fun hn => absurd hz hn⟩
                    have k6 : R H9 (.ref p6) (.list ((bondsOf (sortB B0) r2.1).map PyData.str)) := .lst trivial hp6 .strs
                    walk_at "rdF"
                    refine ⟨a, dx, _, rfl, s9 _ _ (smA _ _ ha), by rfl, ?_⟩
                    walk_at "rdF"
                    refine ix0 s9 ?_
                    refine ⟨rfl, rfl, U, a, _, _, r2.1, rfl, hw.same (smA.trans s9), fun _ p7 H10 s10 n7 hp7 => ?_, fun hn => absurd hz hn⟩
                    have k7 : R H10 (.ref p7) (.list ((bondsOf (sortB B0) r2.1).map PyData.str)) := .lst trivial hp7 .strs
                    walk_at "rdF"
                    refine ⟨sz (by simp), fun p8 n8 => ?_⟩
                    have s11 := same_new (o := .lst [r2.2, r2.2, .ref p6, .ref p7]) n8
                    have k8 : R (upd H10 p8 (.lst [r2.2, r2.2, .ref p6, .ref p7])) (.ref p8) (.list [vD r2.2, vD r2.2, .list ((bondsOf (sortB B0) r2.1).map PyData.str), .list ((bondsOf (sortB B0) r2.1).map PyData.str)]) := .lst trivial upd_same (.cons (.sc sr) (.cons (.sc sr) (.cons ((k6.same s10).same s11) (.cons (k7.same s11) .nil))))
                    generalize upd H10 p8 (.lst [r2.2, r2.2, .ref p6, .ref p7]) = H11 at *
                    have s8B := (s9.trans s10).trans s11
                    have smB := smA.trans s8B
                    walk_at "rdF"
                    refine ix0 s8B ?_
                    walk_at "rdF"
                    refine ⟨a, dx, _, rfl, smB _ _ ha, U, a, _, _, r2.1, rfl, hw.same smB, _, rfl, ?_⟩
                    rw [decide_eq_true hz, show (if false = true then !true else true) = true from rfl]
                    walk_at "rdF"
                    refine ⟨sz (by simp), fun p9 n9 => ?_⟩
                    have s12 := same_new (o := .lst [.ref p8, .bl true]) n9
                    have k9 : R (upd H11 p9 (.lst [.ref p8, .bl true])) (.ref p9) (.list [.list [vD r2.2, vD r2.2, .list ((bondsOf (sortB B0) r2.1).map PyData.str), .list ((bondsOf (sortB B0) r2.1).map PyData.str)], .bool true]) := .lst trivial upd_same (.cons (k8.same s12) (.cons (.bl _) .nil))
                    generalize upd H11 p9 (.lst [.ref p8, .bl true]) = H12 at *
                    have s8C := s8B.trans s12
                    walk_at "rdF"
                    refine ix1 s8C ?_
                    walk_at "rdF"
                    refine ix1 s8C ?_
                    walk_at "rdF"
                    refine ⟨sz (by simp), fun p10 n10 => ?_⟩
                    have s13 := same_new (o := .lst [r2.2, r2.2, .ref p5, .ref p5]) n10
                    have kt' := kt.same (s8C.trans s13)
                    have k10 : R (upd H12 p10 (.lst [r2.2, r2.2, .ref p5, .ref p5])) (.ref p10) (.list [vD r2.2, vD r2.2, .list ((bondsOf (sortB B0) r2.1).map PyData.str), .list ((bondsOf (sortB B0) r2.1).map PyData.str)]) := .lst trivial upd_same (.cons (.sc sr) (.cons (.sc sr) (.cons kt' (.cons kt' .nil))))
                    generalize upd H12 p10 (.lst [r2.2, r2.2, .ref p5, .ref p5]) = H13 at *
                    walk_at "rdF"
                    refine ⟨sz (by simp), fun p11 n11 => ?_⟩
                    have s14 := same_new (o := .lst [.ref p10, .bl true]) n11
                    have k11 : R (upd H13 p11 (.lst [.ref p10, .bl true])) (.ref p11) (.list [.list [vD r2.2, vD r2.2, .list ((bondsOf (sortB B0) r2.1).map PyData.str), .list ((bondsOf (sortB B0) r2.1).map PyData.str)], .bool true]) := .lst trivial upd_same (.cons (k10.same s14) (.cons (.bl _) .nil))
                    walk_at "rdF"
                    have lb := bondsOf_len (sortB B0) r2.1
                    have lbb : (sortB B0).length = B0.length := by rw [srt_len, List.length_map]
                    refine ⟨_, _, _, rfl, (k9.same s13).same s14, k11, ⟨by simp, fun e he => ?_⟩, fun H15 s15 => ?_⟩
                    · simp only [List.mem_cons, List.not_mem_nil, or_false] at he
                      rcases he with rfl | rfl
                      · refine ⟨by simp, fun e he => ?_⟩
                        simp only [List.mem_cons, List.not_mem_nil, or_false] at he
                        rcases he with rfl | rfl | rfl | rfl
                        · exact okd_sc
                        · exact okd_sc
                        · exact okd_strs (by omega)
                        · exact okd_strs (by omega)
                      · exact okd_bool
                    · walk_at "rdF"
                      exact ⟨_, _, _, _, rfl, (((sm8.trans s8).trans s8C).trans (s13.trans s14)).trans s15⟩
              · rintro σ' H' ⟨y5, y6, y7, y8, rfl, sm⟩
                exact ⟨_, _, _, _, rfl, s38.trans sm⟩
            · rintro σ9 H9 ⟨y5, y6, y7, y8, rfl, s39⟩
              walk_at "rdF"
              refine lc_seq (U := fun _ => True) (fun _ => []) (fun _ => True) (.inl (hev3.same s39)) rfl (fun _ _ => trivial) rfl (fun _ _ => trivial) ?_ ?_
              · rintro D i2 y e2 H2 uD nD he2 hy hI
                have he' : ((sortB B0).map BR.d)[i2]? = some e2 := he2
                rw [List.getElem?_map] at he'
                cases qi2 : (sortB B0)[i2]? with
                | none => rw [qi2] at he'; cases he'
                | some b =>
                  rw [qi2] at he'
                  cases he'
                  have s2 := s39.trans hI.ex.toSame
                  refine ⟨by walk_at "wiped", ?_⟩
                  walk_at "rdF"
                  refine ⟨U, a, _, _, y, lv, b, ns, rfl, hw.same s2, List.mem_of_getElem? qi2, hy.less fun _ _ => trivial, hl3.same s2, hn, ln, fun H4 s4 => ?_⟩
                  walk_at "rdF"
                  exact ⟨hI.ex.trans (.same s4), by
                    obtain ⟨acc, h1, h2⟩ := hI.at_
                    exact ⟨acc, s4 _ _ h1, h2.same s4⟩, trivial⟩
              · rintro p5 acc H10 e10 _ n5 hp5 hacc _
                cases hacc
                walk_at "rdF"
                refine rd_seqL hp5 ?_
                walk_at "rdF"
                exact fin3 H10 (s39.trans e10.toSame)
end
set_option maxHeartbeats 2000000
abbrev s_law_asked : Stmt := topS 66
theorem sc_law_asked : FnScope ["web", "k", "one", "two", "value", "e"] ["web", "k", "one", "two", "value"] (defScope s_law_asked) := ⟨rfl, rfl, rfl, by decide +kernel, rfl, by decide +kernel, by decide +kernel⟩
structure Errs (K : PySem.W.Frag) (mg : Str → Option Value) (cU cN cB cD cO : Addr) : Prop where
  g_OutshinerError : mg "OutshinerError" = some (.ref cO)
  g_Doubled : mg "Doubled" = some (.ref cD)
  g_BadNumber : mg "BadNumber" = some (.ref cN)
  g_Unknown : mg "Unknown" = some (.ref cU)
  uO : PySem.W.kitOne K (.ref cU) (.ref cO) = some true
  nO : PySem.W.kitOne K (.ref cN) (.ref cO) = some true
  bO : PySem.W.kitOne K (.ref cB) (.ref cO) = some true
  uN : PySem.W.kitOne K (.ref cU) (.ref cN) = some false
  uD : PySem.W.kitOne K (.ref cU) (.ref cD) = some false
  nU : PySem.W.kitOne K (.ref cN) (.ref cU) = some false
  nD : PySem.W.kitOne K (.ref cN) (.ref cD) = some false
  bU : PySem.W.kitOne K (.ref cB) (.ref cU) = some false
  bN : PySem.W.kitOne K (.ref cB) (.ref cN) = some false
  xnu : PySem.W.exmOne K (.ref cN) (.ref cU) = some false
  xbu : PySem.W.exmOne K (.ref cB) (.ref cU) = some false
  xbn : PySem.W.exmOne K (.ref cB) (.ref cN) = some false
def unkD (z : Str) : PyData := .tuple [.str "Unknown", .str z, .bool true, .bool false]
def numD (v : V) : PyData := .tuple [.str "BadNumber", vD v, .bool true, .bool false]
def spnD (l h : V) : PyData := .tuple [.str "BadSpan", .tuple [vD l, vD h], .bool true, .bool false]
section
variable {P : Program} {w : World} {K : PySem.W.Frag} {mg : Str → Option Value} {base : Heap} {C CS cU cN cB cD cO : Addr}
inductive AskR (L : List (Str × V)) (B : List BR) : Int → V → V → V → PyData → Prop where
  | c0 {z : Str} {t v : V} : z ∉ lampNs L → AskR L B 0 (.str z) t v (unkD z)
  | c1 {z : Str} {t v : V} : z ∉ lampNs L → AskR L B 1 (.str z) t v (unkD z)
  | c2 {z : Str} {t v : V} : isOpen v = true → z ∉ lampNs L → AskR L B 2 (.str z) t v (unkD z)
  | c2n {z : Str} {t v : V} : Sc v → isOpen v = false → AskR L B 2 (.str z) t v (numD v)
  | c3 {z : Str} {t v : V} : z ∉ bondNs B → AskR L B 3 (.str z) t v (unkD z)
  | c4 {z : Str} {t v : V} : z ∉ bondNs B → AskR L B 4 (.str z) t v (unkD z)
  | c5 {z : Str} {t v : V} : isNum v = true → z ∉ bondNs B → AskR L B 5 (.str z) t v (unkD z)
  | c5n {z : Str} {t v : V} : Sc v → isNum v = false → AskR L B 5 (.str z) t v (numD v)
  | c6 {z : Str} {t v : V} : isOpen t = true → isOpen v = true → crossed t v = false → z ∉ bondNs B → AskR L B 6 (.str z) t v (unkD z)
  | c6a {z : Str} {t v : V} : Sc t → Sc v → isOpen t = false → AskR L B 6 (.str z) t v (numD t)
  | c6b {z : Str} {t v : V} : Sc v → isOpen t = true → isOpen v = false → AskR L B 6 (.str z) t v (numD v)
  | c6c {z : Str} {t v : V} : isOpen t = true → isOpen v = true → crossed t v = true → AskR L B 6 (.str z) t v (spnD t v)
  | c7 {z : Str} {t v : V} : z ∉ bondNs B → AskR L B 7 (.str z) t v (unkD z)
  | c8 {z y : Str} {v : V} : z ∉ bondNs B → AskR L B 8 (.str z) (.str y) v (unkD z)
  | c8x {z y : Str} {v : V} {r : BR} : r ∈ B → r.n = z → y ≠ r.x → y ≠ r.y → AskR L B 8 (.str z) (.str y) v (unkD y)
  | c8f {z y : Str} {v : V} {r : BR} : r ∈ B → r.n = z → (y = r.x ∨ y = r.y) → AskR L B 8 (.str z) (.str y) v (.str "fine")
  | c9 {z : Str} {t v u : V} : Sc t → Sc v → Sc u → ¬ Right L (B ++ [⟨"b", z, z, t, v⟩]) → (∀ e, Wrong L (B ++ [⟨"b", z, z, t, v⟩]) e → e = .num u) → AskR L B 9 (.str z) t v (numD u)
theorem open_sc {v : V} (h : isOpen v = true) : Sc v := (isOpen_NI h).sc
def spAsked (C CS : Addr) : Sp := fun vs H Q _ => ∃ (a : Addr) (U : Addr → Prop) (L : List (Str × V)) (B : List BR) (k : Int) (one two value : V) (d : PyData), vs = [.ref a, .int k, one, two, value] ∧ WebV U C CS H a L B ∧ AskR L B k one two value d ∧ ∀ v H', Same H H' → R H' v d → Q v H'
theorem num_sc {v : V} (h : isNum v = true) : Sc v := by
  cases v <;> first | trivial | cases h
theorem ok_asked {k : Nat} {f : Addr} {fd : FuncData} {c : ECs} (cn : c.num = cN) (F : Fun K "_law_asked" "_law_asked" s_law_asked f fd) (T : Blt mg) (TE : Errs K mg cU cN cB cD cO) (cl_Web : Cls K C) (E_Unknown : ErrC K mg "Unknown" cU) (E_BadNumber : ErrC K mg "BadNumber" cN) (E_BadSpan : ErrC K mg "BadSpan" cB)
    (N_Unknown_name : PySem.W.findIn K (.ref cU) "name" = some none) (N_BadNumber_number : PySem.W.findIn K (.ref cN) "number" = some none) (N_BadSpan_low : PySem.W.findIn K (.ref cB) "low" = some none) (N_BadSpan_high : PySem.W.findIn K (.ref cB) "high" = some none)
    (HT_Web_ceiling : HasMt P w K mg base (L2.CX P w) C "ceiling" k ["self", "lamp"] (spWCeil C CS cU)) (HT_Web_bonds_of : HasMt P w K mg base (L2.CX P w) C "bonds_of" k ["self", "lamp"] (spWBondsOf C CS cU)) (HT_Web_with_ceiling : HasMt P w K mg base (L2.CX P w) C "with_ceiling" k ["self", "lamp", "ceiling"] (spWithCeil C CS cN cU))
    (HT_Web_ends : HasMt P w K mg base (L2.CX P w) C "ends" k ["self", "bond"] (spWEnds C CS cU)) (HT_Web_span : HasMt P w K mg base (L2.CX P w) C "span" k ["self", "bond"] (spWSpan C CS cU)) (HT_Web_lets : HasMt P w K mg base (L2.CX P w) C "lets" k ["self", "bond", "light"] (spWLets C CS cN cU))
    (HT_Web_with_span : HasMt P w K mg base (L2.CX P w) C "with_span" k ["self", "bond", "low", "high"] (spWithSpan C CS cN cB cU)) (HT_Web_without_bond : HasMt P w K mg base (L2.CX P w) C "without_bond" k ["self", "bond"] (spWithout C CS cU)) (HT_Web_across : HasMt P w K mg base (L2.CX P w) C "across" k ["self", "bond", "lamp"] (spWAcross C CS cU))
    (HT_Web_with_bond_low_high : HasMtN P w K mg base (L2.CX P w) C "with_bond" k 3 ["self", "name", "first", "second", "low", "high"] ["low", "high"] gApp (spWithBond C CS c)) : FnOk P w K mg base CX0 (k + 1) f fd ["web", "k", "one", "two", "value"] (spAsked C CS) := by
  refine F.ok sc_law_asked (fun vs H Q E h => ?_) (fun cdv A outer s H vs Q E hr h => ?_)
  · obtain ⟨a, U, L, B, k, one, two, value, d, rfl, _⟩ := h; rfl
  · obtain ⟨a, U, L, B, k, one, two, value, d, rfl, hw, ha, h⟩ := h
    obtain ⟨dx, c0, b, e0, s, oc, oe, os, g, q, ua, hA, uc, hc, hb, ue, he0, hg, us, hs, hq⟩ := hw.at_.ex
    refine ⟨_, (pss_cons (ps_try_asM (Wout := fun _ _ _ _ => False) rfl rfl sc_law_asked.nd takes0 (fun W pn xe tk _ => (pss_one (ps_if (pt_cmpR op_eq (pv 1) pe_int (nomark _)) (pss_one (ps_expr (pe_mt HT_Web_ceiling cl_Web (pv 0) hr (fun σ => passAt tk σ) (pa_cons (pv 2) pa_nil)))) (pss_one (ps_if (pt_cmpR op_eq (pv 1) pe_int (nomark _)) (pss_one (ps_expr (pe_mt HT_Web_bonds_of cl_Web (pv 0) hr (fun σ => passAt tk σ) (pa_cons (pv 2) pa_nil)))) (pss_one (ps_if (pt_cmpR op_eq (pv 1) pe_int (nomark _)) (pss_one (ps_expr (pe_mt HT_Web_with_ceiling cl_Web (pv 0) hr (fun σ => passAt tk σ) (pa_cons (pv 2) (pa_cons (pv 4) pa_nil))))) (pss_one (ps_if (pt_cmpR op_eq (pv 1) pe_int (nomark _)) (pss_one (ps_expr (pe_mt HT_Web_ends cl_Web (pv 0) hr (fun σ => passAt tk σ) (pa_cons (pv 2) pa_nil)))) (pss_one (ps_if (pt_cmpR op_eq (pv 1) pe_int (nomark _)) (pss_one (ps_expr (pe_mt HT_Web_span cl_Web (pv 0) hr (fun σ => passAt tk σ) (pa_cons (pv 2) pa_nil)))) (pss_one (ps_if (pt_cmpR op_eq (pv 1) pe_int (nomark _)) (pss_one (ps_expr (pe_mt HT_Web_lets cl_Web (pv 0) hr (fun σ => passAt tk σ) (pa_cons (pv 2) (pa_cons (pv 4) pa_nil))))) (pss_one (ps_if (pt_cmpR op_eq (pv 1) pe_int (nomark _)) (pss_one (ps_expr (pe_mt HT_Web_with_span cl_Web (pv 0) hr (fun σ => passAt tk σ) (pa_cons (pv 2) (pa_cons (pv 3) (pa_cons (pv 4) pa_nil)))))) (pss_one (ps_if (pt_cmpR op_eq (pv 1) pe_int (nomark _)) (pss_one (ps_expr (pe_mt HT_Web_without_bond cl_Web (pv 0) hr (fun σ => passAt tk σ) (pa_cons (pv 2) pa_nil)))) (pss_one (ps_if (pt_cmpR op_eq (pv 1) pe_int (nomark _)) (pss_one (ps_expr (pe_mt HT_Web_across cl_Web (pv 0) hr (fun σ => passAt tk σ) (pa_cons (pv 2) (pa_cons (pv 3) pa_nil))))) (pss_one (ps_expr (pe_mtN (ks := ["low", "high"]) HT_Web_with_bond_low_high cl_Web (pv 0) hr (fun σ => passAt tk σ) (pa_cons pe_str (pa_cons (pv 2) (pa_cons (pv 2) pa_nil))) (pk_cons (pv 3) (pk_cons (pv 4) pk_nil)))))))))))))))))))))))) (.cons (i := 5) rfl rfl ⟨rfl, by decide, Or.inl E_Unknown.gC⟩ (fun a oe cls d pn hz hf => (pss_one (ps_ret (pe_tup (pa_cons pe_str (pa_cons (pe_xf E_Unknown.xf N_Unknown_name hz hf (pv 5)) (pa_cons (pe_callB (call_isX (K := K) rfl hz hf) (by rfl) T.isinstance (by decide +kernel) (pa_cons (pv 5) (pa_cons (pe_globC rfl TE.g_OutshinerError) pa_nil))) (pa_cons (pe_callB (call_isXT (K := K) rfl hz hf) (by rfl) T.isinstance (by decide +kernel) (pa_cons (pv 5) (pa_cons (pe_tup (pa_cons (pe_globC rfl TE.g_BadNumber) (pa_cons (pe_globC rfl TE.g_Doubled) pa_nil))) pa_nil))) pa_nil)))))))) (.cons (i := 5) rfl rfl ⟨rfl, by decide, Or.inl E_BadNumber.gC⟩ (fun a oe cls d pn hz hf => (pss_one (ps_ret (pe_tup (pa_cons pe_str (pa_cons (pe_xf E_BadNumber.xf N_BadNumber_number hz hf (pv 5)) (pa_cons (pe_callB (call_isX (K := K) rfl hz hf) (by rfl) T.isinstance (by decide +kernel) (pa_cons (pv 5) (pa_cons (pe_globC rfl TE.g_OutshinerError) pa_nil))) (pa_cons (pe_callB (call_isXT (K := K) rfl hz hf) (by rfl) T.isinstance (by decide +kernel) (pa_cons (pv 5) (pa_cons (pe_tup (pa_cons (pe_globC rfl TE.g_Unknown) (pa_cons (pe_globC rfl TE.g_Doubled) pa_nil))) pa_nil))) pa_nil)))))))) (.cons (i := 5) rfl rfl ⟨rfl, by decide, Or.inl E_BadSpan.gC⟩ (fun a oe cls d pn hz hf => (pss_one (ps_ret (pe_tup (pa_cons pe_str (pa_cons (pe_tup (pa_cons (pe_xf E_BadSpan.xf N_BadSpan_low hz hf (pv 5)) (pa_cons (pe_xf E_BadSpan.xf N_BadSpan_high hz hf (pv 5)) pa_nil))) (pa_cons (pe_callB (call_isX (K := K) rfl hz hf) (by rfl) T.isinstance (by decide +kernel) (pa_cons (pv 5) (pa_cons (pe_globC rfl TE.g_OutshinerError) pa_nil))) (pa_cons (pe_callB (call_isXT (K := K) rfl hz hf) (by rfl) T.isinstance (by decide +kernel) (pa_cons (pv 5) (pa_cons (pe_tup (pa_cons (pe_globC rfl TE.g_Unknown) (pa_cons (pe_globC rfl TE.g_BadNumber) pa_nil))) pa_nil))) pa_nil)))))))) .nil))))
 (pss_one (ps_ret pe_str))), ?_⟩
    have kU : PySem.W.kitAny K (.ref cU) [.ref cN, .ref cD] = some false := kitAny_cons TE.uN (fun _ => kitAny_cons TE.uD (fun _ => rfl) (fun h => by cases h)) (fun h => by cases h)
    have kN : PySem.W.kitAny K (.ref cN) [.ref cU, .ref cD] = some false := kitAny_cons TE.nU (fun _ => kitAny_cons TE.nD (fun _ => rfl) (fun h => by cases h)) (fun h => by cases h)
    have kB : PySem.W.kitAny K (.ref cB) [.ref cU, .ref cN] = some false := kitAny_cons TE.bU (fun _ => kitAny_cons TE.bN (fun _ => rfl) (fun h => by cases h)) (fun h => by cases h)
    cases ha with
    | @c0 z t v hz =>
      walk_at "rdF"
      refine if_dec (fun _ => ?_) (fun hh => absurd (by decide) hh)
      walk_at "rdF"
      refine ⟨a, dx, _, rfl, hA, by rfl, ?_⟩
      walk_at "rdF"
      refine ⟨U, a, L, B, z, rfl, hw, fun r hr en => absurd (by rw [← en]; exact List.mem_map_of_mem hr) hz, fun _ => ?_⟩
      refine fun d H' sm e => ⟨true, E_Unknown.self, fun _ x na => ?_, fun q => Bool.noConfusion q⟩
      walk_at "rdF"
      refine ⟨rfl, rfl, d, _, (V.str z), rfl, e, (by simp [List.lookup]), ?_⟩
      walk_at "rdF"
      refine ⟨cU, d, _, .ref cO, .ref cO, true, rfl, rfl, e, E_Unknown.ec, rfl, fun _ r => r, TE.uO, ?_⟩
      walk_at "rdF"
      refine ⟨sz (by simp), fun tp ntp => ?_⟩
      walk_at "rdF"
      refine ⟨cU, d, _, tp, _, _, false, rfl, rfl, same_new ntp _ _ e, E_Unknown.ec, rfl, upd_same, .cons (.own _) (.cons (.own _) .nil), kU, ?_⟩
      walk_at "rdF"
      refine ⟨sz (by simp), fun p np => ?_⟩
      exact h _ _ ((sm.trans (same_new ntp)).trans (same_new np)) (.tup trivial upd_same (.cons (.str _) (.cons (.str _) (.cons (.bl _) (.cons (.bl _) .nil)))))
    | @c1 z t v hz =>
      walk_at "rdF"
      refine if_dec (fun hh => absurd hh (by decide)) (fun _ => ?_)
      walk_at "rdF"
      refine if_dec (fun _ => ?_) (fun hh => absurd (by decide) hh)
      walk_at "rdF"
      refine ⟨a, dx, _, rfl, hA, by rfl, ?_⟩
      walk_at "rdF"
      refine ⟨U, a, L, B, z, rfl, hw, fun hm => absurd hm hz, fun _ => ?_⟩
      refine fun d H' sm e => ⟨true, E_Unknown.self, fun _ x na => ?_, fun q => Bool.noConfusion q⟩
      walk_at "rdF"
      refine ⟨rfl, rfl, d, _, (V.str z), rfl, e, (by simp [List.lookup]), ?_⟩
      walk_at "rdF"
      refine ⟨cU, d, _, .ref cO, .ref cO, true, rfl, rfl, e, E_Unknown.ec, rfl, fun _ r => r, TE.uO, ?_⟩
      walk_at "rdF"
      refine ⟨sz (by simp), fun tp ntp => ?_⟩
      walk_at "rdF"
      refine ⟨cU, d, _, tp, _, _, false, rfl, rfl, same_new ntp _ _ e, E_Unknown.ec, rfl, upd_same, .cons (.own _) (.cons (.own _) .nil), kU, ?_⟩
      walk_at "rdF"
      refine ⟨sz (by simp), fun p np => ?_⟩
      exact h _ _ ((sm.trans (same_new ntp)).trans (same_new np)) (.tup trivial upd_same (.cons (.str _) (.cons (.str _) (.cons (.bl _) (.cons (.bl _) .nil)))))
    | @c2 z t v ov hz =>
      walk_at "rdF"
      refine if_dec (fun hh => absurd hh (by decide)) (fun _ => ?_)
      walk_at "rdF"
      refine if_dec (fun hh => absurd hh (by decide)) (fun _ => ?_)
      walk_at "rdF"
      refine if_dec (fun _ => ?_) (fun hh => absurd (by decide) hh)
      walk_at "rdF"
      refine ⟨a, dx, _, rfl, hA, by rfl, ?_⟩
      walk_at "rdF"
      refine ⟨U, a, L, B, z, value, rfl, hw, open_sc ov, fun o => (by rw [ov] at o; cases o), fun _ _ => ?_, fun _ hm => absurd hm hz⟩
      refine fun d H' sm e => ⟨true, E_Unknown.self, fun _ x na => ?_, fun q => Bool.noConfusion q⟩
      walk_at "rdF"
      refine ⟨rfl, rfl, d, _, (V.str z), rfl, e, (by simp [List.lookup]), ?_⟩
      walk_at "rdF"
      refine ⟨cU, d, _, .ref cO, .ref cO, true, rfl, rfl, e, E_Unknown.ec, rfl, fun _ r => r, TE.uO, ?_⟩
      walk_at "rdF"
      refine ⟨sz (by simp), fun tp ntp => ?_⟩
      walk_at "rdF"
      refine ⟨cU, d, _, tp, _, _, false, rfl, rfl, same_new ntp _ _ e, E_Unknown.ec, rfl, upd_same, .cons (.own _) (.cons (.own _) .nil), kU, ?_⟩
      walk_at "rdF"
      refine ⟨sz (by simp), fun p np => ?_⟩
      exact h _ _ ((sm.trans (same_new ntp)).trans (same_new np)) (.tup trivial upd_same (.cons (.str _) (.cons (.str _) (.cons (.bl _) (.cons (.bl _) .nil)))))
    | @c2n z t v sv nv =>
      walk_at "rdF"
      refine if_dec (fun hh => absurd hh (by decide)) (fun _ => ?_)
      walk_at "rdF"
      refine if_dec (fun hh => absurd hh (by decide)) (fun _ => ?_)
      walk_at "rdF"
      refine if_dec (fun _ => ?_) (fun hh => absurd (by decide) hh)
      walk_at "rdF"
      refine ⟨a, dx, _, rfl, hA, by rfl, ?_⟩
      walk_at "rdF"
      refine ⟨U, a, L, B, z, value, rfl, hw, sv, fun _ => ?_, fun o => (by rw [nv] at o; cases o), fun o => (by rw [nv] at o; cases o)⟩
      refine fun d H' sm e => ⟨false, TE.xnu, fun q => Bool.noConfusion q, fun _ => ⟨true, E_BadNumber.self, fun _ x na => ?_, fun q => Bool.noConfusion q⟩⟩
      walk_at "rdF"
      refine ⟨rfl, rfl, d, _, value, rfl, e, (by simp [List.lookup]), ?_⟩
      walk_at "rdF"
      refine ⟨cN, d, _, .ref cO, .ref cO, true, rfl, rfl, e, E_BadNumber.ec, rfl, fun _ r => r, TE.nO, ?_⟩
      walk_at "rdF"
      refine ⟨sz (by simp), fun tp ntp => ?_⟩
      walk_at "rdF"
      refine ⟨cN, d, _, tp, _, _, false, rfl, rfl, same_new ntp _ _ e, E_BadNumber.ec, rfl, upd_same, .cons (.own _) (.cons (.own _) .nil), kN, ?_⟩
      walk_at "rdF"
      refine ⟨sz (by simp), fun p np => ?_⟩
      exact h _ _ ((sm.trans (same_new ntp)).trans (same_new np)) (.tup trivial upd_same (.cons (.str _) (.cons (.sc (by assumption)) (.cons (.bl _) (.cons (.bl _) .nil)))))
    | @c3 z t v hz =>
      walk_at "rdF"
      refine if_dec (fun hh => absurd hh (by decide)) (fun _ => ?_)
      walk_at "rdF"
      refine if_dec (fun hh => absurd hh (by decide)) (fun _ => ?_)
      walk_at "rdF"
      refine if_dec (fun hh => absurd hh (by decide)) (fun _ => ?_)
      walk_at "rdF"
      refine if_dec (fun _ => ?_) (fun hh => absurd (by decide) hh)
      walk_at "rdF"
      refine ⟨a, dx, _, rfl, hA, by rfl, ?_⟩
      walk_at "rdF"
      refine ⟨U, a, L, B, z, rfl, hw, fun r hr en => absurd (by rw [← en]; exact List.mem_map_of_mem hr) hz, fun _ => ?_⟩
      refine fun d H' sm e => ⟨true, E_Unknown.self, fun _ x na => ?_, fun q => Bool.noConfusion q⟩
      walk_at "rdF"
      refine ⟨rfl, rfl, d, _, (V.str z), rfl, e, (by simp [List.lookup]), ?_⟩
      walk_at "rdF"
      refine ⟨cU, d, _, .ref cO, .ref cO, true, rfl, rfl, e, E_Unknown.ec, rfl, fun _ r => r, TE.uO, ?_⟩
      walk_at "rdF"
      refine ⟨sz (by simp), fun tp ntp => ?_⟩
      walk_at "rdF"
      refine ⟨cU, d, _, tp, _, _, false, rfl, rfl, same_new ntp _ _ e, E_Unknown.ec, rfl, upd_same, .cons (.own _) (.cons (.own _) .nil), kU, ?_⟩
      walk_at "rdF"
      refine ⟨sz (by simp), fun p np => ?_⟩
      exact h _ _ ((sm.trans (same_new ntp)).trans (same_new np)) (.tup trivial upd_same (.cons (.str _) (.cons (.str _) (.cons (.bl _) (.cons (.bl _) .nil)))))
    | @c4 z t v hz =>
      walk_at "rdF"
      refine if_dec (fun hh => absurd hh (by decide)) (fun _ => ?_)
      walk_at "rdF"
      refine if_dec (fun hh => absurd hh (by decide)) (fun _ => ?_)
      walk_at "rdF"
      refine if_dec (fun hh => absurd hh (by decide)) (fun _ => ?_)
      walk_at "rdF"
      refine if_dec (fun hh => absurd hh (by decide)) (fun _ => ?_)
      walk_at "rdF"
      refine if_dec (fun _ => ?_) (fun hh => absurd (by decide) hh)
      walk_at "rdF"
      refine ⟨a, dx, _, rfl, hA, by rfl, ?_⟩
      walk_at "rdF"
      refine ⟨U, a, L, B, z, rfl, hw, fun r hr en => absurd (by rw [← en]; exact List.mem_map_of_mem hr) hz, fun _ => ?_⟩
      refine fun d H' sm e => ⟨true, E_Unknown.self, fun _ x na => ?_, fun q => Bool.noConfusion q⟩
      walk_at "rdF"
      refine ⟨rfl, rfl, d, _, (V.str z), rfl, e, (by simp [List.lookup]), ?_⟩
      walk_at "rdF"
      refine ⟨cU, d, _, .ref cO, .ref cO, true, rfl, rfl, e, E_Unknown.ec, rfl, fun _ r => r, TE.uO, ?_⟩
      walk_at "rdF"
      refine ⟨sz (by simp), fun tp ntp => ?_⟩
      walk_at "rdF"
      refine ⟨cU, d, _, tp, _, _, false, rfl, rfl, same_new ntp _ _ e, E_Unknown.ec, rfl, upd_same, .cons (.own _) (.cons (.own _) .nil), kU, ?_⟩
      walk_at "rdF"
      refine ⟨sz (by simp), fun p np => ?_⟩
      exact h _ _ ((sm.trans (same_new ntp)).trans (same_new np)) (.tup trivial upd_same (.cons (.str _) (.cons (.str _) (.cons (.bl _) (.cons (.bl _) .nil)))))
    | @c5 z t v nv hz =>
      walk_at "rdF"
      refine if_dec (fun hh => absurd hh (by decide)) (fun _ => ?_)
      walk_at "rdF"
      refine if_dec (fun hh => absurd hh (by decide)) (fun _ => ?_)
      walk_at "rdF"
      refine if_dec (fun hh => absurd hh (by decide)) (fun _ => ?_)
      walk_at "rdF"
      refine if_dec (fun hh => absurd hh (by decide)) (fun _ => ?_)
      walk_at "rdF"
      refine if_dec (fun hh => absurd hh (by decide)) (fun _ => ?_)
      walk_at "rdF"
      refine if_dec (fun _ => ?_) (fun hh => absurd (by decide) hh)
      walk_at "rdF"
      refine ⟨a, dx, _, rfl, hA, by rfl, ?_⟩
      walk_at "rdF"
      refine ⟨U, a, L, B, z, value, rfl, hw, num_sc nv, fun o => (by rw [nv] at o; cases o), fun _ _ => ?_, fun _ n en' r hr en => absurd (by rw [← en]; exact List.mem_map_of_mem hr) hz⟩
      refine fun d H' sm e => ⟨true, E_Unknown.self, fun _ x na => ?_, fun q => Bool.noConfusion q⟩
      walk_at "rdF"
      refine ⟨rfl, rfl, d, _, (V.str z), rfl, e, (by simp [List.lookup]), ?_⟩
      walk_at "rdF"
      refine ⟨cU, d, _, .ref cO, .ref cO, true, rfl, rfl, e, E_Unknown.ec, rfl, fun _ r => r, TE.uO, ?_⟩
      walk_at "rdF"
      refine ⟨sz (by simp), fun tp ntp => ?_⟩
      walk_at "rdF"
      refine ⟨cU, d, _, tp, _, _, false, rfl, rfl, same_new ntp _ _ e, E_Unknown.ec, rfl, upd_same, .cons (.own _) (.cons (.own _) .nil), kU, ?_⟩
      walk_at "rdF"
      refine ⟨sz (by simp), fun p np => ?_⟩
      exact h _ _ ((sm.trans (same_new ntp)).trans (same_new np)) (.tup trivial upd_same (.cons (.str _) (.cons (.str _) (.cons (.bl _) (.cons (.bl _) .nil)))))
    | @c5n z t v sv nv =>
      walk_at "rdF"
      refine if_dec (fun hh => absurd hh (by decide)) (fun _ => ?_)
      walk_at "rdF"
      refine if_dec (fun hh => absurd hh (by decide)) (fun _ => ?_)
      walk_at "rdF"
      refine if_dec (fun hh => absurd hh (by decide)) (fun _ => ?_)
      walk_at "rdF"
      refine if_dec (fun hh => absurd hh (by decide)) (fun _ => ?_)
      walk_at "rdF"
      refine if_dec (fun hh => absurd hh (by decide)) (fun _ => ?_)
      walk_at "rdF"
      refine if_dec (fun _ => ?_) (fun hh => absurd (by decide) hh)
      walk_at "rdF"
      refine ⟨a, dx, _, rfl, hA, by rfl, ?_⟩
      walk_at "rdF"
      refine ⟨U, a, L, B, z, value, rfl, hw, sv, fun _ => ?_, fun o => (by rw [nv] at o; cases o), fun o => (by rw [nv] at o; cases o)⟩
      refine fun d H' sm e => ⟨false, TE.xnu, fun q => Bool.noConfusion q, fun _ => ⟨true, E_BadNumber.self, fun _ x na => ?_, fun q => Bool.noConfusion q⟩⟩
      walk_at "rdF"
      refine ⟨rfl, rfl, d, _, value, rfl, e, (by simp [List.lookup]), ?_⟩
      walk_at "rdF"
      refine ⟨cN, d, _, .ref cO, .ref cO, true, rfl, rfl, e, E_BadNumber.ec, rfl, fun _ r => r, TE.nO, ?_⟩
      walk_at "rdF"
      refine ⟨sz (by simp), fun tp ntp => ?_⟩
      walk_at "rdF"
      refine ⟨cN, d, _, tp, _, _, false, rfl, rfl, same_new ntp _ _ e, E_BadNumber.ec, rfl, upd_same, .cons (.own _) (.cons (.own _) .nil), kN, ?_⟩
      walk_at "rdF"
      refine ⟨sz (by simp), fun p np => ?_⟩
      exact h _ _ ((sm.trans (same_new ntp)).trans (same_new np)) (.tup trivial upd_same (.cons (.str _) (.cons (.sc (by assumption)) (.cons (.bl _) (.cons (.bl _) .nil)))))
    | @c6 z t v ot ov cr hz =>
      walk_at "rdF"
      refine if_dec (fun hh => absurd hh (by decide)) (fun _ => ?_)
      walk_at "rdF"
      refine if_dec (fun hh => absurd hh (by decide)) (fun _ => ?_)
      walk_at "rdF"
      refine if_dec (fun hh => absurd hh (by decide)) (fun _ => ?_)
      walk_at "rdF"
      refine if_dec (fun hh => absurd hh (by decide)) (fun _ => ?_)
      walk_at "rdF"
      refine if_dec (fun hh => absurd hh (by decide)) (fun _ => ?_)
      walk_at "rdF"
      refine if_dec (fun hh => absurd hh (by decide)) (fun _ => ?_)
      walk_at "rdF"
      refine if_dec (fun _ => ?_) (fun hh => absurd (by decide) hh)
      walk_at "rdF"
      refine ⟨a, dx, _, rfl, hA, by rfl, ?_⟩
      walk_at "rdF"
      refine ⟨U, a, L, B, z, two, value, rfl, hw, open_sc ot, open_sc ov, fun o => (by rw [ot] at o; cases o), fun _ o => (by rw [ov] at o; cases o), fun _ _ o => (by rw [cr] at o; cases o), fun _ _ _ _ => ?_, fun _ _ _ hm => absurd hm hz⟩
      refine fun d H' sm e => ⟨true, E_Unknown.self, fun _ x na => ?_, fun q => Bool.noConfusion q⟩
      walk_at "rdF"
      refine ⟨rfl, rfl, d, _, (V.str z), rfl, e, (by simp [List.lookup]), ?_⟩
      walk_at "rdF"
      refine ⟨cU, d, _, .ref cO, .ref cO, true, rfl, rfl, e, E_Unknown.ec, rfl, fun _ r => r, TE.uO, ?_⟩
      walk_at "rdF"
      refine ⟨sz (by simp), fun tp ntp => ?_⟩
      walk_at "rdF"
      refine ⟨cU, d, _, tp, _, _, false, rfl, rfl, same_new ntp _ _ e, E_Unknown.ec, rfl, upd_same, .cons (.own _) (.cons (.own _) .nil), kU, ?_⟩
      walk_at "rdF"
      refine ⟨sz (by simp), fun p np => ?_⟩
      exact h _ _ ((sm.trans (same_new ntp)).trans (same_new np)) (.tup trivial upd_same (.cons (.str _) (.cons (.str _) (.cons (.bl _) (.cons (.bl _) .nil)))))
    | @c6a z t v st sv ot =>
      walk_at "rdF"
      refine if_dec (fun hh => absurd hh (by decide)) (fun _ => ?_)
      walk_at "rdF"
      refine if_dec (fun hh => absurd hh (by decide)) (fun _ => ?_)
      walk_at "rdF"
      refine if_dec (fun hh => absurd hh (by decide)) (fun _ => ?_)
      walk_at "rdF"
      refine if_dec (fun hh => absurd hh (by decide)) (fun _ => ?_)
      walk_at "rdF"
      refine if_dec (fun hh => absurd hh (by decide)) (fun _ => ?_)
      walk_at "rdF"
      refine if_dec (fun hh => absurd hh (by decide)) (fun _ => ?_)
      walk_at "rdF"
      refine if_dec (fun _ => ?_) (fun hh => absurd (by decide) hh)
      walk_at "rdF"
      refine ⟨a, dx, _, rfl, hA, by rfl, ?_⟩
      walk_at "rdF"
      refine ⟨U, a, L, B, z, two, value, rfl, hw, st, sv, fun _ => ?_, fun o => (by rw [ot] at o; cases o), fun o => (by rw [ot] at o; cases o), fun o => (by rw [ot] at o; cases o), fun o => (by rw [ot] at o; cases o)⟩
      refine fun d H' sm e => ⟨false, TE.xnu, fun q => Bool.noConfusion q, fun _ => ⟨true, E_BadNumber.self, fun _ x na => ?_, fun q => Bool.noConfusion q⟩⟩
      walk_at "rdF"
      refine ⟨rfl, rfl, d, _, two, rfl, e, (by simp [List.lookup]), ?_⟩
      walk_at "rdF"
      refine ⟨cN, d, _, .ref cO, .ref cO, true, rfl, rfl, e, E_BadNumber.ec, rfl, fun _ r => r, TE.nO, ?_⟩
      walk_at "rdF"
      refine ⟨sz (by simp), fun tp ntp => ?_⟩
      walk_at "rdF"
      refine ⟨cN, d, _, tp, _, _, false, rfl, rfl, same_new ntp _ _ e, E_BadNumber.ec, rfl, upd_same, .cons (.own _) (.cons (.own _) .nil), kN, ?_⟩
      walk_at "rdF"
      refine ⟨sz (by simp), fun p np => ?_⟩
      exact h _ _ ((sm.trans (same_new ntp)).trans (same_new np)) (.tup trivial upd_same (.cons (.str _) (.cons (.sc (by assumption)) (.cons (.bl _) (.cons (.bl _) .nil)))))
    | @c6b z t v sv ot ov =>
      walk_at "rdF"
      refine if_dec (fun hh => absurd hh (by decide)) (fun _ => ?_)
      walk_at "rdF"
      refine if_dec (fun hh => absurd hh (by decide)) (fun _ => ?_)
      walk_at "rdF"
      refine if_dec (fun hh => absurd hh (by decide)) (fun _ => ?_)
      walk_at "rdF"
      refine if_dec (fun hh => absurd hh (by decide)) (fun _ => ?_)
      walk_at "rdF"
      refine if_dec (fun hh => absurd hh (by decide)) (fun _ => ?_)
      walk_at "rdF"
      refine if_dec (fun hh => absurd hh (by decide)) (fun _ => ?_)
      walk_at "rdF"
      refine if_dec (fun _ => ?_) (fun hh => absurd (by decide) hh)
      walk_at "rdF"
      refine ⟨a, dx, _, rfl, hA, by rfl, ?_⟩
      walk_at "rdF"
      refine ⟨U, a, L, B, z, two, value, rfl, hw, open_sc ot, sv, fun o => (by rw [ot] at o; cases o), fun _ _ => ?_, fun _ o => (by rw [ov] at o; cases o), fun _ o => (by rw [ov] at o; cases o), fun _ o => (by rw [ov] at o; cases o)⟩
      refine fun d H' sm e => ⟨false, TE.xnu, fun q => Bool.noConfusion q, fun _ => ⟨true, E_BadNumber.self, fun _ x na => ?_, fun q => Bool.noConfusion q⟩⟩
      walk_at "rdF"
      refine ⟨rfl, rfl, d, _, value, rfl, e, (by simp [List.lookup]), ?_⟩
      walk_at "rdF"
      refine ⟨cN, d, _, .ref cO, .ref cO, true, rfl, rfl, e, E_BadNumber.ec, rfl, fun _ r => r, TE.nO, ?_⟩
      walk_at "rdF"
      refine ⟨sz (by simp), fun tp ntp => ?_⟩
      walk_at "rdF"
      refine ⟨cN, d, _, tp, _, _, false, rfl, rfl, same_new ntp _ _ e, E_BadNumber.ec, rfl, upd_same, .cons (.own _) (.cons (.own _) .nil), kN, ?_⟩
      walk_at "rdF"
      refine ⟨sz (by simp), fun p np => ?_⟩
      exact h _ _ ((sm.trans (same_new ntp)).trans (same_new np)) (.tup trivial upd_same (.cons (.str _) (.cons (.sc (by assumption)) (.cons (.bl _) (.cons (.bl _) .nil)))))
    | @c6c z t v ot ov cr =>
      walk_at "rdF"
      refine if_dec (fun hh => absurd hh (by decide)) (fun _ => ?_)
      walk_at "rdF"
      refine if_dec (fun hh => absurd hh (by decide)) (fun _ => ?_)
      walk_at "rdF"
      refine if_dec (fun hh => absurd hh (by decide)) (fun _ => ?_)
      walk_at "rdF"
      refine if_dec (fun hh => absurd hh (by decide)) (fun _ => ?_)
      walk_at "rdF"
      refine if_dec (fun hh => absurd hh (by decide)) (fun _ => ?_)
      walk_at "rdF"
      refine if_dec (fun hh => absurd hh (by decide)) (fun _ => ?_)
      walk_at "rdF"
      refine if_dec (fun _ => ?_) (fun hh => absurd (by decide) hh)
      walk_at "rdF"
      refine ⟨a, dx, _, rfl, hA, by rfl, ?_⟩
      walk_at "rdF"
      refine ⟨U, a, L, B, z, two, value, rfl, hw, open_sc ot, open_sc ov, fun o => (by rw [ot] at o; cases o), fun _ o => (by rw [ov] at o; cases o), fun _ _ _ => ?_, fun _ _ o => (by rw [cr] at o; cases o), fun _ _ o => (by rw [cr] at o; cases o)⟩
      refine fun d H' sm e => ⟨false, TE.xbu, fun q => Bool.noConfusion q, fun _ => ⟨false, TE.xbn, fun q => Bool.noConfusion q, fun _ => ⟨true, E_BadSpan.self, fun _ x na => ?_, fun q => Bool.noConfusion q⟩⟩⟩
      have l1 : ([("high", value), ("low", two)] : List (Str × V)).lookup ("low" : Str) = some two := by
        have e1 : (("low" : Str) == ("high" : Str)) = false := by decide
        simp [List.lookup, e1]
      have l2 : ([("high", value), ("low", two)] : List (Str × V)).lookup ("high" : Str) = some value := by simp [List.lookup]
      walk_at "rdF"
      refine ⟨rfl, rfl, d, _, two, rfl, e, l1, ?_⟩
      walk_at "rdF"
      refine ⟨rfl, rfl, d, _, value, rfl, e, l2, ?_⟩
      walk_at "rdF"
      refine ⟨sz (by simp), fun p1 np1 => ?_⟩
      have s1 := same_new (o := .tup [two, value]) np1
      have e := s1 _ _ e
      have k1 : R (upd H' p1 (.tup [two, value])) (.ref p1) (.tuple [vD two, vD value]) := .tup trivial upd_same (.cons (.sc (open_sc ot)) (.cons (.sc (open_sc ov)) .nil))
      have sm := sm.trans s1
      walk_at "rdF"
      refine ⟨cB, d, _, .ref cO, .ref cO, true, rfl, rfl, e, E_BadSpan.ec, rfl, fun _ r => r, TE.bO, ?_⟩
      walk_at "rdF"
      refine ⟨sz (by simp), fun tp ntp => ?_⟩
      walk_at "rdF"
      refine ⟨cB, d, _, tp, _, _, false, rfl, rfl, same_new ntp _ _ e, E_BadSpan.ec, rfl, upd_same, .cons (.own _) (.cons (.own _) .nil), kB, ?_⟩
      walk_at "rdF"
      refine ⟨sz (by simp), fun p np => ?_⟩
      exact h _ _ ((sm.trans (same_new ntp)).trans (same_new np)) (.tup trivial upd_same (.cons (.str _) (.cons ((k1.same (same_new ntp)).same (same_new np)) (.cons (.bl _) (.cons (.bl _) .nil)))))
    | @c7 z t v hz =>
      walk_at "rdF"
      refine if_dec (fun hh => absurd hh (by decide)) (fun _ => ?_)
      walk_at "rdF"
      refine if_dec (fun hh => absurd hh (by decide)) (fun _ => ?_)
      walk_at "rdF"
      refine if_dec (fun hh => absurd hh (by decide)) (fun _ => ?_)
      walk_at "rdF"
      refine if_dec (fun hh => absurd hh (by decide)) (fun _ => ?_)
      walk_at "rdF"
      refine if_dec (fun hh => absurd hh (by decide)) (fun _ => ?_)
      walk_at "rdF"
      refine if_dec (fun hh => absurd hh (by decide)) (fun _ => ?_)
      walk_at "rdF"
      refine if_dec (fun hh => absurd hh (by decide)) (fun _ => ?_)
      walk_at "rdF"
      refine if_dec (fun _ => ?_) (fun hh => absurd (by decide) hh)
      walk_at "rdF"
      refine ⟨a, dx, _, rfl, hA, by rfl, ?_⟩
      walk_at "rdF"
      refine ⟨U, a, L, B, z, rfl, hw, fun _ => ?_, fun hm => absurd hm hz⟩
      refine fun d H' sm e => ⟨true, E_Unknown.self, fun _ x na => ?_, fun q => Bool.noConfusion q⟩
      walk_at "rdF"
      refine ⟨rfl, rfl, d, _, (V.str z), rfl, e, (by simp [List.lookup]), ?_⟩
      walk_at "rdF"
      refine ⟨cU, d, _, .ref cO, .ref cO, true, rfl, rfl, e, E_Unknown.ec, rfl, fun _ r => r, TE.uO, ?_⟩
      walk_at "rdF"
      refine ⟨sz (by simp), fun tp ntp => ?_⟩
      walk_at "rdF"
      refine ⟨cU, d, _, tp, _, _, false, rfl, rfl, same_new ntp _ _ e, E_Unknown.ec, rfl, upd_same, .cons (.own _) (.cons (.own _) .nil), kU, ?_⟩
      walk_at "rdF"
      refine ⟨sz (by simp), fun p np => ?_⟩
      exact h _ _ ((sm.trans (same_new ntp)).trans (same_new np)) (.tup trivial upd_same (.cons (.str _) (.cons (.str _) (.cons (.bl _) (.cons (.bl _) .nil)))))
    | @c8 z y v hz =>
      walk_at "rdF"
      refine if_dec (fun hh => absurd hh (by decide)) (fun _ => ?_)
      walk_at "rdF"
      refine if_dec (fun hh => absurd hh (by decide)) (fun _ => ?_)
      walk_at "rdF"
      refine if_dec (fun hh => absurd hh (by decide)) (fun _ => ?_)
      walk_at "rdF"
      refine if_dec (fun hh => absurd hh (by decide)) (fun _ => ?_)
      walk_at "rdF"
      refine if_dec (fun hh => absurd hh (by decide)) (fun _ => ?_)
      walk_at "rdF"
      refine if_dec (fun hh => absurd hh (by decide)) (fun _ => ?_)
      walk_at "rdF"
      refine if_dec (fun hh => absurd hh (by decide)) (fun _ => ?_)
      walk_at "rdF"
      refine if_dec (fun hh => absurd hh (by decide)) (fun _ => ?_)
      walk_at "rdF"
      refine if_dec (fun _ => ?_) (fun hh => absurd (by decide) hh)
      walk_at "rdF"
      refine ⟨a, dx, _, rfl, hA, by rfl, ?_⟩
      walk_at "rdF"
      refine ⟨U, a, L, B, z, y, rfl, hw, fun r hr en => absurd (by rw [← en]; exact List.mem_map_of_mem hr) hz, fun _ => ?_⟩
      refine fun d H' sm e => ⟨true, E_Unknown.self, fun _ x na => ?_, fun q => Bool.noConfusion q⟩
      walk_at "rdF"
      refine ⟨rfl, rfl, d, _, (V.str z), rfl, e, (by simp [List.lookup]), ?_⟩
      walk_at "rdF"
      refine ⟨cU, d, _, .ref cO, .ref cO, true, rfl, rfl, e, E_Unknown.ec, rfl, fun _ r => r, TE.uO, ?_⟩
      walk_at "rdF"
      refine ⟨sz (by simp), fun tp ntp => ?_⟩
      walk_at "rdF"
      refine ⟨cU, d, _, tp, _, _, false, rfl, rfl, same_new ntp _ _ e, E_Unknown.ec, rfl, upd_same, .cons (.own _) (.cons (.own _) .nil), kU, ?_⟩
      walk_at "rdF"
      refine ⟨sz (by simp), fun p np => ?_⟩
      exact h _ _ ((sm.trans (same_new ntp)).trans (same_new np)) (.tup trivial upd_same (.cons (.str _) (.cons (.str _) (.cons (.bl _) (.cons (.bl _) .nil)))))
    | @c8x z y v r hr en n1 n2 =>
      walk_at "rdF"
      refine if_dec (fun hh => absurd hh (by decide)) (fun _ => ?_)
      walk_at "rdF"
      refine if_dec (fun hh => absurd hh (by decide)) (fun _ => ?_)
      walk_at "rdF"
      refine if_dec (fun hh => absurd hh (by decide)) (fun _ => ?_)
      walk_at "rdF"
      refine if_dec (fun hh => absurd hh (by decide)) (fun _ => ?_)
      walk_at "rdF"
      refine if_dec (fun hh => absurd hh (by decide)) (fun _ => ?_)
      walk_at "rdF"
      refine if_dec (fun hh => absurd hh (by decide)) (fun _ => ?_)
      walk_at "rdF"
      refine if_dec (fun hh => absurd hh (by decide)) (fun _ => ?_)
      walk_at "rdF"
      refine if_dec (fun hh => absurd hh (by decide)) (fun _ => ?_)
      walk_at "rdF"
      refine if_dec (fun _ => ?_) (fun hh => absurd (by decide) hh)
      walk_at "rdF"
      refine ⟨a, dx, _, rfl, hA, by rfl, ?_⟩
      walk_at "rdF"
      refine ⟨U, a, L, B, z, y, rfl, hw, fun r1 hr1 en1 => ?_, fun hn => absurd (by rw [← en]; exact List.mem_map_of_mem hr) hn⟩
      obtain rfl := nodup_inj hw.ok.rt.db r1 hr1 r hr (en1.trans en.symm)
      refine ⟨fun e1 => absurd e1 n1, fun _ e2 => absurd e2 n2, fun _ _ => ?_⟩
      refine fun d H' sm e => ⟨true, E_Unknown.self, fun _ x na => ?_, fun q => Bool.noConfusion q⟩
      walk_at "rdF"
      refine ⟨rfl, rfl, d, _, (V.str y), rfl, e, (by simp [List.lookup]), ?_⟩
      walk_at "rdF"
      refine ⟨cU, d, _, .ref cO, .ref cO, true, rfl, rfl, e, E_Unknown.ec, rfl, fun _ r => r, TE.uO, ?_⟩
      walk_at "rdF"
      refine ⟨sz (by simp), fun tp ntp => ?_⟩
      walk_at "rdF"
      refine ⟨cU, d, _, tp, _, _, false, rfl, rfl, same_new ntp _ _ e, E_Unknown.ec, rfl, upd_same, .cons (.own _) (.cons (.own _) .nil), kU, ?_⟩
      walk_at "rdF"
      refine ⟨sz (by simp), fun p np => ?_⟩
      exact h _ _ ((sm.trans (same_new ntp)).trans (same_new np)) (.tup trivial upd_same (.cons (.str _) (.cons (.str _) (.cons (.bl _) (.cons (.bl _) .nil)))))
    | @c8f z y v r hr en e12 =>
      walk_at "rdF"
      refine if_dec (fun hh => absurd hh (by decide)) (fun _ => ?_)
      walk_at "rdF"
      refine if_dec (fun hh => absurd hh (by decide)) (fun _ => ?_)
      walk_at "rdF"
      refine if_dec (fun hh => absurd hh (by decide)) (fun _ => ?_)
      walk_at "rdF"
      refine if_dec (fun hh => absurd hh (by decide)) (fun _ => ?_)
      walk_at "rdF"
      refine if_dec (fun hh => absurd hh (by decide)) (fun _ => ?_)
      walk_at "rdF"
      refine if_dec (fun hh => absurd hh (by decide)) (fun _ => ?_)
      walk_at "rdF"
      refine if_dec (fun hh => absurd hh (by decide)) (fun _ => ?_)
      walk_at "rdF"
      refine if_dec (fun hh => absurd hh (by decide)) (fun _ => ?_)
      walk_at "rdF"
      refine if_dec (fun _ => ?_) (fun hh => absurd (by decide) hh)
      walk_at "rdF"
      refine ⟨a, dx, _, rfl, hA, by rfl, ?_⟩
      walk_at "rdF"
      refine ⟨U, a, L, B, z, y, rfl, hw, fun r1 hr1 en1 => ?_, fun hn => absurd (by rw [← en]; exact List.mem_map_of_mem hr) hn⟩
      obtain rfl := nodup_inj hw.ok.rt.db r1 hr1 r hr (en1.trans en.symm)
      refine ⟨fun e1 => ?_, fun _ e2 => ?_, fun n1 n2 => absurd e12 (fun e => e.elim n1 n2)⟩
      · walk_at "rdF"
        exact h _ _ (Same.refl _) (.str _)
      · walk_at "rdF"
        exact h _ _ (Same.refl _) (.str _)
    | @c9 z t v u st sv su nR hW =>
      walk_at "rdF"
      refine if_dec (fun hh => absurd hh (by decide)) (fun _ => ?_)
      walk_at "rdF"
      refine if_dec (fun hh => absurd hh (by decide)) (fun _ => ?_)
      walk_at "rdF"
      refine if_dec (fun hh => absurd hh (by decide)) (fun _ => ?_)
      walk_at "rdF"
      refine if_dec (fun hh => absurd hh (by decide)) (fun _ => ?_)
      walk_at "rdF"
      refine if_dec (fun hh => absurd hh (by decide)) (fun _ => ?_)
      walk_at "rdF"
      refine if_dec (fun hh => absurd hh (by decide)) (fun _ => ?_)
      walk_at "rdF"
      refine if_dec (fun hh => absurd hh (by decide)) (fun _ => ?_)
      walk_at "rdF"
      refine if_dec (fun hh => absurd hh (by decide)) (fun _ => ?_)
      walk_at "rdF"
      refine if_dec (fun hh => absurd hh (by decide)) (fun _ => ?_)
      walk_at "rdF"
      refine ⟨a, dx, _, rfl, hA, by rfl, ?_⟩
      walk_at "rdF"
      refine ⟨rfl, rfl, U, a, L, B, ⟨"b", z, z, two, value⟩, rfl, hw, (show (("b" : Str)).length ≤ 1000 by decide), st, sv, fun e he => ?_, fun R => absurd R nR⟩
      obtain rfl := hW e he
      show ErrF _ c.num H [("number", u)]
      rw [cn]
      refine fun d H' sm e => ⟨false, TE.xnu, fun q => Bool.noConfusion q, fun _ => ⟨true, E_BadNumber.self, fun _ x na => ?_, fun q => Bool.noConfusion q⟩⟩
      walk_at "rdF"
      refine ⟨rfl, rfl, d, _, u, rfl, e, (by simp [List.lookup]), ?_⟩
      walk_at "rdF"
      refine ⟨cN, d, _, .ref cO, .ref cO, true, rfl, rfl, e, E_BadNumber.ec, rfl, fun _ r => r, TE.nO, ?_⟩
      walk_at "rdF"
      refine ⟨sz (by simp), fun tp ntp => ?_⟩
      walk_at "rdF"
      refine ⟨cN, d, _, tp, _, _, false, rfl, rfl, same_new ntp _ _ e, E_BadNumber.ec, rfl, upd_same, .cons (.own _) (.cons (.own _) .nil), kN, ?_⟩
      walk_at "rdF"
      refine ⟨sz (by simp), fun p np => ?_⟩
      exact h _ _ ((sm.trans (same_new ntp)).trans (same_new np)) (.tup trivial upd_same (.cons (.str _) (.cons (.sc (by assumption)) (.cons (.bl _) (.cons (.bl _) .nil)))))
end
set_option maxHeartbeats 2000000
abbrev s_law_odd : Stmt := topS 67
theorem sc_law_odd : FnScope ["store", "plan", "names"] ["store", "plan"] (defScope s_law_odd) := ⟨rfl, rfl, rfl, by decide +kernel, rfl, by decide +kernel, by decide +kernel⟩
section
variable {P : Program} {w : World} {K : PySem.W.Frag} {mg : Str → Option Value} {base : Heap} {C CS CE CB CU : Addr}
abbrev RS (S : Sto) (H : Hp) (v : V) (d : PyData) : Prop := Rep (US S) H v d
def spOdd : Sp := fun vs H Q _ => ∃ (S : Sto) (v : V) (L : List (Str × V)) (B : List BR) (rest : List PyData), vs = [.ref S.1, v] ∧ StoreOk S H ∧ RS S H v (planD L B rest) ∧ Right L B ∧
  ∀ (p : Addr) (U : List Str) (H' : Hp), Gd S H H' → H p = none → p ≠ S.1 → H' p = some (.lst (U.map V.str)) → (("" : Str)) ∈ U → U.length ≤ 100 → Q (.ref p) H'
theorem ok_odd {k : Nat} {f : Addr} {fd : FuncData} (F : Fun K "_law_odd" "_law_odd" s_law_odd f fd) (T : Blt mg) (H_law_posts : Has P w K mg base "_law_posts" k ["plan"] spPosts) (H_law_labels : Has P w K mg base "_law_labels" k ["plan"] spLabels) (H_law_name : Has P w K mg base "_law_name" k ["store"] spName) (H_law_pick : Has P w K mg base "_law_pick" k ["store", "items"] spPick) : FnOk P w K mg base CX0 (k + 1) f fd ["store", "plan"] spOdd := by
  refine F.ok sc_law_odd (fun vs H Q E h => ?_) (fun cdv A outer s H vs Q E hr h => ?_)
  · obtain ⟨S, v, L, B, rest, rfl, _⟩ := h; rfl
  · obtain ⟨S, v, L, B, rest, rfl, hS, hv, rt, h⟩ := h
    have lL := rt.l10
    have lL1 := rt.l1
    have lB := rt.l16
    refine ⟨_, (pss_cons (ps_set (i := 2) sc_law_odd.nd rfl (.inl rfl) (pe_op op_cat (pe_callH H_law_posts hr (by rfl) (pa_cons (pv 1) pa_nil)) (pe_callH H_law_labels hr (by rfl) (pa_cons (pv 1) pa_nil))))
 (pss_one (ps_ret (pe_op op_cat (pv 2) (pe_lst (pa_cons pe_str (pa_cons pe_str (pa_cons (pe_callH H_law_name hr (by rfl) (pa_cons (pv 0) pa_nil)) (pa_cons (pe_op op_add_str (pe_callH H_law_pick hr (by rfl) (pa_cons (pv 0) (pa_cons (pv 2) pa_nil))) (pe_callH H_law_pick hr (by rfl) (pa_cons (pv 0) (pa_cons pe_str pa_nil)))) pa_nil))))))))), ?_⟩
    walk_at "rdF"
    refine ⟨v, L, _, rfl, hv.less fun _ _ => trivial, by omega, rt.dl, fun p1 H1 s1 n1 hp1 => ?_⟩
    walk_at "rdF"
    refine ⟨v, B, _, _, rfl, (hv.same s1).less fun _ _ => trivial, by omega, rt.db, fun p2 H2 s2 n2 hp2 => ?_⟩
    have l1 : (lampNs (sortL L)).length = L.length := by rw [List.length_map, srt_len]
    have l2 : (bondNs (srtBy BR.n B)).length = B.length := by rw [List.length_map, srt_len]
    walk_at "rdF"
    refine ⟨p1, p2, _, _, rfl, rfl, s2 _ _ hp1, hp2, sz (by simp only [List.length_map, srt_len]; omega), fun p3 n3 => ?_⟩
    rw [← List.map_append]
    have hS2 := (hS.same s1).same s2
    have g3 : Gd S H _ := (Gd.same hS (s1.trans s2)).trans (Gd.new hS2 (o := .lst ((lampNs (sortL L) ++ bondNs (srtBy BR.n B)).map V.str)) n3)
    have a3 : p3 ≠ S.1 := hS2.ne1 n3
    have hp3 := @upd_same H2 p3 (.lst ((lampNs (sortL L) ++ bondNs (srtBy BR.n B)).map V.str))
    generalize upd H2 p3 (.lst ((lampNs (sortL L) ++ bondNs (srtBy BR.n B)).map V.str)) = H3 at *
    walk_at "rdF"
    refine ⟨S, rfl, g3.ok, fun z H4 nz hS4 e4 => ?_⟩
    have g4 := g3.trans (.of hS4 e4)
    have hp4 := e4 _ _ a3 hp3
    walk_at "rdF"
    refine ⟨S, _, rfl, hS4, .inl ⟨p3, _, rfl, ⟨a3, hp4⟩, by rw [List.length_map, List.length_append]; omega, by rw [List.length_map, List.length_append]; omega, fun u H5 hu hS5 e5 => ?_⟩⟩
    obtain ⟨y, hy, rfl⟩ := List.mem_map.mp hu
    have ny : isNm y = true := by
      rcases List.mem_append.mp hy with q | q
      · obtain ⟨r, hr, rfl⟩ := List.mem_map.mp q
        exact rt.nm _ (List.mem_append.mpr (.inl (List.mem_map_of_mem (srt_mem.mp hr))))
      · obtain ⟨r, hr, rfl⟩ := List.mem_map.mp q
        exact rt.nm _ (List.mem_append.mpr (.inr (List.mem_map_of_mem (srt_mem.mp hr))))
    have ly := (isNm_len ny).2
    walk_at "rdF"
    refine ⟨S, _, rfl, hS5, .inr ⟨_, rfl, by decide, by decide, fun c H6 hc hS6 e6 => ?_⟩⟩
    have g6 := (g4.trans (.of hS5 e5)).trans (.of hS6 e6)
    have hp6 := e6 _ _ a3 (e5 _ _ a3 hp4)
    walk_at "rdF"
    have lc : (⟨#[c]⟩ : Str).length = 1 := rfl
    refine ⟨sz (by omega), ?_⟩
    refine ⟨sz (by simp), fun p7 n7 => ?_⟩
    have s7 := same_new (o := .lst [V.str "", V.str "A", V.str z, V.str (y ++ ⟨#[c]⟩)]) n7
    have g7 := g6.trans (.same g6.ok s7)
    have hp7 := @upd_same H6 p7 (.lst [V.str "", V.str "A", V.str z, V.str (y ++ ⟨#[c]⟩)])
    generalize upd H6 p7 (.lst [V.str "", V.str "A", V.str z, V.str (y ++ ⟨#[c]⟩)]) = H7 at *
    refine ⟨p3, p7, _, _, rfl, rfl, s7 _ _ hp6, hp7, sz (by simp only [List.length_map, List.length_append, srt_len]; simp; omega), fun p8 n8 => ?_⟩
    refine h p8 ((lampNs (sortL L) ++ bondNs (srtBy BR.n B)) ++ [(("" : Str)), (("A" : Str)), z, y ++ ⟨#[c]⟩]) _ (g7.trans (.new g7.ok n8)) (g7.ex.dom _ n8) (g7.ok.ne1 n8) ?_ (by simp) (by simp only [List.length_append, List.length_map, srt_len]; simp; omega)
    simp only [upd_same, List.map_append]; rfl
end
set_option maxHeartbeats 1000000
theorem rep3 {U : Addr → Prop} {H : Hp} {xs : List V} {a b c : PyData} (h : RepL U H xs [a, b, c]) : ∃ u v w, xs = [u, v, w] ∧ Rep U H u a ∧ Rep U H v b ∧ Rep U H w c := by
  cases h with
  | cons h1 h => cases h with
    | cons h2 h => cases h with
      | cons h3 h => cases h; exact ⟨_, _, _, rfl, h1, h2, h3⟩
theorem cut_from {xs : List V} {k : Nat} : cutV xs (some (k : Int)) none = xs.drop k := by
  unfold cutV
  rw [HT.sIx_none, HT.sIx_nat]
  by_cases h : k ≤ xs.length
  · rw [Nat.min_eq_left h, List.take_of_length_le (by rw [List.length_drop]; omega)]
  · rw [Nat.min_eq_right (by omega), List.drop_of_length_le (by omega), List.drop_of_length_le (by omega)]; simp
theorem Right.setCeil {L : List (Str × V)} {B : List BR} {z : Str} {v : V} (r : Right L B) (hv : isOpen v = true) : Right (setCeil L z v) B := by
  refine ⟨⟨⟨⟨⟨⟨⟨⟨⟨by rw [setCeil_ns]; exact r.nm⟩, fun u hu => ?_⟩, r.sp⟩, by rw [setCeil_ns]; exact r.dl⟩, r.db⟩, r.sf⟩, by rw [setCeil_ns]; exact r.unk⟩, by unfold Z.setCeil; rw [List.length_map]; exact r.l1, by unfold Z.setCeil; rw [List.length_map]; exact r.l10⟩, r.l16⟩
  rcases List.mem_append.mp hu with q | q
  · obtain ⟨p, hp, rfl⟩ := List.mem_map.mp q
    obtain ⟨p0, hp0, rfl⟩ := List.mem_map.mp hp
    show isOpen (if p0.1 = z then v else p0.2) = true
    by_cases c : p0.1 = z
    · rw [if_pos c]; exact hv
    · rw [if_neg c]; exact r.num _ (List.mem_append.mpr (.inl (List.mem_map_of_mem hp0)))
  · exact r.num _ (List.mem_append.mpr (.inr q))
theorem Right.setSpan {L : List (Str × V)} {B : List BR} {z : Str} {l h : V} (r : Right L B) (ol : isOpen l = true) (oh : isOpen h = true) (cr : crossed l h = false) : Right L (setSpan B z l h) := by
  have nm : (fun r : BR => (if r.n = z then (⟨r.n, r.x, r.y, l, h⟩ : BR) else r).n) = BR.n := by
    funext r
    by_cases c : r.n = z <;> simp [c]
  have ns : bondNs (Z.setSpan B z l h) = bondNs B := by
    unfold Z.setSpan bondNs
    rw [List.map_map]
    exact congrArg (fun f => B.map f) nm
  have mem : ∀ q ∈ Z.setSpan B z l h, ∃ r ∈ B, q = r ∨ q = ⟨r.n, r.x, r.y, l, h⟩ := fun q hq => by
    obtain ⟨r, hr, rfl⟩ := List.mem_map.mp hq
    by_cases c : r.n = z
    · exact ⟨r, hr, .inr (by rw [if_pos c])⟩
    · exact ⟨r, hr, .inl (by rw [if_neg c])⟩
  refine ⟨⟨⟨⟨⟨⟨⟨⟨⟨by rw [ns]; exact r.nm⟩, fun u hu => ?_⟩, fun q hq => ?_⟩, r.dl⟩, by rw [ns]; exact r.db⟩, fun q hq => ?_⟩, fun y hy => ?_⟩, r.l1, r.l10⟩, by unfold Z.setSpan; rw [List.length_map]; exact r.l16⟩
  · rcases List.mem_append.mp hu with q | q
    · exact r.num _ (List.mem_append.mpr (.inl q))
    · obtain ⟨q, hq, hu⟩ := List.mem_flatMap.mp q
      obtain ⟨p, hp, rfl | rfl⟩ := mem q hq
      · exact r.num _ (List.mem_append.mpr (.inr (List.mem_flatMap.mpr ⟨q, hp, hu⟩)))
      · simp at hu
        rcases hu with rfl | rfl
        · exact ol
        · exact oh
  · obtain ⟨p, hp, rfl | rfl⟩ := mem q hq
    · exact r.sp _ hp
    · exact cr
  · obtain ⟨p, hp, rfl | rfl⟩ := mem q hq
    · exact r.sf _ hp
    · exact r.sf p hp
  · obtain ⟨q, hq, hy⟩ := List.mem_flatMap.mp hy
    obtain ⟨p, hp, rfl | rfl⟩ := mem q hq
    · exact r.unk y (List.mem_flatMap.mpr ⟨q, hp, hy⟩)
    · exact r.unk y (List.mem_flatMap.mpr ⟨p, hp, hy⟩)
theorem Right.add {L : List (Str × V)} {B : List BR} {q : BR} (r : Right L B) (hn : isNm q.n = true) (hf : q.n ∉ bondNs B) (ol : isOpen q.l = true) (oh : isOpen q.h = true) (cr : crossed q.l q.h = false) (hx : q.x ∈ lampNs L) (hy : q.y ∈ lampNs L) (ne : q.x ≠ q.y) (hl : B.length < 16) : Right L (B ++ [q]) := by
  have eb : bondNs (B ++ [q]) = bondNs B ++ [q.n] := by unfold bondNs; rw [List.map_append]; rfl
  have en : endsOf (B ++ [q]) = endsOf B ++ [q.x, q.y] := by unfold endsOf; rw [List.flatMap_append]; simp
  have eN : numsOf L (B ++ [q]) = numsOf L B ++ [q.l, q.h] := by unfold numsOf; rw [List.flatMap_append, ← List.append_assoc]; simp
  refine ⟨⟨⟨⟨⟨⟨⟨⟨⟨fun z hz => ?_⟩, fun u hu => ?_⟩, fun p hp => ?_⟩, r.dl⟩, ?_⟩, fun p hp => ?_⟩, fun y hy' => ?_⟩, r.l1, r.l10⟩, by rw [List.length_append]; simp; omega⟩
  · rw [eb, ← List.append_assoc] at hz
    rcases List.mem_append.mp hz with h | h
    · exact r.nm z h
    · rw [List.mem_singleton.mp h]; exact hn
  · rw [eN] at hu
    rcases List.mem_append.mp hu with h | h
    · exact r.num u h
    · simp at h
      rcases h with rfl | rfl
      · exact ol
      · exact oh
  · rcases List.mem_append.mp hp with h | h
    · exact r.sp p h
    · rw [List.mem_singleton.mp h]; exact cr
  · rw [eb]
    exact List.nodup_append.mpr ⟨r.db, by simp, fun a ha b hb e => hf (by rw [← List.mem_singleton.mp hb, ← e]; exact ha)⟩
  · rcases List.mem_append.mp hp with h | h
    · exact r.sf p h
    · rw [List.mem_singleton.mp h]; exact ne
  · rw [en] at hy'
    rcases List.mem_append.mp hy' with h | h
    · exact r.unk y h
    · simp at h
      rcases h with rfl | rfl
      · exact hx
      · exact hy
theorem sortL_setCeil {L : List (Str × V)} {z : Str} {v : V} (nd : (lampNs L).Nodup) : sortL (setCeil L z v) = setCeil (sortL L) z v :=
  srt_map (f := fun r : Str × V => r.1) (g := fun r : Str × V => (r.1, if r.1 = z then v else r.2)) nd
theorem kept_set {z : Str} {l h : V} (r : BR) : keptBR (if r.n = z then ⟨r.n, r.x, r.y, l, h⟩ else r) = (if (keptBR r).n = z then ⟨(keptBR r).n, (keptBR r).x, (keptBR r).y, l, h⟩ else keptBR r) := by
  by_cases c : r.n = z <;> simp [keptBR, c]
theorem sortB_setSpan {B : List BR} {z : Str} {l h : V} (nd : (bondNs B).Nodup) : sortB (setSpan B z l h) = setSpan (sortB B) z l h := by
  have e : (setSpan B z l h).map keptBR = (B.map keptBR).map fun r => if r.n = z then ⟨r.n, r.x, r.y, l, h⟩ else r := by
    unfold setSpan
    rw [List.map_map, List.map_map]
    exact List.map_congr_left fun r _ => kept_set r
  have nm : (fun r : BR => (if r.n = z then (⟨r.n, r.x, r.y, l, h⟩ : BR) else r).n) = BR.n := by
    funext r
    by_cases c : r.n = z <;> simp [c]
  show srtBy BR.n ((setSpan B z l h).map keptBR) = _
  rw [e, srt_map (f := BR.n) (g := fun r : BR => if r.n = z then ⟨r.n, r.x, r.y, l, h⟩ else r) (by rw [nm, List.map_map]; exact nd), nm]; rfl
theorem sortB_others {B : List BR} {z : Str} (nd : (bondNs B).Nodup) : sortB (othersD B z) = othersD (sortB B) z := by
  have e : (othersD B z).map keptBR = othersD (B.map keptBR) z := by
    unfold othersD
    rw [List.filter_map]; rfl
  show srtBy BR.n ((othersD B z).map keptBR) = othersD (srtBy BR.n (B.map keptBR)) z
  rw [e]
  refine (srt_eq ((srt_perm _).filter _) ((srt_asc _).sublist List.filter_sublist) ?_).symm
  refine (List.filter_sublist.map _).nodup ?_
  rw [List.map_map]; exact nd
theorem kept_swap {n x y : Str} {l h : V} : keptBR ⟨n, x, y, l, h⟩ = keptBR ⟨n, y, x, l, h⟩ := by
  unfold keptBR minS maxS
  by_cases h1 : ltS y x
  · simp [h1, ltS_asymm h1]
  · by_cases h2 : ltS x y
    · simp [h1, h2]
    · have e : x = y := ltS_tri h2 h1
      subst e; rfl
theorem sortB_new {B : List BR} {q q' : BR} (e : keptBR q = keptBR q') (nd : (bondNs (B ++ [q'])).Nodup) : sortB (sortB B ++ [q]) = sortB (B ++ [q']) := by
  have pm : ((sortB B ++ [q]).map keptBR).Perm ((B ++ [q']).map keptBR) := by
    rw [List.map_append, List.map_append]
    have e1 : (sortB B).map keptBR = sortB B := by
      conv => rhs; rw [← List.map_id (sortB B)]
      exact List.map_congr_left fun r hr => by
        obtain ⟨p, _, rfl⟩ := List.mem_map.mp (srt_mem.mp hr)
        exact kept_kept p
    rw [e1]
    refine (srt_perm _).append ?_
    show [keptBR q].Perm [keptBR q']
    rw [e]
  exact srt_of_perm pm (by rw [List.map_map]; exact nd)
theorem upd_at {α : Type} {f : α → Str} {g : α → α} {l : List α} {i : Nat} {r : α} (nd : (l.map f).Nodup) (hr : l[i]? = some r) : l.take i ++ [g r] ++ l.drop (i + 1) = l.map fun q => if f q = f r then g q else q := by
  obtain ⟨hl, e1⟩ := List.getElem?_eq_some_iff.mp hr
  have el : l = l.take i ++ r :: l.drop (i + 1) := by rw [← e1]; simp
  have h1 := not_before nd hr
  have h2 : ∀ z ∈ l.drop (i + 1), f z ≠ f r := fun z hz e => by
    rw [el, List.map_append, List.map_cons, List.nodup_append] at nd
    exact (List.nodup_cons.mp nd.2.1).1 (by rw [← e]; exact List.mem_map_of_mem hz)
  conv => rhs; rw [el]
  rw [List.map_append, List.map_cons, if_pos rfl]
  have m1 : (l.take i).map (fun q => if f q = f r then g q else q) = l.take i := by
    conv => rhs; rw [← List.map_id (l.take i)]
    exact List.map_congr_left fun q hq => by rw [if_neg (h1 q hq)]; rfl
  have m2 : (l.drop (i + 1)).map (fun q => if f q = f r then g q else q) = l.drop (i + 1) := by
    conv => rhs; rw [← List.map_id (l.drop (i + 1))]
    exact List.map_congr_left fun q hq => by rw [if_neg (h2 q hq)]; rfl
  rw [m1, m2]; simp
theorem ceil_at {L : List (Str × V)} {i : Nat} {r : Str × V} {v : V} (nd : (lampNs L).Nodup) (hr : L[i]? = some r) : L.take i ++ [(r.1, v)] ++ L.drop (i + 1) = setCeil L r.1 v := by
  have := upd_at (f := fun r : Str × V => r.1) (g := fun q : Str × V => (q.1, v)) nd hr
  rw [this]
  unfold setCeil
  exact List.map_congr_left fun q _ => by
    by_cases c : q.1 = r.1
    · rw [if_pos c, if_pos c]
    · rw [if_neg c, if_neg c]
theorem span_at {B : List BR} {i : Nat} {r : BR} {l h : V} (nd : (bondNs B).Nodup) (hr : B[i]? = some r) : B.take i ++ [(⟨r.n, r.x, r.y, l, h⟩ : BR)] ++ B.drop (i + 1) = setSpan B r.n l h :=
  upd_at (f := BR.n) (g := fun q : BR => (⟨q.n, q.x, q.y, l, h⟩ : BR)) nd hr
theorem others_at {B : List BR} {i : Nat} {r : BR} (nd : (bondNs B).Nodup) (hr : B[i]? = some r) : B.take i ++ B.drop (i + 1) = othersD B r.n := by
  obtain ⟨hl, e1⟩ := List.getElem?_eq_some_iff.mp hr
  have el : B = B.take i ++ r :: B.drop (i + 1) := by rw [← e1]; simp
  have h1 := not_before nd hr
  have h2 : ∀ z ∈ B.drop (i + 1), z.n ≠ r.n := fun z hz e => by
    have nd' : (B.map BR.n).Nodup := nd
    rw [el, List.map_append, List.map_cons, List.nodup_append] at nd'
    exact (List.nodup_cons.mp nd'.2.1).1 (by rw [← e]; exact List.mem_map_of_mem hz)
  conv => rhs; rw [el]
  unfold othersD
  rw [List.filter_append, List.filter_cons_of_neg (by simp), List.filter_eq_self.mpr fun q hq => by simpa using h1 q hq, List.filter_eq_self.mpr fun q hq => by simpa using h2 q hq]
section
variable {K : PySem.W.Frag} {U : Addr → Prop} {H : Hp} {u v : V} {ds es : List PyData} {Q : VK}
theorem new_lst {p : Addr} {vs : List V} (np : H p = none) (up : U p) (r : RepL U H vs ds) : Same H (upd H p (.lst vs)) ∧ Rep U (upd H p (.lst vs)) (.ref p) (.list ds) :=
  ⟨same_new np, .lst up upd_same (r.same (same_new np))⟩
theorem new_tup {p : Addr} {vs : List V} (np : H p = none) (up : U p) (r : RepL U H vs ds) : Same H (upd H p (.tup vs)) ∧ Rep U (upd H p (.tup vs)) (.ref p) (.tuple ds) :=
  ⟨same_new np, .tup up upd_same (r.same (same_new np))⟩
theorem Rep.ixL {i : Nat} {d : PyData} (h : Rep U H v (.list ds)) (e : ds[i]? = some d) (q : ∀ x, Rep U H x d → Q x H) : rIx K v (.int i) H Q :=
  rep_ix h rfl (Int.natCast_nonneg i) (by rw [Int.toNat_natCast]; exact e) q
theorem rd_take {k : Nat} (h : Rep U H v (.list ds)) (hU : ∀ p, H p = none → U p) (q : ∀ p H', Same H H' → H p = none → Rep U H' (.ref p) (.list (ds.take k)) → Q (.ref p) H') : rSlL K v none (some (k : Int)) H Q := by
  obtain ⟨a, xs, rfl, ua, ha, r⟩ := h.lstI
  refine ⟨a, xs, rfl, sl_of ha, fun p np => ?_⟩
  rw [cut_to]
  obtain ⟨s, k'⟩ := new_lst (U := U) np (hU p np) (r.take k)
  exact q p _ s np k'
theorem rd_dropL {k : Nat} (h : Rep U H v (.list ds)) (hU : ∀ p, H p = none → U p) (q : ∀ p H', Same H H' → H p = none → Rep U H' (.ref p) (.list (ds.drop k)) → Q (.ref p) H') : rSlL K v (some (k : Int)) none H Q := by
  obtain ⟨a, xs, rfl, ua, ha, r⟩ := h.lstI
  refine ⟨a, xs, rfl, sl_of ha, fun p np => ?_⟩
  rw [cut_from]
  obtain ⟨s, k'⟩ := new_lst (U := U) np (hU p np) (r.drop k)
  exact q p _ s np k'
theorem rd_cat (h1 : Rep U H u (.list ds)) (h2 : Rep U H v (.list es)) (hl : ds.length + es.length ≤ 100000) (hU : ∀ p, H p = none → U p) (q : ∀ p H', Same H H' → H p = none → Rep U H' (.ref p) (.list (ds ++ es)) → Q (.ref p) H') : rCat u v H Q := by
  obtain ⟨a, xs, rfl, ua, ha, ra⟩ := h1.lstI
  obtain ⟨b, ys, rfl, ub, hb, rb⟩ := h2.lstI
  refine ⟨a, b, xs, ys, rfl, rfl, ha, hb, Nat.le_trans (by rw [ra.len, rb.len]; exact hl) (by decide), fun p np => ?_⟩
  obtain ⟨s, k'⟩ := new_lst (U := U) np (hU p np) (ra.app rb)
  exact q p _ s np k'
end
set_option maxHeartbeats 2000000
section
variable {L : List (Str × V)} {B : List BR}
theorem Right.niL (r : Right L B) : ∀ q ∈ L, NI q.2 := fun q hq => isOpen_NI (r.num _ (List.mem_append.mpr (.inl (List.mem_map_of_mem hq))))
theorem Right.niB (r : Right L B) : ∀ q ∈ B, NI q.l ∧ NI q.h := fun q hq =>
  ⟨isOpen_NI (r.num _ (List.mem_append.mpr (.inr (List.mem_flatMap.mpr ⟨q, hq, by simp⟩)))), isOpen_NI (r.num _ (List.mem_append.mpr (.inr (List.mem_flatMap.mpr ⟨q, hq, by simp⟩))))⟩
theorem Right.shpL (r : Right L B) : Shp 2 (.list (L.map lampD)) := .list fun e he => by
  obtain ⟨q, hq, rfl⟩ := List.mem_map.mp he
  refine .tuple fun e he => ?_
  simp at he
  rcases he with rfl | rfl
  · exact .str (.nm (r.nm _ (List.mem_append.mpr (.inl (List.mem_map_of_mem hq)))))
  · exact .ni (r.niL q hq)
theorem Right.shpB (r : Right L B) : Shp 2 (.list (B.map BR.d)) := .list fun e he => by
  obtain ⟨q, hq, rfl⟩ := List.mem_map.mp he
  have hx : ∀ z ∈ endsOf B, isNm z = true := fun z hz => r.nm _ (List.mem_append.mpr (.inl (r.unk z hz)))
  obtain ⟨n1, n2⟩ := r.niB q hq
  refine .tuple fun e he => ?_
  simp at he
  rcases he with rfl | rfl | rfl | rfl | rfl
  · exact .str (.nm (r.nm _ (List.mem_append.mpr (.inr (List.mem_map_of_mem hq)))))
  · exact .str (.nm (hx _ (List.mem_flatMap.mpr ⟨q, hq, by simp⟩)))
  · exact .str (.nm (hx _ (List.mem_flatMap.mpr ⟨q, hq, by simp⟩)))
  · exact .ni n1
  · exact .ni n2
theorem Right.nbL (r : Right L B) : nb (.list (L.map lampD)) = true := nb_list fun e he => by
  obtain ⟨q, hq, rfl⟩ := List.mem_map.mp he
  exact nb_lampD (r.niL q hq)
theorem Right.nbB (r : Right L B) : nb (.list (B.map BR.d)) = true := nb_list fun e he => by
  obtain ⟨q, hq, rfl⟩ := List.mem_map.mp he
  exact nb_d (r.niB q hq)
theorem eqv_self {d : PyData} (h : nb d = true) : PyData.eqv d d = true := (eqv_iff d d h h).mpr rfl
theorem rd_neSelf {K : PySem.W.Frag} {U U' : Addr → Prop} {H : Hp} {u v : V} {d : PyData} {Q : VK} (hu : Rep U H u d) (hv : Rep U' H v d) (sh : Shp 2 d) (hn : nb d = true) (q : Q (.bl false) H) : rNeD K u v H Q :=
  ⟨d, d, hu.dp, hv.dp, sh.shaped (by omega), sh.shaped (by omega), by rw [eqv_self hn]; exact q⟩
end
section
variable {K : PySem.W.Frag} {C CS : Addr}
theorem rd_webA {c : ECs} {U U' : Addr → Prop} {lv bv : V} {dl db : PyData} {L : List (Str × V)} {B : List BR} {H : Hp} {Q : Addr → Hp → Prop} {E : XK} (hl : RepQ K U H lv dl) (hb : RepQ K U' H bv db) (rl : RowsD LampRow dl L) (rb : RowsD BondRow db B) (lL : L.length ≤ 1000) (lB : B.length ≤ 1000)
    (h1 : Right L B → ∀ p H', Same H H' → H p = none → WebV (fun q => H q = none) C CS H' p (sortL L) (sortB B) → Q p H') (h2 : ∀ e, Wrong L B e → Raises c E H e) :
    ∀ x dx, H x = none → H dx = none → dx ≠ x → spWebI K C CS c (.ref x :: ([lv, bv] ++ [])) (upd (upd H dx (.own x)) x (.ins C dx [])) (fun v H2 => v = .non ∧ Q x H2) E := by
  intro x dx nx nd ne
  have s : Same H (upd (upd H dx (.own x)) x (.ins C dx [])) := same_mut (same_new nd) nx
  refine ⟨fun _ => True, x, dx, lv, bv, dl, db, L, B, rfl, upd_same, hl.any.same s, hb.any.same s, rl, rb, lL, lB, fun R H' ex hw => ⟨rfl, h1 R x H' (fun p o e => ex.keep p o (ne_of_none e nx) (s p o e)) nx ⟨hw.to fun p o u e => ⟨?_, e⟩, R.webOk⟩⟩, fun e he => (h2 e he).same s⟩
  rcases u with rfl | u
  · exact nx
  · exact none_back s u
end
def lampLd (r : Str × V) : PyData := .list [.str r.1, vD r.2]
def swapLd (r : BR) : PyData := .list [.str r.n, .str r.y, .str r.x, vD r.l, vD r.h]
def swapOf (e : PyData) : PyData := match kids e with
  | [n, x, y, l, h] => .list [n, y, x, l, h]
  | _ => e
def asList (e : PyData) : PyData := .list (kids e)
/-- a rearrangement of what lies -/
theorem rep_perm {α : Type} {U : Addr → Prop} {H : Hp} {g : α → PyData} {xs ys : List V} {l : List α} (h : RepL U H xs (l.map g)) (p : ys.Perm xs) : ∃ m : List α, m.Perm l ∧ RepL U H ys (m.map g) := by
  obtain ⟨m, hm, pm⟩ := paired_perm p.symm h.paired
  exact ⟨m, hm, RepL.ofPaired pm⟩
def swapBR (r : BR) : BR := ⟨r.n, r.y, r.x, r.l, r.h⟩
theorem Right.swap {L : List (Str × V)} {B : List BR} (h : Right L B) : Right L (B.map swapBR) := by
  have mb : bondNs (B.map swapBR) = bondNs B := by unfold bondNs; rw [List.map_map]; rfl
  have mn : numsOf L (B.map swapBR) = numsOf L B := by unfold numsOf; rw [List.flatMap_map]; rfl
  have me : ∀ z, z ∈ endsOf (B.map swapBR) → z ∈ endsOf B := fun z hz => by
    obtain ⟨q, hq, hz⟩ := List.mem_flatMap.mp hz
    obtain ⟨r, hr, rfl⟩ := List.mem_map.mp hq
    refine List.mem_flatMap.mpr ⟨r, hr, ?_⟩
    simp [swapBR] at hz ⊢
    exact hz.symm
  refine ⟨⟨⟨⟨⟨⟨⟨⟨⟨fun z hz => h.nm z (by rw [mb] at hz; exact hz)⟩, fun v hv => h.num v (by rw [mn] at hv; exact hv)⟩, fun q hq => ?_⟩, h.dl⟩, by rw [mb]; exact h.db⟩, fun q hq => ?_⟩, fun z hz => h.unk z (me z hz)⟩, h.l1, h.l10⟩, by rw [List.length_map]; exact h.l16⟩
  · obtain ⟨r, hr, rfl⟩ := List.mem_map.mp hq
    exact h.sp r hr
  · obtain ⟨r, hr, rfl⟩ := List.mem_map.mp hq
    exact fun e => h.sf r hr e.symm
theorem sort_swap {B B' : List BR} (p : B'.Perm B) (nd : (bondNs B).Nodup) : sortB (B'.map swapBR) = sortB B := by
  have e : (B'.map swapBR).map keptBR = B'.map keptBR := by
    rw [List.map_map]
    exact List.map_congr_left fun r _ => kept_swap
  show srtBy BR.n ((B'.map swapBR).map keptBR) = _
  rw [e]
  exact srt_of_perm (p.map keptBR) (by rw [List.map_map]; exact nd)
theorem rowsLd {L : List (Str × V)} (h : ∀ r ∈ L, r.1.length ≤ 1000 ∧ Sc r.2) : RowsD LampRow (.tuple (L.map lampLd)) L := by
  refine ⟨rfl, by show (L.map lampLd).length = _; rw [List.length_map], fun i e he => ?_⟩
  have he : (L.map lampLd)[i]? = some e := he
  rw [List.getElem?_map] at he
  cases q : L[i]? with
  | none => rw [q] at he; cases he
  | some r =>
    rw [q] at he
    cases he
    obtain ⟨h1, h2⟩ := h r (List.mem_of_getElem? q)
    exact ⟨r, rfl, rfl, rfl, h1, h2⟩
theorem rowsSw {B : List BR} (h : ∀ r ∈ B, r.n.length ≤ 1000 ∧ Sc r.l ∧ Sc r.h) : RowsD BondRow (.list (B.map swapLd)) (B.map swapBR) := by
  refine ⟨rfl, by show (B.map swapLd).length = _; rw [List.length_map, List.length_map], fun i e he => ?_⟩
  have he : (B.map swapLd)[i]? = some e := he
  rw [List.getElem?_map] at he
  cases q : B[i]? with
  | none => rw [q] at he; cases he
  | some r =>
    rw [q] at he
    cases he
    obtain ⟨h1, h2, h3⟩ := h r (List.mem_of_getElem? q)
    exact ⟨swapBR r, by rw [List.getElem?_map, q]; rfl, rfl, rfl, h1, h2, h3⟩
/-- the inner lists, as addresses -/
theorem inner2 {U : Addr → Prop} {H : Hp} : ∀ {xs : List V} {L : List (Str × V)}, RepL U H xs (L.map lampLd) → (∀ r ∈ L, NI r.2) → ∃ ps : List Addr, xs = ps.map V.ref ∧ ∀ p ∈ ps, U p ∧ ∃ (x : Str) (y : V), H p = some (.lst [.str x, y]) ∧ NI y
  | _, [], .nil, _ => ⟨[], rfl, fun _ h => by cases h⟩
  | _, r :: L, .cons a rr, hn => by
    obtain ⟨ps, e, hp⟩ := inner2 rr fun q hq => hn q (List.mem_cons_of_mem _ hq)
    obtain ⟨p, ys, rfl, up, h1, h2⟩ := Rep.lstI a
    obtain ⟨u, v, rfl, ru, rv⟩ := rep2 h2
    have n := hn r List.mem_cons_self
    cases ru.strI
    cases rv.scI n.sc
    refine ⟨p :: ps, by rw [e]; rfl, fun q hq => ?_⟩
    rcases List.mem_cons.mp hq with rfl | hq
    · exact ⟨up, _, _, h1, n⟩
    · exact hp q hq
theorem inner5 {U : Addr → Prop} {H : Hp} : ∀ {xs : List V} {B : List BR}, RepL U H xs (B.map swapLd) → ∃ ps : List Addr, xs = ps.map V.ref ∧ ∀ p ∈ ps, U p ∧ ∃ a b c d e : V, H p = some (.lst [a, b, c, d, e])
  | _, [], .nil => ⟨[], rfl, fun _ h => by cases h⟩
  | _, r :: B, .cons a rr => by
    obtain ⟨ps, e, hp⟩ := inner5 rr
    obtain ⟨p, ys, rfl, up, h1, h2⟩ := Rep.lstI a
    obtain ⟨a1, a2, a3, a4, a5, rfl, _⟩ := rep5 h2
    refine ⟨p :: ps, by rw [e]; rfl, fun q hq => ?_⟩
    rcases List.mem_cons.mp hq with rfl | hq
    · exact ⟨up, _, _, _, _, _, h1⟩
    · exact hp q hq
theorem rd_eqN {x y : V} {H : Hp} {Q : VK} (hx : NI x) (hy : NI y) (h : Q (.bl (decide (x = y))) H) : rEq x y H Q := by
  refine ⟨?_, h⟩
  rcases hx with rfl | ⟨i, rfl⟩ <;> rcases hy with rfl | ⟨j, rfl⟩ <;> rfl
set_option maxHeartbeats 2000000
abbrev s_law_changes : Stmt := topS 65
theorem sc_law_changes : FnScope ["store", "web", "plan", "nodes", "edges", "at", "bar", "fresh", "pairs", "ends", "edge", "told", "label"] ["store", "web", "plan"] (defScope s_law_changes) := ⟨rfl, rfl, rfl, by decide +kernel, rfl, by decide +kernel, by decide +kernel⟩
section
variable {P : Program} {w : World} {K : PySem.W.Frag} {mg : Str → Option Value} {base : Heap} {C CS CE CB CU : Addr}
/-- while the pairs are laid at pp -/
abbrev SP (S : Sto) (pp : Addr) : Addr → Prop := fun q => q ≠ S.1 ∧ q ≠ pp
structure PairAt (U : Addr → Prop) (C CS : Addr) (H : Hp) (v : V) : Prop where
  ex : ∃ (p w : Addr) (q : V) (L : List (Str × V)) (B : List BR), v = .ref p ∧ U p ∧ H p = some (.lst [.ref w, q]) ∧ WebV U C CS H w (sortL L) (sortB B) ∧ Rep U H q (planD L B []) ∧ Right L B
theorem PairAt.to {U U' : Addr → Prop} {H H' : Hp} {v : V} (h : PairAt U C CS H v) (hh : ∀ p o, U p → H p = some o → U' p ∧ H' p = some o) : PairAt U' C CS H' v := by
  obtain ⟨p, w, q, L, B, e, up, hp, hw, hq, rt⟩ := h.ex
  exact ⟨p, w, q, L, B, e, (hh _ _ up hp).1, (hh _ _ up hp).2, hw.to hh, hq.to hh, rt⟩
structure ChI (S : Sto) (C CS : Addr) (H0 : Hp) (a vp na ea pp : Addr) (L : List (Str × V)) (B : List BR) (ns : List Int) (n : Nat) (H : Hp) : Prop where
  gd : Gd S H0 H
  n0 : H0 pp = none
  p1 : pp ≠ S.1
  p2 : pp ≠ S.2
  kv : Rep (SP S pp) H (.ref vp) (planD L B [.list (ns.map PyData.int)])
  kn : Rep (SP S pp) H (.ref na) (.list (L.map lampD))
  ke : Rep (SP S pp) H (.ref ea) (.list (B.map BR.d))
  ww : WebV (SP S pp) C CS H a (sortL L) (sortB B)
  pr : ∃ xs, H pp = some (.lst xs) ∧ xs.length ≤ n ∧ ∀ x ∈ xs, PairAt (SP S pp) C CS H x
section
variable {C CS a vp na ea pp : Addr} {S : Sto} {H0 H H' : Hp} {L : List (Str × V)} {B : List BR} {ns : List Int} {n : Nat}
theorem ChI.step (h : ChI S C CS H0 a vp na ea pp L B ns n H) (g : Gd S H H') (e : ∀ q o, q ≠ S.1 → H q = some o → H' q = some o) : ChI S C CS H0 a vp na ea pp L B ns n H' := by
  have t : ∀ q o, SP S pp q → H q = some o → SP S pp q ∧ H' q = some o := fun q o u x => ⟨u, e q o u.1 x⟩
  obtain ⟨xs, hp, hl, hx⟩ := h.pr
  exact ⟨h.gd.trans g, h.n0, h.p1, h.p2, h.kv.to t, h.kn.to t, h.ke.to t, h.ww.to t, xs, e _ _ h.p1 hp, hl, fun x hm => (hx x hm).to t⟩
theorem ChI.same (h : ChI S C CS H0 a vp na ea pp L B ns n H) (s : Same H H') : ChI S C CS H0 a vp na ea pp L B ns n H' := h.step (.same h.gd.ok s) fun q o _ x => s q o x
theorem ChI.st (h : ChI S C CS H0 a vp na ea pp L B ns n H) (ok : StoreOk S H') (e : ExS S H H') : ChI S C CS H0 a vp na ea pp L B ns n H' := h.step (.of ok e) e
theorem ChI.new (h : ChI S C CS H0 a vp na ea pp L B ns n H) : ∀ p, H p = none → SP S pp p := fun p np => by
  obtain ⟨xs, hp, _⟩ := h.pr
  exact ⟨h.gd.ok.ne1 np, fun c => by rw [c, hp] at np; cases np⟩
theorem ChI.push (h : ChI S C CS H0 a vp na ea pp L B ns n H) {xs : List V} {x : V} (hp : H pp = some (.lst xs)) (px : PairAt (SP S pp) C CS H x) : ChI S C CS H0 a vp na ea pp L B ns (n + 1) (upd H pp (.lst (xs ++ [x]))) := by
  have t : ∀ q o, SP S pp q → H q = some o → SP S pp q ∧ upd H pp (.lst (xs ++ [x])) q = some o := fun q o u e => ⟨u, by rw [upd_ne u.2]; exact e⟩
  obtain ⟨ys, hp', hl, hx⟩ := h.pr
  rw [hp] at hp'
  cases hp'
  refine ⟨h.gd.mut h.n0 h.p1 h.p2, h.n0, h.p1, h.p2, h.kv.to t, h.kn.to t, h.ke.to t, h.ww.to t, _, upd_same, by rw [List.length_append]; simp; omega, fun y hy => ?_⟩
  rcases List.mem_append.mp hy with q | q
  · exact (hx y q).to t
  · rw [List.mem_singleton.mp q]; exact px.to t
end
def spChanges (C CS : Addr) : Sp := fun vs H Q _ => ∃ (S : Sto) (a : Addr) (v : V) (L : List (Str × V)) (B : List BR) (ns : List Int), vs = [.ref S.1, .ref a, v] ∧ StoreOk S H ∧ WebV (US S) C CS H a (sortL L) (sortB B) ∧ RS S H v (planD L B [.list (ns.map PyData.int)]) ∧ Right L B ∧ (∀ n ∈ ns, InR n) ∧ 2 ≤ ns.length ∧ ns.length ≤ 6 ∧
  ∀ (p : Addr) (xs : List V) (H' : Hp), Gd S H H' → p ≠ S.1 → H' p = some (.lst xs) → (∀ x ∈ xs, PairAt (fun q => q ≠ S.1 ∧ q ≠ p) C CS H' x) → xs.length ≤ 10 → Q (.ref p) H'
abbrev gRevN : List V → List V → List V := fun vs zs => vs ++ zs.reverse ++ [.non, .non]
theorem ok_changes {k : Nat} {f : Addr} {fd : FuncData} {c : ECs} (F : Fun K "_law_changes" "_law_changes" s_law_changes f fd) (T : Blt mg) (cl_Web : Cls K C) (H_law_take : Has P w K mg base "_law_take" k ["store", "many"] spTake) (H_law_bar : Has P w K mg base "_law_bar" k ["store", "pool"] spBar) (H_law_ends : Has P w K mg base "_law_ends" k ["store", "pool"] spEnds) (H_law_fresh_names : Has P w K mg base "_law_fresh_names" k ["store", "many", "used"] spFreshNames)
    (HT_Web_with_ceiling : HasMt P w K mg base (L2.CX P w) C "with_ceiling" k ["self", "lamp", "ceiling"] (spWithCeil C CS CE CU)) (HT_Web_with_ceiling_ceiling_lamp : HasMtN P w K mg base (L2.CX P w) C "with_ceiling" k 0 ["self", "lamp", "ceiling"] ["ceiling", "lamp"] gRev (spWithCeil C CS CE CU))
    (HT_Web_with_span : HasMt P w K mg base (L2.CX P w) C "with_span" k ["self", "bond", "low", "high"] (spWithSpan C CS CE CB CU)) (HT_Web_with_span_high_low_bond : HasMtN P w K mg base (L2.CX P w) C "with_span" k 0 ["self", "bond", "low", "high"] ["high", "low", "bond"] gRev (spWithSpan C CS CE CB CU))
    (HT_Web_without_bond : HasMt P w K mg base (L2.CX P w) C "without_bond" k ["self", "bond"] (spWithout C CS CU)) (HT_Web_without_bond_bond : HasMtN P w K mg base (L2.CX P w) C "without_bond" k 0 ["self", "bond"] ["bond"] gApp (spWithout C CS CU))
    (HT_Web_with_bond_high_low : HasMtN P w K mg base (L2.CX P w) C "with_bond" k 3 ["self", "name", "first", "second", "low", "high"] ["high", "low"] gRev (spWithBond C CS c)) (HT_Web_with_bond_second_first_name : HasMtN P w K mg base (L2.CX P w) C "with_bond" k 0 ["self", "name", "first", "second", "low", "high"] ["second", "first", "name"] gRevN (spWithBond C CS c)) : FnOk P w K mg base CX0 (k + 1) f fd ["store", "web", "plan"] (spChanges C CS) := by
  refine F.ok sc_law_changes (fun vs H Q E h => ?_) (fun cdv A outer s H vs Q E hr h => ?_)
  · obtain ⟨S, a, v, L, B, ns, rfl, _⟩ := h; rfl
  · obtain ⟨S, a, v, L, B, ns, rfl, hS, hw, hv, rt, hns, n2, n6, h⟩ := h
    have lL := rt.l10
    have lL1 := rt.l1
    have lB := rt.l16
    obtain ⟨vp, vs0, rfl, vpS, hvp, rvs⟩ := hv.lstI
    obtain ⟨nv, ev, qv, rfl, rn, re, rq⟩ := rep3 rvs
    obtain ⟨na, ls, rfl, naS, hna, rls⟩ := rn.lstI
    obtain ⟨ea, es, rfl, eaS, hea, res⟩ := re.lstI
    obtain ⟨qa, qs, rfl, qaS, hqa, rqs⟩ := rq.lstI
    obtain rfl := rqs.intsI
    have ll : ls.length = L.length := by rw [rls.len, List.length_map]
    have le : es.length = B.length := by rw [res.len, List.length_map]
    refine ⟨_, (pss_cons (ps_set (i := 3) sc_law_changes.nd rfl (.inl rfl) (pe_ix (ix_seqR (K := K) rfl) (pv 2) pe_int (fun _ _ => rfl)))
 (pss_cons (ps_set (i := 4) sc_law_changes.nd rfl (.inl rfl) (pe_ix (ix_seqR (K := K) rfl) (pv 2) pe_int (fun _ _ => rfl)))
 (pss_cons (ps_set (i := 5) sc_law_changes.nd rfl (.inl rfl) (pe_callH H_law_take hr (by rfl) (pa_cons (pv 0) (pa_cons (pe_callB call_len_seq (by rfl) T.len (by decide +kernel) (pa_cons (pv 3) pa_nil)) pa_nil))))
 (pss_cons (ps_set (i := 6) sc_law_changes.nd rfl (.inl rfl) (pe_callH H_law_bar hr (by rfl) (pa_cons (pv 0) (pa_cons (pe_ix (ix_seqR (K := K) rfl) (pv 2) pe_int (fun _ _ => rfl)) pa_nil))))
 (pss_cons (ps_set (i := 7) sc_law_changes.nd rfl (.inl rfl) (pe_op op_cat (pe_op op_cat (pe_slice sl_list (pv 3) po_none (po_some (pv 5))) (pe_lst (pa_cons (pe_tup (pa_cons (pe_ix (ix_seqR (K := K) rfl) (pe_ix (ix_seqR (K := K) rfl) (pv 3) (pv 5) (fun _ _ => rfl)) pe_int (fun _ _ => rfl)) (pa_cons (pv 6) pa_nil))) pa_nil))) (pe_slice sl_list (pv 3) (po_some (pe_op op_add (pv 5) pe_int)) po_none)))
 (pss_cons (ps_set (i := 8) sc_law_changes.nd rfl (.inl rfl) (pe_lst (pa_cons (pe_lst (pa_cons (pe_mt HT_Web_with_ceiling cl_Web (pv 1) hr (fun σ => passAt takes0 σ) (pa_cons (pe_ix (ix_seqR (K := K) rfl) (pe_ix (ix_seqR (K := K) rfl) (pv 3) (pv 5) (fun _ _ => rfl)) pe_int (fun _ _ => rfl)) (pa_cons (pv 6) pa_nil))) (pa_cons (pe_lst (pa_cons (pv 7) (pa_cons (pv 4) pa_nil))) pa_nil))) pa_nil)))
 (pss_cons (ps_expr (pe_bm PySem.F.plainAttrs_list PySem.F.slot_list_append PySem.F.type_list_append mt_append (pv 8) (pa_cons (pe_lst (pa_cons (pe_mtK (ks := ["ceiling", "lamp"]) HT_Web_with_ceiling_ceiling_lamp cl_Web (pv 1) hr (fun σ => passAt takes0 σ) (pk_cons (pv 6) (pk_cons (pe_ix (ix_seqR (K := K) rfl) (pe_ix (ix_seqR (K := K) rfl) (pv 3) (pv 5) (fun _ _ => rfl)) pe_int (fun _ _ => rfl)) pk_nil))) (pa_cons (pe_lst (pa_cons (pv 7) (pa_cons (pv 4) pa_nil))) pa_nil))) pa_nil)))
 (pss_cons (ps_set (i := 9) sc_law_changes.nd rfl (.inl rfl) (pe_callH H_law_ends hr (by rfl) (pa_cons (pv 0) (pa_cons (pe_ix (ix_seqR (K := K) rfl) (pv 2) pe_int (fun _ _ => rfl)) pa_nil))))
 (C8.pss_cut (ps_if (pt_cmpR op_gt (pe_callB call_len_seq (by rfl) T.len (by decide +kernel) (pa_cons (pv 4) pa_nil)) pe_int (nomark _)) (pss_cons (ps_set (i := 5) sc_law_changes.nd rfl (.inl rfl) (pe_callH H_law_take hr (by rfl) (pa_cons (pv 0) (pa_cons (pe_callB call_len_seq (by rfl) T.len (by decide +kernel) (pa_cons (pv 4) pa_nil)) pa_nil))))
 (pss_cons (ps_set (i := 10) sc_law_changes.nd rfl (.inl rfl) (pe_ix (ix_seqR (K := K) rfl) (pv 4) (pv 5) (fun _ _ => rfl)))
 (pss_cons (ps_set (i := 7) sc_law_changes.nd rfl (.inl rfl) (pe_op op_cat (pe_op op_cat (pe_slice sl_list (pv 4) po_none (po_some (pv 5))) (pe_lst (pa_cons (pe_tup (pa_cons (pe_ix (ix_seqR (K := K) rfl) (pv 10) pe_int (fun _ _ => rfl)) (pa_cons (pe_ix (ix_seqR (K := K) rfl) (pv 10) pe_int (fun _ _ => rfl)) (pa_cons (pe_ix (ix_seqR (K := K) rfl) (pv 10) pe_int (fun _ _ => rfl)) (pa_cons (pe_ix (ix_seqR (K := K) rfl) (pv 9) pe_int (fun _ _ => rfl)) (pa_cons (pe_ix (ix_seqR (K := K) rfl) (pv 9) pe_int (fun _ _ => rfl)) pa_nil)))))) pa_nil))) (pe_slice sl_list (pv 4) (po_some (pe_op op_add (pv 5) pe_int)) po_none)))
 (pss_cons (ps_expr (pe_bm PySem.F.plainAttrs_list PySem.F.slot_list_append PySem.F.type_list_append mt_append (pv 8) (pa_cons (pe_lst (pa_cons (pe_mt HT_Web_with_span cl_Web (pv 1) hr (fun σ => passAt takes0 σ) (pa_cons (pe_ix (ix_seqR (K := K) rfl) (pv 10) pe_int (fun _ _ => rfl)) (pa_cons (pe_ix (ix_seqR (K := K) rfl) (pv 9) pe_int (fun _ _ => rfl)) (pa_cons (pe_ix (ix_seqR (K := K) rfl) (pv 9) pe_int (fun _ _ => rfl)) pa_nil)))) (pa_cons (pe_lst (pa_cons (pv 3) (pa_cons (pv 7) pa_nil))) pa_nil))) pa_nil)))
 (pss_cons (ps_expr (pe_bm PySem.F.plainAttrs_list PySem.F.slot_list_append PySem.F.type_list_append mt_append (pv 8) (pa_cons (pe_lst (pa_cons (pe_mtK (ks := ["high", "low", "bond"]) HT_Web_with_span_high_low_bond cl_Web (pv 1) hr (fun σ => passAt takes0 σ) (pk_cons (pe_ix (ix_seqR (K := K) rfl) (pv 9) pe_int (fun _ _ => rfl)) (pk_cons (pe_ix (ix_seqR (K := K) rfl) (pv 9) pe_int (fun _ _ => rfl)) (pk_cons (pe_ix (ix_seqR (K := K) rfl) (pv 10) pe_int (fun _ _ => rfl)) pk_nil)))) (pa_cons (pe_lst (pa_cons (pv 3) (pa_cons (pv 7) pa_nil))) pa_nil))) pa_nil)))
 (pss_one (ps_for PassesOwn.never rfl (pi_list (pe_lst (pa_cons (pe_mt HT_Web_without_bond cl_Web (pv 1) hr (fun σ => passAt takes0 σ) (pa_cons (pe_ix (ix_seqR (K := K) rfl) (pv 10) pe_int (fun _ _ => rfl)) pa_nil)) (pa_cons (pe_mtK (ks := ["bond"]) HT_Web_without_bond_bond cl_Web (pv 1) hr (fun σ => passAt takes0 σ) (pk_cons (pe_ix (ix_seqR (K := K) rfl) (pv 10) pe_int (fun _ _ => rfl)) pk_nil)) pa_nil)))) (pg_name (i := 11) sc_law_changes.nd rfl (.inl rfl)) (pss_one (ps_expr (pe_bm PySem.F.plainAttrs_list PySem.F.slot_list_append PySem.F.type_list_append mt_append (pv 8) (pa_cons (pe_lst (pa_cons (pv 11) (pa_cons (pe_lst (pa_cons (pv 3) (pa_cons (pe_op op_cat (pe_slice sl_list (pv 4) po_none (po_some (pv 5))) (pe_slice sl_list (pv 4) (po_some (pe_op op_add (pv 5) pe_int)) po_none)) pa_nil))) pa_nil))) pa_nil))))))))))) pss_nil)
 (C8.pss_cut (ps_if (pt_chain op_lt op_lt pe_int (pe_callB call_len_seq (by rfl) T.len (by decide +kernel) (pa_cons (pv 4) pa_nil)) pe_int) (pss_cons (ps_set (i := 12) sc_law_changes.nd rfl (.inl rfl) (pe_ix (ix_seqR (K := K) rfl) (pe_callH H_law_fresh_names hr (by rfl) (pa_cons (pv 0) (pa_cons pe_int (pa_cons (pe_lc (own := [("edge", 10)]) (g := (gName 10)) (by rfl) sc_law_changes.nd (pi_seq (pv 4)) (blkOk_by (own := [("edge", 10)]) (N := ["store", "web", "plan", "nodes", "edges", "at", "bar", "fresh", "pairs", "ends", "edge", "told", "label"]) (sc := defScope s_law_changes) (by decide +kernel)) (fun _ _ _ _ _ => (pg_name (i := 10) sc_law_changes.nd rfl (.inl rfl))) (fun _ _ _ _ _ => pts_nil) (fun _ _ _ _ _ => (pe_ix (ix_seqR (K := K) rfl) (pv 10) pe_int (fun _ _ => rfl)))) pa_nil)))) pe_int (fun _ _ => rfl)))
 (pss_cons (ps_set (i := 7) sc_law_changes.nd rfl (.inl rfl) (pe_op op_cat (pv 4) (pe_lst (pa_cons (pe_tup (pa_cons (pv 12) (pa_cons (pe_ix (ix_seqR (K := K) rfl) (pe_ix (ix_seqR (K := K) rfl) (pv 4) (pv 5) (fun _ _ => rfl)) pe_int (fun _ _ => rfl)) (pa_cons (pe_ix (ix_seqR (K := K) rfl) (pe_ix (ix_seqR (K := K) rfl) (pv 4) (pv 5) (fun _ _ => rfl)) pe_int (fun _ _ => rfl)) (pa_cons (pe_ix (ix_seqR (K := K) rfl) (pv 9) pe_int (fun _ _ => rfl)) (pa_cons (pe_ix (ix_seqR (K := K) rfl) (pv 9) pe_int (fun _ _ => rfl)) pa_nil)))))) pa_nil))))
 (pss_cons (ps_expr (pe_bm PySem.F.plainAttrs_list PySem.F.slot_list_append PySem.F.type_list_append mt_append (pv 8) (pa_cons (pe_lst (pa_cons (pe_mtN (ks := ["high", "low"]) HT_Web_with_bond_high_low cl_Web (pv 1) hr (fun σ => passAt takes0 σ) (pa_cons (pv 12) (pa_cons (pe_ix (ix_seqR (K := K) rfl) (pe_ix (ix_seqR (K := K) rfl) (pv 4) (pv 5) (fun _ _ => rfl)) pe_int (fun _ _ => rfl)) (pa_cons (pe_ix (ix_seqR (K := K) rfl) (pe_ix (ix_seqR (K := K) rfl) (pv 4) (pv 5) (fun _ _ => rfl)) pe_int (fun _ _ => rfl)) pa_nil))) (pk_cons (pe_ix (ix_seqR (K := K) rfl) (pv 9) pe_int (fun _ _ => rfl)) (pk_cons (pe_ix (ix_seqR (K := K) rfl) (pv 9) pe_int (fun _ _ => rfl)) pk_nil))) (pa_cons (pe_lst (pa_cons (pv 3) (pa_cons (pv 7) pa_nil))) pa_nil))) pa_nil)))
 (pss_cons (ps_set (i := 7) sc_law_changes.nd rfl (.inl rfl) (pe_op op_cat (pv 4) (pe_lst (pa_cons (pe_tup (pa_cons (pv 12) (pa_cons (pe_ix (ix_seqR (K := K) rfl) (pe_ix (ix_seqR (K := K) rfl) (pv 4) (pv 5) (fun _ _ => rfl)) pe_int (fun _ _ => rfl)) (pa_cons (pe_ix (ix_seqR (K := K) rfl) (pe_ix (ix_seqR (K := K) rfl) (pv 4) (pv 5) (fun _ _ => rfl)) pe_int (fun _ _ => rfl)) (pa_cons pe_non (pa_cons pe_non pa_nil)))))) pa_nil))))
 (pss_one (ps_expr (pe_bm PySem.F.plainAttrs_list PySem.F.slot_list_append PySem.F.type_list_append mt_append (pv 8) (pa_cons (pe_lst (pa_cons (pe_mtK (ks := ["second", "first", "name"]) HT_Web_with_bond_second_first_name cl_Web (pv 1) hr (fun σ => passAt takes0 σ) (pk_cons (pe_ix (ix_seqR (K := K) rfl) (pe_ix (ix_seqR (K := K) rfl) (pv 4) (pv 5) (fun _ _ => rfl)) pe_int (fun _ _ => rfl)) (pk_cons (pe_ix (ix_seqR (K := K) rfl) (pe_ix (ix_seqR (K := K) rfl) (pv 4) (pv 5) (fun _ _ => rfl)) pe_int (fun _ _ => rfl)) (pk_cons (pv 12) pk_nil)))) (pa_cons (pe_lst (pa_cons (pv 3) (pa_cons (pv 7) pa_nil))) pa_nil))) pa_nil)))))))) pss_nil)
 (pss_one (ps_ret (pv 8))))))))))))), ?_⟩
    walk_at "rdF"
    refine rd_ixQL hvp (atI_nat (i := 0) rfl) ?_
    walk_at "rdF"
    refine rd_ixQL hvp (atI_nat (i := 1) rfl) ?_
    walk_at "rdF"
    refine rd_seqL hna ?_
    walk_at "rdF"
    refine ⟨S, _, rfl, by omega, hS, fun i0 H1 i00 i01 hS1 e1 => ?_⟩
    obtain ⟨i, rfl⟩ : ∃ i : Nat, i0 = i := ⟨i0.toNat, by omega⟩
    walk_at "rdF"
    refine rd_ixQL (e1 _ _ vpS hvp) (atI_nat (i := 2) rfl) ?_
    walk_at "rdF"
    refine ⟨S, qa, ns, rfl, hS1, ⟨qaS, e1 _ _ qaS hqa⟩, hns, by omega, by omega, fun bv H2 hb hS2 e2 => ?_⟩
    have g2 : Gd S H H2 := (Gd.of hS1 e1).trans (.of hS2 e2)
    have hna2 := g2.ex.keep _ _ naS hna
    walk_at "rdF"
    obtain ⟨r, hr⟩ : ∃ r, L[i]? = some r := ⟨_, List.getElem?_eq_getElem (by omega)⟩
    have hrm := List.mem_of_getElem? hr
    have ob := hb.op
    have uS : ∀ {H' : Hp}, StoreOk S H' → ∀ p, H' p = none → US S p := fun s p n => s.ne1 n
    have hd : (L.map lampD)[i]? = some (lampD r) := by rw [List.getElem?_map, hr]; rfl
    have kn2 : RS S H2 (.ref na) (.list (L.map lampD)) := rn.ex g2.ex
    have ke2 : RS S H2 (.ref ea) (.list (B.map BR.d)) := re.ex g2.ex
    have w2 := hw.ex g2.ex
    refine rd_take kn2 (uS hS2) fun p3 H3 s3 m3 k3 => ?_
    have hS3 := hS2.same s3
    walk_at "rdF"
    refine (kn2.same s3).ixL hd fun x hx => ?_
    walk_at "rdF"
    refine rep_ix hx rfl (by decide) rfl fun y hy => ?_
    cases hy.strI
    walk_at "rdF"
    refine ⟨sz (by simp), fun p4 m4 => ?_⟩
    obtain ⟨s4, k4⟩ := new_tup (vs := [.str r.1, bv]) (ds := [.str r.1, vD bv]) m4 (uS hS3 _ m4) (.cons (.str _) (.cons (.sc ob.sc) .nil))
    generalize upd H3 p4 (.tup [.str r.1, bv]) = H4 at *
    have hS4 := hS3.same s4
    walk_at "rdF"
    refine ⟨sz (by simp), fun p5 m5 => ?_⟩
    obtain ⟨s5, k5⟩ := new_lst (vs := [.ref p4]) (ds := [lampD (r.1, bv)]) m5 (uS hS4 _ m5) (.cons k4 .nil)
    generalize upd H4 p5 (.lst [.ref p4]) = H5 at *
    have hS5 := hS4.same s5
    refine rd_cat (k3.same (s4.trans s5)) k5 (by rw [List.length_take]; simp; omega) (uS hS5) fun p6 H6 s6 m6 k6 => ?_
    have hS6 := hS5.same s6
    have s26 := ((s3.trans s4).trans s5).trans s6
    walk_at "rdF"
    refine rd_dropL (k := i + 1) (kn2.same s26) (uS hS6) fun p7 H7 s7 m7 k7 => ?_
    have hS7 := hS6.same s7
    refine rd_cat (k6.same s7) k7 (by rw [List.length_append, List.length_take, List.length_drop]; simp; omega) (uS hS7) fun p8 H8 s8 m8 k8 => ?_
    have hS8 := hS7.same s8
    rw [← List.map_take, ← List.map_drop, show [lampD (r.1, bv)] = [(r.1, bv)].map lampD from rfl, ← List.map_append, ← List.map_append, ceil_at rt.dl hr] at k8
    have s28 := (s26.trans s7).trans s8
    have g8 := g2.trans (.same hS2 s28)
    have kn8 := kn2.same s28
    have ke8 := ke2.same s28
    have w8 := w2.same s28
    have rt8 := rt.setCeil (z := r.1) ob.2
    have hz : r.1 ∈ lampNs (sortL L) := List.mem_map_of_mem (srt_mem.mpr hrm)
    obtain ⟨dx, c0, b0, e0, t0, oc, oe, os, gg, qq, ua, ha8, _⟩ := w8.at_.ex
    walk_at "rdF"
    refine ⟨a, dx, _, rfl, ha8, by rfl, ?_⟩
    walk_at "rdF"
    refine kn8.ixL hd fun x hx => ?_
    walk_at "rdF"
    refine rep_ix hx rfl (by decide) rfl fun y hy => ?_
    cases hy.strI
    walk_at "rdF"
    refine ⟨_, a, _, _, r.1, bv, rfl, w8, ob.sc, fun o => (by rw [ob.2] at o; cases o), fun _ hn => absurd hz hn, fun _ _ w1 H9 s9 nw1 hw1 => ?_⟩
    have hS9 := hS8.same s9
    have hw1 : WebV (US S) C CS H9 w1 (sortL (setCeil L r.1 bv)) (sortB B) := by
      rw [sortL_setCeil rt.dl]; exact hw1.less fun q hq => hS8.ne1 hq
    walk_at "rdF"
    refine ⟨sz (by simp), fun p10 m10 => ?_⟩
    obtain ⟨s10, k10⟩ := new_lst (vs := [.ref p8, .ref ea]) (ds := [.list ((setCeil L r.1 bv).map lampD), .list (B.map BR.d)]) m10 (uS hS9 _ m10) (.cons (k8.same s9) (.cons (ke8.same s9) .nil))
    generalize upd H9 p10 (.lst [.ref p8, .ref ea]) = H10 at *
    have hS10 := hS9.same s10
    walk_at "rdF"
    refine ⟨sz (by simp), fun p11 m11 => ?_⟩
    have s11 := same_new (o := .lst [V.ref w1, .ref p10]) m11
    have hp11 := @upd_same H10 p11 (.lst [V.ref w1, .ref p10])
    generalize upd H10 p11 (.lst [V.ref w1, .ref p10]) = H11 at *
    have hS11 := hS10.same s11
    have pr1 : PairAt (US S) C CS H11 (.ref p11) := ⟨p11, w1, .ref p10, _, _, rfl, hS10.ne1 m11, hp11, hw1.same (s10.trans s11), k10.same s11, rt8⟩
    walk_at "rdF"
    refine ⟨sz (by simp), fun pp mpp => ?_⟩
    have s12 := same_new (o := .lst [V.ref p11]) mpp
    have hpp := @upd_same H11 pp (.lst [V.ref p11])
    have ppS : pp ≠ S.1 := hS11.ne1 mpp
    have ppS2 : pp ≠ S.2 := hS11.ne2 mpp
    have tp : ∀ q o, US S q → H11 q = some o → (q ≠ S.1 ∧ q ≠ pp) ∧ upd H11 pp (.lst [V.ref p11]) q = some o := fun q o u e => ⟨⟨u, ne_of_none e mpp⟩, s12 _ _ e⟩
    have pr1 := pr1.to tp
    have s8B := ((s9.trans s10).trans s11)
    have kv := ((hv.ex g8.ex).same s8B).to tp
    have kn := (kn8.same s8B).to tp
    have ke := (ke8.same s8B).to tp
    have ww := (w8.same s8B).to tp
    have k8 := (k8.same s8B).to tp
    have g12 := (g8.trans (.same hS8 s8B)).trans (.new hS11 (o := .lst [V.ref p11]) mpp)
    have n0 : H pp = none := g8.ex.dom _ (none_back s8B mpp)
    generalize upd H11 pp (.lst [V.ref p11]) = H12 at *
    have hS12 := g12.ok
    have uP : ∀ {H' : Hp} {xs : List V}, StoreOk S H' → H' pp = some (.lst xs) → ∀ p, H' p = none → p ≠ S.1 ∧ p ≠ pp := fun s e p n => ⟨s.ne1 n, fun c => by rw [c, e] at n; cases n⟩
    obtain ⟨dx, c0, b0, e0, t0, oc, oe, os, gg, qq, ua, ha12, _⟩ := ww.at_.ex
    walk_at "rdF"
    refine ⟨.inl ⟨rfl, _, sl_of hpp⟩, ?_⟩
    walk_at "rdF"
    refine ⟨a, dx, _, rfl, ha12, by rfl, ?_⟩
    walk_at "rdF"
    refine kn.ixL hd fun x hx => ?_
    walk_at "rdF"
    refine rep_ix hx rfl (by decide) rfl fun y hy => ?_
    cases hy.strI
    refine ⟨rfl, rfl, _, a, _, _, r.1, bv, rfl, ww, ob.sc, fun o => (by rw [ob.2] at o; cases o), fun _ hn => absurd hz hn, fun _ _ w2 H13 s13 nw2 hw2 => ?_⟩
    have hS13 := hS12.same s13
    have hpp13 := s13 _ _ hpp
    have hw2 : WebV (fun q => q ≠ S.1 ∧ q ≠ pp) C CS H13 w2 (sortL (setCeil L r.1 bv)) (sortB B) := by
      rw [sortL_setCeil rt.dl]; exact hw2.less fun q hq => uP hS12 hpp q hq
    walk_at "rdF"
    refine ⟨sz (by simp), fun p14 m14 => ?_⟩
    obtain ⟨s14, k14⟩ := new_lst (vs := [.ref p8, .ref ea]) (ds := [.list ((setCeil L r.1 bv).map lampD), .list (B.map BR.d)]) m14 (uP hS13 hpp13 _ m14) (.cons (k8.same s13) (.cons (ke.same s13) .nil))
    generalize upd H13 p14 (.lst [.ref p8, .ref ea]) = H14 at *
    have hS14 := hS13.same s14
    walk_at "rdF"
    refine ⟨sz (by simp), fun p15 m15 => ?_⟩
    have s15 := same_new (o := .lst [V.ref w2, .ref p14]) m15
    have hp15 := @upd_same H14 p15 (.lst [V.ref w2, .ref p14])
    have u15 := uP hS14 (s14 _ _ hpp13) _ m15
    show tNil _ (upd H14 p15 (.lst [V.ref w2, .ref p14])) _
    generalize upd H14 p15 (.lst [V.ref w2, .ref p14]) = H15 at *
    have hS15 := hS14.same s15
    have s12F := (s13.trans s14).trans s15
    have hpp15 := s12F _ _ hpp
    have pr2 : PairAt (fun q => q ≠ S.1 ∧ q ≠ pp) C CS H15 (.ref p15) := ⟨p15, w2, .ref p14, _, _, rfl, u15, hp15, hw2.same (s14.trans s15), k14.same s15, rt8⟩
    walk_at "rdF"
    refine ⟨pp, _, _, rfl, rfl, hpp15, (by show 1 < sizeLine; decide), ?_⟩
    have I12 : ChI S C CS H a vp na ea pp L B ns 1 H12 := ⟨g12, n0, ppS, ppS2, kv, kn, ke, ww, _, hpp, by simp, fun x hx => by rw [List.mem_singleton.mp hx]; exact pr1⟩
    have I16 := (I12.same s12F).push hpp15 pr2
    generalize upd H15 pp (.lst ([V.ref p11] ++ [V.ref p15])) = H16 at *
    walk_at "rdF"
    refine I16.kv.ixL (i := 2) rfl fun qv hqv => ?_
    obtain ⟨qa, qs, rfl, qaS, hqa, rqs⟩ := hqv.lstI
    obtain rfl := rqs.intsI
    walk_at "rdF"
    refine ⟨S, qa, ns, rfl, I16.gd.ok, ⟨qaS.1, hqa⟩, by omega, by omega, fun eq el eh H17 bl bh ncr neq heq hS17 e17 => ?_⟩
    have I17 := I16.st hS17 e17
    have keq : Rep (SP S pp) H17 (.ref eq) (.tuple [vD el, vD eh]) := .tup ⟨heq.1, fun c => by
      obtain ⟨xs, hp, _⟩ := I16.pr
      rw [c, hp] at neq; cases neq⟩ heq.2 (.cons (.sc bl.op.sc) (.cons (.sc bh.op.sc) .nil))
    walk_at "rdF"
    refine rd_cut (fun σ' H' => ∃ at' y7 y10 y11, σ' = [some (.ref S.1), some (.ref a), some (.ref vp), some (.ref na), some (.ref ea), at', some bv, y7, some (.ref pp), some (.ref eq), y10, y11, none] ∧ ChI S C CS H a vp na ea pp L B ns 6 H' ∧ Rep (SP S pp) H' (.ref eq) (.tuple [vD el, vD eh]) ∧ (0 < B.length → ∃ (i : Nat) (r : BR), at' = some (.int i) ∧ B[i]? = some r)) ?_ ?_
    · walk_at "rdF"
      refine rep_len I17.ke rfl fun xs rx => ?_
      have lx : xs.length = B.length := by rw [rx.len]; exact List.length_map ..
      rw [lx]
      walk_at "rdF"
      refine if_dec (fun hm => ?_) (fun hm => ?_)
      rotate_left
      · walk_at "rdF"
        exact ⟨_, _, _, _, rfl, ⟨I17.gd, I17.n0, I17.p1, I17.p2, I17.kv, I17.kn, I17.ke, I17.ww, by
          obtain ⟨xs, h1, h2, h3⟩ := I17.pr
          exact ⟨xs, h1, by omega, h3⟩⟩, keq, fun hb => absurd hb (by omega)⟩
      · walk_at "rdF"
        refine rep_len I17.ke rfl fun xs rx => ?_
        have lx : xs.length = B.length := by rw [rx.len]; exact List.length_map ..
        rw [lx]
        walk_at "rdF"
        refine ⟨S, _, rfl, by omega, I17.gd.ok, fun i0 H18 i00 i01 hS18 e18 => ?_⟩
        obtain ⟨i, rfl⟩ : ∃ i : Nat, i0 = i := ⟨i0.toNat, by omega⟩
        have I18 := I17.st hS18 e18
        have keq18 : Rep (SP S pp) H18 (.ref eq) (.tuple [vD el, vD eh]) := keq.to fun q o u e => ⟨u, e18 q o u.1 e⟩
        obtain ⟨r, hr⟩ : ∃ r, B[i]? = some r := ⟨_, List.getElem?_eq_getElem (by omega)⟩
        have hrm := List.mem_of_getElem? hr
        have hd : (B.map BR.d)[i]? = some r.d := by rw [List.getElem?_map, hr]; rfl
        have hzb : r.n ∈ bondNs (sortB B) := List.mem_map.mpr ⟨keptBR r, srt_mem.mpr (List.mem_map_of_mem hrm), rfl⟩
        have sl := bl.op.sc
        have sh := bh.op.sc
        have rtS := rt.setSpan (z := r.n) bl.op.2 bh.op.2 ncr
        have rtO := rt.less (B' := othersD B r.n) List.filter_sublist
        walk_at "rdF"
        refine I18.ke.ixL hd fun x hx => ?_
        have e0 : ∀ {H' : Hp} {R : V → Hp → Prop}, (∀ q o, SP S pp q → H18 q = some o → H' q = some o) → R (.str r.n) H' → rIx K x (.int 0) H' R := fun s h => rep_ix (hx.to fun q o u e => ⟨u, s q o u e⟩) rfl (by decide) rfl fun u h4 => by cases h4.strI; exact h
        have e1 : ∀ {H' : Hp} {R : V → Hp → Prop}, (∀ q o, SP S pp q → H18 q = some o → H' q = some o) → R (.str r.x) H' → rIx K x (.int 1) H' R := fun s h => rep_ix (hx.to fun q o u e => ⟨u, s q o u e⟩) rfl (by decide) rfl fun u h4 => by cases h4.strI; exact h
        have e2 : ∀ {H' : Hp} {R : V → Hp → Prop}, (∀ q o, SP S pp q → H18 q = some o → H' q = some o) → R (.str r.y) H' → rIx K x (.int 2) H' R := fun s h => rep_ix (hx.to fun q o u e => ⟨u, s q o u e⟩) rfl (by decide) rfl fun u h4 => by cases h4.strI; exact h
        have d0 : ∀ {H' : Hp} {R : V → Hp → Prop}, (∀ q o, SP S pp q → H18 q = some o → H' q = some o) → R el H' → rIx K (.ref eq) (.int 0) H' R := fun s h => rep_ix (keq18.to fun q o u e => ⟨u, s q o u e⟩) rfl (by decide) rfl fun u h4 => by cases h4.scI sl; exact h
        have d1 : ∀ {H' : Hp} {R : V → Hp → Prop}, (∀ q o, SP S pp q → H18 q = some o → H' q = some o) → R eh H' → rIx K (.ref eq) (.int 1) H' R := fun s h => rep_ix (keq18.to fun q o u e => ⟨u, s q o u e⟩) rfl (by decide) rfl fun u h4 => by cases h4.scI sh; exact h
        walk_at "rdF"
        refine rd_take I18.ke I18.new fun p19 H19 s19 m19 k19 => ?_
        have t19 : ∀ q o, SP S pp q → H18 q = some o → H19 q = some o := fun q o _ e => s19 q o e
        have I19 := I18.same s19
        walk_at "rdF"
        refine e0 t19 ?_
        walk_at "rdF"
        refine e1 t19 ?_
        walk_at "rdF"
        refine e2 t19 ?_
        walk_at "rdF"
        refine d0 t19 ?_
        walk_at "rdF"
        refine d1 t19 ?_
        walk_at "rdF"
        refine ⟨sz (by simp), fun p20 m20 => ?_⟩
        obtain ⟨s20, k20⟩ := new_tup (vs := [.str r.n, .str r.x, .str r.y, el, eh]) (ds := [.str r.n, .str r.x, .str r.y, vD el, vD eh]) m20 (I19.new _ m20) (.cons (.str _) (.cons (.str _) (.cons (.str _) (.cons (.sc sl) (.cons (.sc sh) .nil)))))
        generalize upd H19 p20 (.tup [.str r.n, .str r.x, .str r.y, el, eh]) = H20 at *
        have I20 := I19.same s20
        walk_at "rdF"
        refine ⟨sz (by simp), fun p21 m21 => ?_⟩
        obtain ⟨s21, k21⟩ := new_lst (vs := [.ref p20]) (ds := [BR.d ⟨r.n, r.x, r.y, el, eh⟩]) m21 (I20.new _ m21) (.cons k20 .nil)
        generalize upd H20 p21 (.lst [.ref p20]) = H21 at *
        have I21 := I20.same s21
        refine rd_cat (k19.same (s20.trans s21)) k21 (by rw [List.length_take]; simp; omega) I21.new fun p22 H22 s22 m22 k22 => ?_
        have I22 := I21.same s22
        walk_at "rdF"
        refine rd_dropL (k := i + 1) I22.ke I22.new fun p23 H23 s23 m23 k23 => ?_
        have I23 := I22.same s23
        refine rd_cat (k22.same s23) k23 (by rw [List.length_append, List.length_take, List.length_drop]; simp; omega) I23.new fun p24 H24 s24 m24 k24 => ?_
        have I24 := I23.same s24
        rw [← List.map_take, ← List.map_drop, show [BR.d ⟨r.n, r.x, r.y, el, eh⟩] = [(⟨r.n, r.x, r.y, el, eh⟩ : BR)].map BR.d from rfl, ← List.map_append, ← List.map_append, span_at rt.db hr] at k24
        have t24 : ∀ q o, SP S pp q → H18 q = some o → H24 q = some o := fun q o _ e => s24 _ _ (s23 _ _ (s22 _ _ (s21 _ _ (s20 _ _ (s19 _ _ e)))))
        obtain ⟨xs24, hx24, _⟩ := I24.pr
        obtain ⟨dx, c0, b0, f0, t0, oc, oe, os, gg, qq, ua, ha24, _⟩ := I24.ww.at_.ex
        walk_at "rdF"
        refine ⟨.inl ⟨rfl, _, sl_of hx24⟩, ?_⟩
        walk_at "rdF"
        refine ⟨a, dx, _, rfl, ha24, by rfl, ?_⟩
        walk_at "rdF"
        refine e0 t24 ?_
        walk_at "rdF"
        refine d0 t24 ?_
        walk_at "rdF"
        refine d1 t24 ?_
        refine ⟨_, a, _, _, r.n, el, eh, rfl, I24.ww, sl, sh, fun o => (by rw [bl.op.2] at o; cases o), fun _ o => (by rw [bh.op.2] at o; cases o), fun _ _ o => (by rw [ncr] at o; cases o), fun _ _ _ hn => absurd hzb hn, fun _ _ _ _ w3 H25 s25 nw3 hw3 => ?_⟩
        have I25 := I24.same s25
        have hw3 : WebV (SP S pp) C CS H25 w3 (sortL L) (sortB (setSpan B r.n el eh)) := by
          rw [sortB_setSpan rt.db]; exact hw3.less fun q hq => I24.new q hq
        walk_at "rdF"
        refine ⟨sz (by simp), fun p102 m102 => ?_⟩
        obtain ⟨s102, k102⟩ := new_lst (vs := [.ref na, .ref p24]) (ds := [.list (L.map lampD), .list ((setSpan B r.n el eh).map BR.d)]) m102 (I25.new _ m102) (.cons I25.kn (.cons (k24.same s25) .nil))
        generalize upd H25 p102 (.lst [.ref na, .ref p24]) = H102 at *
        walk_at "rdF"
        refine ⟨sz (by simp), fun p103 m103 => ?_⟩
        have s103 := same_new (o := .lst [V.ref w3, .ref p102]) m103
        have h103 := @upd_same H102 p103 (.lst [V.ref w3, .ref p102])
        have u103 := (I25.same s102).new _ m103
        show tNil _ (upd H102 p103 (.lst [V.ref w3, .ref p102])) _
        generalize upd H102 p103 (.lst [V.ref w3, .ref p102]) = H103 at *
        have I103 := (I25.same s102).same s103
        have pr103 : PairAt (SP S pp) C CS H103 (.ref p103) := ⟨p103, w3, .ref p102, _, _, rfl, u103, h103, (hw3).same (s102.trans s103), k102.same s103, rtS⟩
        obtain ⟨xs103, hx103, hl103, _⟩ := I103.pr
        walk_at "rdF"
        refine ⟨pp, xs103, _, rfl, rfl, hx103, Nat.lt_of_le_of_lt hl103 (by decide), ?_⟩
        have IA := I103.push hx103 pr103
        have tIA : ∀ q o, SP S pp q → H25 q = some o → upd H103 pp (.lst (xs103 ++ [.ref p103])) q = some o := fun q o u e => by rw [upd_ne u.2]; exact s103 _ _ (s102 _ _ e)
        generalize upd H103 pp (.lst (xs103 ++ [.ref p103])) = HIA at *
        have k24 : Rep (SP S pp) HIA (.ref p24) (.list ((setSpan B r.n el eh).map BR.d)) := (k24.same s25).to fun q o u e => ⟨u, tIA q o u e⟩
        have tA : ∀ q o, SP S pp q → H18 q = some o → HIA q = some o := fun q o u e => tIA q o u (s25 _ _ (t24 q o u e))
        obtain ⟨xsA, hxA, _⟩ := IA.pr
        obtain ⟨dx, c0, b0, f0, t0, oc, oe, os, gg, qq, ua, haA, _⟩ := IA.ww.at_.ex
        walk_at "rdF"
        refine ⟨.inl ⟨rfl, _, sl_of hxA⟩, ?_⟩
        walk_at "rdF"
        refine ⟨a, dx, _, rfl, haA, by rfl, ?_⟩
        walk_at "rdF"
        refine d1 tA ?_
        walk_at "rdF"
        refine d0 tA ?_
        walk_at "rdF"
        refine e0 tA ?_
        refine ⟨rfl, rfl, _, a, _, _, r.n, el, eh, rfl, IA.ww, sl, sh, fun o => (by rw [bl.op.2] at o; cases o), fun _ o => (by rw [bh.op.2] at o; cases o), fun _ _ o => (by rw [ncr] at o; cases o), fun _ _ _ hn => absurd hzb hn, fun _ _ _ _ w4 H26 s26 nw4 hw4 => ?_⟩
        have I26 := IA.same s26
        have hw4 : WebV (SP S pp) C CS H26 w4 (sortL L) (sortB (setSpan B r.n el eh)) := by
          rw [sortB_setSpan rt.db]; exact hw4.less fun q hq => IA.new q hq
        walk_at "rdF"
        refine ⟨sz (by simp), fun p104 m104 => ?_⟩
        obtain ⟨s104, k104⟩ := new_lst (vs := [.ref na, .ref p24]) (ds := [.list (L.map lampD), .list ((setSpan B r.n el eh).map BR.d)]) m104 (I26.new _ m104) (.cons I26.kn (.cons (k24.same s26) .nil))
        generalize upd H26 p104 (.lst [.ref na, .ref p24]) = H104 at *
        walk_at "rdF"
        refine ⟨sz (by simp), fun p105 m105 => ?_⟩
        have s105 := same_new (o := .lst [V.ref w4, .ref p104]) m105
        have h105 := @upd_same H104 p105 (.lst [V.ref w4, .ref p104])
        have u105 := (I26.same s104).new _ m105
        show tNil _ (upd H104 p105 (.lst [V.ref w4, .ref p104])) _
        generalize upd H104 p105 (.lst [V.ref w4, .ref p104]) = H105 at *
        have I105 := (I26.same s104).same s105
        have pr105 : PairAt (SP S pp) C CS H105 (.ref p105) := ⟨p105, w4, .ref p104, _, _, rfl, u105, h105, (hw4).same (s104.trans s105), k104.same s105, rtS⟩
        obtain ⟨xs105, hx105, hl105, _⟩ := I105.pr
        walk_at "rdF"
        refine ⟨pp, xs105, _, rfl, rfl, hx105, Nat.lt_of_le_of_lt hl105 (by decide), ?_⟩
        have IB := I105.push hx105 pr105
        have tIB : ∀ q o, SP S pp q → H26 q = some o → upd H105 pp (.lst (xs105 ++ [.ref p105])) q = some o := fun q o u e => by rw [upd_ne u.2]; exact s105 _ _ (s104 _ _ e)
        generalize upd H105 pp (.lst (xs105 ++ [.ref p105])) = HIB at *
        have tB : ∀ q o, SP S pp q → H18 q = some o → HIB q = some o := fun q o u e => tIB q o u (s26 _ _ (tA q o u e))
        obtain ⟨dx, c0, b0, f0, t0, oc, oe, os, gg, qq, ua, haB, _⟩ := IB.ww.at_.ex
        walk_at "rdF"
        refine ⟨a, dx, _, rfl, haB, by rfl, ?_⟩
        walk_at "rdF"
        refine e0 tB ?_
        refine ⟨_, a, _, _, r.n, rfl, IB.ww, fun hn => absurd hzb hn, fun _ w5 H27 s27 nw5 hw5 => ?_⟩
        have I27 := IB.same s27
        have hw5 : WebV (SP S pp) C CS H27 w5 (sortL L) (sortB (othersD B r.n)) := by
          rw [sortB_others rt.db]; exact hw5.less fun q hq => IB.new q hq
        walk_at "rdF"
        refine ⟨a, dx, _, rfl, s27 _ _ haB, by rfl, ?_⟩
        walk_at "rdF"
        refine e0 (fun q o u e => s27 _ _ (tB q o u e)) ?_
        refine ⟨rfl, rfl, _, a, _, _, r.n, rfl, I27.ww, fun hn => absurd hzb hn, fun _ w6 H28 s28 nw6 hw6 => ?_⟩
        have I28 := I27.same s28
        have hw6 : WebV (SP S pp) C CS H28 w6 (sortL L) (sortB (othersD B r.n)) := by
          rw [sortB_others rt.db]; exact hw6.less fun q hq => I27.new q hq
        walk_at "rdF"
        refine ⟨sz (by simp), fun lp mlp => ?_⟩
        have s29 := same_new (o := .lst [V.ref w5, .ref w6]) mlp
        have hlp := @upd_same H28 lp (.lst [V.ref w5, .ref w6])
        have ulp := I28.new _ mlp
        generalize upd H28 lp (.lst [V.ref w5, .ref w6]) = H29 at *
        have I29 := I28.same s29
        have t29 : ∀ q o, SP S pp q → H18 q = some o → H29 q = some o := fun q o u e => s29 _ _ (s28 _ _ (s27 _ _ (tB q o u e)))
        refine ⟨lp, rfl, ⟨_, sl_of hlp⟩, L2.for_list (xs := [.ref w5, .ref w6]) (fun j σ' H' => ∃ y11, σ' = [some (.ref S.1), some (.ref a), some (.ref vp), some (.ref na), some (.ref ea), some (.int i), some bv, some (.ref p24), some (.ref pp), some (.ref eq), some x, y11, none] ∧ ChI S C CS H a vp na ea pp L B ns (4 + j) H' ∧ ∀ q o, SP S pp q → H29 q = some o → H' q = some o) ⟨_, rfl, I29, fun _ _ _ e => e⟩ (fun j σ' H' _ h => ?_) ?_ ?_⟩
        · obtain ⟨_, _, _, t⟩ := h
          exact sl_of (t _ _ ulp hlp)
        · rintro j v σ' H' hv ⟨y11, rfl, IJ, tJ⟩
          have hvw : ∃ w7, v = .ref w7 ∧ WebV (SP S pp) C CS H' w7 (sortL L) (sortB (othersD B r.n)) := by
            match j with
            | 0 => simp at hv; exact ⟨w5, hv.symm, ((hw5.same s28).same s29).to fun q o u e => ⟨u, tJ q o u e⟩⟩
            | 1 => simp at hv; exact ⟨w6, hv.symm, (hw6.same s29).to fun q o u e => ⟨u, tJ q o u e⟩⟩
            | j + 2 => simp at hv
          have hj : j < 2 := by
            have := (List.getElem?_eq_some_iff.mp hv).1
            simpa using this
          obtain ⟨w7, rfl, hw7⟩ := hvw
          obtain ⟨xsJ, hxJ, _⟩ := IJ.pr
          walk_at "rdF"
          refine ⟨.inl ⟨rfl, _, sl_of hxJ⟩, ?_⟩
          walk_at "rdF"
          refine rd_take IJ.ke IJ.new fun p30 H30 s30 m30 k30 => ?_
          have I30 := IJ.same s30
          walk_at "rdF"
          refine rd_dropL (k := i + 1) I30.ke I30.new fun p31 H31 s31 m31 k31 => ?_
          have I31 := I30.same s31
          refine rd_cat (k30.same s31) k31 (by rw [List.length_take, List.length_drop]; simp; omega) I31.new fun p32 H32 s32 m32 k32 => ?_
          have I32 := I31.same s32
          rw [← List.map_take, ← List.map_drop, ← List.map_append, others_at rt.db hr] at k32
          walk_at "rdF"
          refine ⟨sz (by simp), fun p106 m106 => ?_⟩
          obtain ⟨s106, k106⟩ := new_lst (vs := [.ref na, .ref p32]) (ds := [.list (L.map lampD), .list ((othersD B r.n).map BR.d)]) m106 (I32.new _ m106) (.cons I32.kn (.cons k32 .nil))
          generalize upd H32 p106 (.lst [.ref na, .ref p32]) = H106 at *
          walk_at "rdF"
          refine ⟨sz (by simp), fun p107 m107 => ?_⟩
          have s107 := same_new (o := .lst [V.ref w7, .ref p106]) m107
          have h107 := @upd_same H106 p107 (.lst [V.ref w7, .ref p106])
          have u107 := (I32.same s106).new _ m107
          show tNil _ (upd H106 p107 (.lst [V.ref w7, .ref p106])) _
          generalize upd H106 p107 (.lst [V.ref w7, .ref p106]) = H107 at *
          have I107 := (I32.same s106).same s107
          have pr107 : PairAt (SP S pp) C CS H107 (.ref p107) := ⟨p107, w7, .ref p106, _, _, rfl, u107, h107, (((hw7.same s30).same s31).same s32).same (s106.trans s107), k106.same s107, rtO⟩
          obtain ⟨xs107, hx107, hl107, _⟩ := I107.pr
          walk_at "rdF"
          refine ⟨pp, xs107, _, rfl, rfl, hx107, Nat.lt_of_le_of_lt (Nat.le_trans hl107 (by omega : _ ≤ 6)) (by decide), ?_⟩
          have IC := I107.push hx107 pr107
          have tIC : ∀ q o, SP S pp q → H32 q = some o → upd H107 pp (.lst (xs107 ++ [.ref p107])) q = some o := fun q o u e => by rw [upd_ne u.2]; exact s107 _ _ (s106 _ _ e)
          generalize upd H107 pp (.lst (xs107 ++ [.ref p107])) = HIC at *
          exact ⟨_, rfl, IC, fun q o u e => tIC q o u (s32 _ _ (s31 _ _ (s30 _ _ (tJ q o u e))))⟩
        · rintro σ' H' ⟨y11, rfl, IJ, tJ⟩
          exact ⟨_, _, _, _, rfl, IJ, keq18.to fun q o u e => ⟨u, tJ q o u (t29 q o u e)⟩, fun _ => ⟨i, r, rfl, hr⟩⟩
    · rintro σ30 H30 ⟨at', y7, y10, y11, rfl, I30, keq30, hat⟩
      have sl := bl.op.sc
      have sh := bh.op.sc
      walk_at "rdF"
      refine rd_cut (fun σ' H' => ∃ y5 y7 y10 y11 y12, σ' = [some (.ref S.1), some (.ref a), some (.ref vp), some (.ref na), some (.ref ea), y5, some bv, y7, some (.ref pp), some (.ref eq), y10, y11, y12] ∧ ChI S C CS H a vp na ea pp L B ns 8 H') ?_ ?_
      · walk_at "rdF"
        refine rep_len I30.ke rfl fun xs rx => ?_
        have lx : xs.length = B.length := by rw [rx.len]; exact List.length_map ..
        rw [lx]
        walk_at "rdF"
        have toMid : ChI S C CS H a vp na ea pp L B ns 8 H30 := ⟨I30.gd, I30.n0, I30.p1, I30.p2, I30.kv, I30.kn, I30.ke, I30.ww, by
          obtain ⟨xs, h1, h2, h3⟩ := I30.pr
          exact ⟨xs, h1, by omega, h3⟩⟩
        refine if_dec (fun hm => ?_) (fun hm => ?_)
        rotate_left
        · walk_at "rdF"
          exact ⟨_, _, _, _, _, rfl, toMid⟩
        · walk_at "rdF"
          refine if_dec (fun h16 => ?_) (fun h16 => ?_)
          rotate_left
          · walk_at "rdF"
            exact ⟨_, _, _, _, _, rfl, toMid⟩
          · obtain ⟨i, r, rfl, hr⟩ := hat (by omega)
            have hrm := List.mem_of_getElem? hr
            have hd : (B.map BR.d)[i]? = some r.d := by rw [List.getElem?_map, hr]; rfl
            walk_at "rdF"
            refine lc_seq (U := fun _ => True) (fun ds => ds.map fun e => (kids e).getD 0 .none) (fun _ => True) (.inl (I30.ke.less fun _ _ => trivial)) rfl (fun _ _ => trivial) rfl (fun _ _ => trivial) ?_ ?_
            · rintro D j x e H' uD nD he hx hI
              have he' : (B.map BR.d)[j]? = some e := he
              rw [List.getElem?_map] at he'
              cases qi : B[j]? with
              | none => rw [qi] at he'; cases he'
              | some b =>
                rw [qi] at he'
                cases he'
                refine ⟨by walk_at "wiped", ?_⟩
                walk_at "rdF"
                refine rep_ix hx rfl (by decide) rfl fun u hu => ?_
                refine hI.put .refl trivial nD (fun _ => trivial) hu ?_ ?_
                · rw [List.length_map, List.length_take]
                  show min j (B.map BR.d).length < _
                  rw [List.length_map]; omega
                · rw [take_succ he, List.map_append]; rfl
            · rintro p31 acc H31 e31 _ np31 hp31 hacc _
              have ea31 : (kids (.list (B.map BR.d))).map (fun e => (kids e).getD 0 .none) = (bondNs B).map PyData.str := by
                show (B.map BR.d).map _ = _
                rw [List.map_map, List.map_map]; rfl
              rw [ea31] at hacc
              obtain rfl := hacc.strsI
              have s31 := e31.toSame
              have I31 := I30.same s31
              have keq31 := keq30.same s31
              walk_at "rdF"
              refine ⟨S, 1, p31, bondNs B, rfl, by omega, by rw [List.length_map]; omega, I31.gd.ok, ⟨(I30.new _ np31).1, hp31⟩, fun q U H32 hU ndU nU lU nq hq hS32 e32 => ?_⟩
              have I32 := I31.st hS32 e32
              have keq32 : Rep (SP S pp) H32 (.ref eq) (.tuple [vD el, vD eh]) := keq31.to fun q o u e => ⟨u, e32 q o u.1 e⟩
              obtain ⟨z, rfl⟩ : ∃ z, U = [z] := by
                cases U with
                | nil => cases lU
                | cons z U => cases U with
                  | nil => exact ⟨z, rfl⟩
                  | cons y U => simp at lU
              have hz := hU z (by simp)
              have hzn := nU z (by simp)
              have hxl : r.x ∈ lampNs L := rt.unk _ (List.mem_flatMap.mpr ⟨r, hrm, by simp⟩)
              have hyl : r.y ∈ lampNs L := rt.unk _ (List.mem_flatMap.mpr ⟨r, hrm, by simp⟩)
              have sf := rt.sf r hrm
              have mL : ∀ {y}, y ∈ lampNs L → y ∈ lampNs (sortL L) := fun {y} hy => ((srt_perm L).map _).mem_iff.mpr hy
              have hzs : z ∉ bondNs (sortB B) := fun hc => hzn (by
                have := ((srt_perm (B.map keptBR)).map BR.n).mem_iff.mp hc
                rw [List.map_map] at this; exact this)
              have lsB : (sortB B).length = B.length := by rw [srt_len, List.length_map]
              have rtN : Right L (B ++ [(⟨z, r.y, r.x, el, eh⟩ : BR)]) := rt.add hz hzn bl.op.2 bh.op.2 ncr hyl hxl (fun e => sf e.symm) (by omega)
              have rtM : Right L (B ++ [(⟨z, r.x, r.y, .non, .non⟩ : BR)]) := rt.add hz hzn rfl rfl rfl hxl hyl sf (by omega)
              have rsN : Right (sortL L) (sortB B ++ [(⟨z, r.x, r.y, el, eh⟩ : BR)]) := I32.ww.ok.rt.add hz hzs bl.op.2 bh.op.2 ncr (mL hxl) (mL hyl) sf (by omega)
              have rsM : Right (sortL L) (sortB B ++ [(⟨z, r.y, r.x, .non, .non⟩ : BR)]) := I32.ww.ok.rt.add hz hzs rfl rfl rfl (mL hyl) (mL hxl) (fun e => sf e.symm) (by omega)
              refine rd_ixQL hq.2 (atI_nat (i := 0) rfl) ?_
              have ixe : ∀ {H' : Hp} {R : V → Hp → Prop}, (∀ q o, SP S pp q → H32 q = some o → H' q = some o) → (∀ x, Rep (SP S pp) H' x r.d → R x H') → rIx K (.ref ea) (.int i) H' R := fun s h => (I32.ke.to fun q o u e => ⟨u, s q o u e⟩).ixL hd h
              have d0 : ∀ {H' : Hp} {R : V → Hp → Prop}, (∀ q o, SP S pp q → H32 q = some o → H' q = some o) → R el H' → rIx K (.ref eq) (.int 0) H' R := fun s h => rep_ix (keq32.to fun q o u e => ⟨u, s q o u e⟩) rfl (by decide) rfl fun u h4 => by cases h4.scI sl; exact h
              have d1 : ∀ {H' : Hp} {R : V → Hp → Prop}, (∀ q o, SP S pp q → H32 q = some o → H' q = some o) → R eh H' → rIx K (.ref eq) (.int 1) H' R := fun s h => rep_ix (keq32.to fun q o u e => ⟨u, s q o u e⟩) rfl (by decide) rfl fun u h4 => by cases h4.scI sh; exact h
              have tI : ∀ q o, SP S pp q → H32 q = some o → H32 q = some o := fun _ _ _ e => e
              walk_at "rdF"
              refine ixe tI fun x hx => ?_
              walk_at "rdF"
              refine rep_ix hx rfl (by decide) rfl fun u hu => ?_
              cases hu.strI
              walk_at "rdF"
              refine ixe tI fun x hx => ?_
              walk_at "rdF"
              refine rep_ix hx rfl (by decide) rfl fun u hu => ?_
              cases hu.strI
              walk_at "rdF"
              refine d0 tI ?_
              walk_at "rdF"
              refine d1 tI ?_
              walk_at "rdF"
              refine ⟨sz (by simp), fun p33 m33 => ?_⟩
              obtain ⟨s33, k33⟩ := new_tup (vs := [.str z, .str r.y, .str r.x, el, eh]) (ds := [.str z, .str r.y, .str r.x, vD el, vD eh]) m33 (I32.new _ m33) (.cons (.str _) (.cons (.str _) (.cons (.str _) (.cons (.sc sl) (.cons (.sc sh) .nil)))))
              generalize upd H32 p33 (.tup [.str z, .str r.y, .str r.x, el, eh]) = H33 at *
              have I33 := I32.same s33
              walk_at "rdF"
              refine ⟨sz (by simp), fun p34 m34 => ?_⟩
              obtain ⟨s34, k34⟩ := new_lst (vs := [.ref p33]) (ds := [BR.d ⟨z, r.y, r.x, el, eh⟩]) m34 (I33.new _ m34) (.cons k33 .nil)
              generalize upd H33 p34 (.lst [.ref p33]) = H34 at *
              have I34 := I33.same s34
              refine rd_cat I34.ke k34 (by rw [List.length_map]; simp; omega) I34.new fun p35 H35 s35 m35 k35 => ?_
              have I35 := I34.same s35
              rw [show [BR.d ⟨z, r.y, r.x, el, eh⟩] = [(⟨z, r.y, r.x, el, eh⟩ : BR)].map BR.d from rfl, ← List.map_append] at k35
              have t35 : ∀ q o, SP S pp q → H32 q = some o → H35 q = some o := fun q o _ e => s35 _ _ (s34 _ _ (s33 _ _ e))
              obtain ⟨xs35, hx35, _⟩ := I35.pr
              obtain ⟨dx, c0, b0, f0, t0, oc, oe, os, gg, qq, ua, ha35, _⟩ := I35.ww.at_.ex
              walk_at "rdF"
              refine ⟨.inl ⟨rfl, _, sl_of hx35⟩, ?_⟩
              walk_at "rdF"
              refine ⟨a, dx, _, rfl, ha35, by rfl, ?_⟩
              walk_at "rdF"
              refine ixe t35 fun x hx => ?_
              walk_at "rdF"
              refine rep_ix hx rfl (by decide) rfl fun u hu => ?_
              cases hu.strI
              walk_at "rdF"
              refine ixe t35 fun x hx => ?_
              walk_at "rdF"
              refine rep_ix hx rfl (by decide) rfl fun u hu => ?_
              cases hu.strI
              walk_at "rdF"
              refine d1 t35 ?_
              walk_at "rdF"
              refine d0 t35 ?_
              refine ⟨rfl, rfl, _, a, _, _, ⟨z, r.x, r.y, el, eh⟩, rfl, I35.ww, (show z.length ≤ 1000 by have := (isNm_len hz).2; omega), sl, sh, fun e he => (rsN.notWrong he).elim, fun _ w8 H36 s36 nw8 hw8 => ?_⟩
              have I36 := I35.same s36
              have hw8 : WebV (SP S pp) C CS H36 w8 (sortL L) (sortB (B ++ [(⟨z, r.y, r.x, el, eh⟩ : BR)])) := by
                rw [← sortB_new (q := ⟨z, r.x, r.y, el, eh⟩) kept_swap rtN.db]; exact hw8.less fun q hq => I35.new q hq
              walk_at "rdF"
              refine ⟨sz (by simp), fun p108 m108 => ?_⟩
              obtain ⟨s108, k108⟩ := new_lst (vs := [.ref na, .ref p35]) (ds := [.list (L.map lampD), .list ((B ++ [(⟨z, r.y, r.x, el, eh⟩ : BR)]).map BR.d)]) m108 (I36.new _ m108) (.cons I36.kn (.cons (k35.same s36) .nil))
              generalize upd H36 p108 (.lst [.ref na, .ref p35]) = H108 at *
              walk_at "rdF"
              refine ⟨sz (by simp), fun p109 m109 => ?_⟩
              have s109 := same_new (o := .lst [V.ref w8, .ref p108]) m109
              have h109 := @upd_same H108 p109 (.lst [V.ref w8, .ref p108])
              have u109 := (I36.same s108).new _ m109
              show tNil _ (upd H108 p109 (.lst [V.ref w8, .ref p108])) _
              generalize upd H108 p109 (.lst [V.ref w8, .ref p108]) = H109 at *
              have I109 := (I36.same s108).same s109
              have pr109 : PairAt (SP S pp) C CS H109 (.ref p109) := ⟨p109, w8, .ref p108, _, _, rfl, u109, h109, (hw8).same (s108.trans s109), k108.same s109, rtN⟩
              obtain ⟨xs109, hx109, hl109, _⟩ := I109.pr
              walk_at "rdF"
              refine ⟨pp, xs109, _, rfl, rfl, hx109, Nat.lt_of_le_of_lt hl109 (by decide), ?_⟩
              have ID := I109.push hx109 pr109
              have tID : ∀ q o, SP S pp q → H36 q = some o → upd H109 pp (.lst (xs109 ++ [.ref p109])) q = some o := fun q o u e => by rw [upd_ne u.2]; exact s109 _ _ (s108 _ _ e)
              generalize upd H109 pp (.lst (xs109 ++ [.ref p109])) = HID at *
              have tD : ∀ q o, SP S pp q → H32 q = some o → HID q = some o := fun q o u e => tID q o u (s36 _ _ (t35 q o u e))
              walk_at "rdF"
              refine ixe tD fun x hx => ?_
              walk_at "rdF"
              refine rep_ix hx rfl (by decide) rfl fun u hu => ?_
              cases hu.strI
              walk_at "rdF"
              refine ixe tD fun x hx => ?_
              walk_at "rdF"
              refine rep_ix hx rfl (by decide) rfl fun u hu => ?_
              cases hu.strI
              walk_at "rdF"
              refine ⟨sz (by simp), fun p43 m43 => ?_⟩
              obtain ⟨s43, k43⟩ := new_tup (vs := [.str z, .str r.x, .str r.y, .non, .non]) (ds := [.str z, .str r.x, .str r.y, .none, .none]) m43 (ID.new _ m43) (.cons (.str _) (.cons (.str _) (.cons (.str _) (.cons .non (.cons .non .nil)))))
              generalize upd HID p43 (.tup [.str z, .str r.x, .str r.y, .non, .non]) = H43 at *
              have I43 := ID.same s43
              walk_at "rdF"
              refine ⟨sz (by simp), fun p44 m44 => ?_⟩
              obtain ⟨s44, k44⟩ := new_lst (vs := [.ref p43]) (ds := [BR.d ⟨z, r.x, r.y, .non, .non⟩]) m44 (I43.new _ m44) (.cons k43 .nil)
              generalize upd H43 p44 (.lst [.ref p43]) = H44 at *
              have I44 := I43.same s44
              refine rd_cat I44.ke k44 (by rw [List.length_map]; simp; omega) I44.new fun p45 H45 s45 m45 k45 => ?_
              have I45 := I44.same s45
              rw [show [BR.d ⟨z, r.x, r.y, .non, .non⟩] = [(⟨z, r.x, r.y, .non, .non⟩ : BR)].map BR.d from rfl, ← List.map_append] at k45
              have t45 : ∀ q o, SP S pp q → H32 q = some o → H45 q = some o := fun q o u e => s45 _ _ (s44 _ _ (s43 _ _ (tD q o u e)))
              obtain ⟨xs45, hx45, _⟩ := I45.pr
              obtain ⟨dx, c0, b0, f0, t0, oc, oe, os, gg, qq, ua, ha45, _⟩ := I45.ww.at_.ex
              walk_at "rdF"
              refine ⟨.inl ⟨rfl, _, sl_of hx45⟩, ?_⟩
              walk_at "rdF"
              refine ⟨a, dx, _, rfl, ha45, by rfl, ?_⟩
              walk_at "rdF"
              refine ixe t45 fun x hx => ?_
              walk_at "rdF"
              refine rep_ix hx rfl (by decide) rfl fun u hu => ?_
              cases hu.strI
              walk_at "rdF"
              refine ixe t45 fun x hx => ?_
              walk_at "rdF"
              refine rep_ix hx rfl (by decide) rfl fun u hu => ?_
              cases hu.strI
              walk_at "rdF"
              refine ⟨rfl, rfl, _, a, _, _, ⟨z, r.y, r.x, .non, .non⟩, rfl, I45.ww, (show z.length ≤ 1000 by have := (isNm_len hz).2; omega), trivial, trivial, fun e he => (rsM.notWrong he).elim, fun _ w9 H46 s46 nw9 hw9 => ?_⟩
              have I46 := I45.same s46
              have hw9 : WebV (SP S pp) C CS H46 w9 (sortL L) (sortB (B ++ [(⟨z, r.x, r.y, .non, .non⟩ : BR)])) := by
                rw [← sortB_new (q := ⟨z, r.y, r.x, .non, .non⟩) kept_swap rtM.db]; exact hw9.less fun q hq => I45.new q hq
              walk_at "rdF"
              refine ⟨sz (by simp), fun p110 m110 => ?_⟩
              obtain ⟨s110, k110⟩ := new_lst (vs := [.ref na, .ref p45]) (ds := [.list (L.map lampD), .list ((B ++ [(⟨z, r.x, r.y, .non, .non⟩ : BR)]).map BR.d)]) m110 (I46.new _ m110) (.cons I46.kn (.cons (k45.same s46) .nil))
              generalize upd H46 p110 (.lst [.ref na, .ref p45]) = H110 at *
              walk_at "rdF"
              refine ⟨sz (by simp), fun p111 m111 => ?_⟩
              have s111 := same_new (o := .lst [V.ref w9, .ref p110]) m111
              have h111 := @upd_same H110 p111 (.lst [V.ref w9, .ref p110])
              have u111 := (I46.same s110).new _ m111
              show tNil _ (upd H110 p111 (.lst [V.ref w9, .ref p110])) _
              generalize upd H110 p111 (.lst [V.ref w9, .ref p110]) = H111 at *
              have I111 := (I46.same s110).same s111
              have pr111 : PairAt (SP S pp) C CS H111 (.ref p111) := ⟨p111, w9, .ref p110, _, _, rfl, u111, h111, (hw9).same (s110.trans s111), k110.same s111, rtM⟩
              obtain ⟨xs111, hx111, hl111, _⟩ := I111.pr
              walk_at "rdF"
              refine ⟨pp, xs111, _, rfl, rfl, hx111, Nat.lt_of_le_of_lt hl111 (by decide), ?_⟩
              have IE := I111.push hx111 pr111
              have tIE : ∀ q o, SP S pp q → H46 q = some o → upd H111 pp (.lst (xs111 ++ [.ref p111])) q = some o := fun q o u e => by rw [upd_ne u.2]; exact s111 _ _ (s110 _ _ e)
              generalize upd H111 pp (.lst (xs111 ++ [.ref p111])) = HIE at *
              walk_at "rdF"
              exact ⟨_, _, _, _, _, rfl, IE⟩
      · rintro σ' H' ⟨y5, y7, y10, y11, y12, rfl, IZ⟩
        walk_at "rdF"
        obtain ⟨xs, hx, hl, hp⟩ := IZ.pr
        exact h pp xs H' IZ.gd IZ.p1 hx hp (by omega)
end
set_option maxHeartbeats 2000000
abbrev s_law_refuses : Stmt := topS 68
theorem sc_law_refuses : FnScope ["store", "web", "plan", "posts", "labels", "post", "label", "odd", "k", "one", "two", "tops", "odds", "told", "edge", "other", "due"] ["store", "web", "plan"] (defScope s_law_refuses) := ⟨rfl, rfl, rfl, by decide +kernel, rfl, by decide +kernel, by decide +kernel⟩
section
variable {P : Program} {w : World} {K : PySem.W.Frag} {mg : Str → Option Value} {base : Heap} {C CS CE CB CU : Addr}
def unlisted (N : List Str) : PyData → Bool
  | .str z => decide (z ∉ N)
  | _ => false
theorem unlisted_strs {N U : List Str} : (U.map PyData.str).filter (unlisted N) = (U.filter fun z => decide (z ∉ N)).map PyData.str := by rw [List.filter_map]; rfl
theorem nm_empty : isNm (("" : Str)) = false := by decide +kernel
theorem first_unique {α : Type} {p : α → Prop} : ∀ {l : List α} {a b : α}, First p l a → First p l b → a = b
  | l, a, b, ⟨l1, l2, e1, n1, p1⟩, ⟨m1, m2, e2, n2, p2⟩ => by
    subst e1
    induction l1 generalizing m1 with
    | nil => cases m1 with
      | nil => exact (List.cons.inj e2).1
      | cons y m1 =>
        have := (List.cons.inj e2).1
        exact absurd p1 (by rw [this]; exact n2 y List.mem_cons_self)
    | cons x l1 ih => cases m1 with
      | nil =>
        have := (List.cons.inj e2).1
        exact absurd p2 (by rw [← this]; exact n1 x List.mem_cons_self)
      | cons y m1 => exact ih (fun u hu => n1 u (List.mem_cons_of_mem _ hu)) m1 (fun u hu => n2 u (List.mem_cons_of_mem _ hu)) (List.cons.inj e2).2
theorem wrong9 {L : List (Str × V)} {B : List BR} {z : Str} {t v : V} (r : Right L B) (ot : isOpen t = false) : ¬ Right L (B ++ [⟨"b", z, z, t, v⟩]) ∧ ∀ e, Wrong L (B ++ [⟨"b", z, z, t, v⟩]) e → e = .num t := by
  have eN : numsOf L (B ++ [⟨"b", z, z, t, v⟩]) = numsOf L B ++ [t, v] := by unfold numsOf; rw [List.flatMap_append, ← List.append_assoc]; simp
  have eb : bondNs (B ++ [(⟨"b", z, z, t, v⟩ : BR)]) = bondNs B ++ [(("b" : Str))] := by unfold bondNs; rw [List.map_append]; rfl
  have mt : t ∈ numsOf L (B ++ [⟨"b", z, z, t, v⟩]) := by rw [eN]; simp
  have no : ∀ {P : Prop}, (∀ u ∈ numsOf L (B ++ [⟨"b", z, z, t, v⟩]), isOpen u = true) → P := fun h => by
    have := h t mt
    rw [ot] at this; cases this
  refine ⟨fun R => no R.num, fun e w => ?_⟩
  cases w with
  | name f =>
    obtain ⟨l1, l2, e, _, p⟩ := f
    have hm : ∀ y ∈ lampNs L ++ bondNs (B ++ [(⟨"b", z, z, t, v⟩ : BR)]), isNm y = true := fun y hy => by
      rw [eb, ← List.append_assoc] at hy
      rcases List.mem_append.mp hy with h | h
      · exact r.nm y h
      · rw [List.mem_singleton.mp h]; decide +kernel
    rw [hm _ (by rw [e]; simp)] at p; cases p
  | num _ f =>
    have : First (fun v => isOpen v = false) (numsOf L (B ++ [⟨"b", z, z, t, v⟩])) t := ⟨numsOf L B, [v], by rw [eN], fun u hu => by show ¬ isOpen u = false; rw [r.num u hu]; simp, ot⟩
    rw [first_unique f this]
  | span h _ => exact no h.num
  | dblL h _ => exact no h.num
  | dblB h _ => exact no h.num
  | self h _ => exact no h.num
  | unk h _ => exact no h.num
  | lamps h _ => exact no h.num
  | bonds h _ => exact no h.num
def spRefuses (C CS : Addr) : Sp := fun vs H Q _ => ∃ (S : Sto) (a : Addr) (v : V) (L : List (Str × V)) (B : List BR) (ns : List Int), vs = [.ref S.1, .ref a, v] ∧ StoreOk S H ∧ WebV (US S) C CS H a (sortL L) (sortB B) ∧ RS S H v (planD L B [.list (ns.map PyData.int)]) ∧ Right L B ∧ (∀ n ∈ ns, InR n) ∧ ns.Pairwise (· < ·) ∧ 2 ≤ ns.length ∧ ns.length ≤ 6 ∧
  ∀ H', Gd S H H' → Q (.bl true) H'
theorem ok_refuses {k : Nat} {f : Addr} {fd : FuncData} (F : Fun K "_law_refuses" "_law_refuses" s_law_refuses f fd) (T : Blt mg) (H_law_pick : Has P w K mg base "_law_pick" k ["store", "items"] spPick) (H_law_odd : Has P w K mg base "_law_odd" k ["store", "plan"] spOdd) (H_law_posts : Has P w K mg base "_law_posts" k ["plan"] spPosts) (H_law_labels : Has P w K mg base "_law_labels" k ["plan"] spLabels)
    (H_law_alike : Has P w K mg base "_law_alike" k ["left", "right"] (spAlike 3)) (H_law_asked : Has P w K mg base "_law_asked" k ["web", "k", "one", "two", "value"] (spAsked C CS)) (HM_Web_contains : HasM P w K mg base CX0 C "__contains__" k ["self", "lamp"] (spWHas C CS)) : FnOk P w K mg base CX0 (k + 1) f fd ["store", "web", "plan"] (spRefuses C CS) := by
  refine F.ok sc_law_refuses (fun vs H Q E h => ?_) (fun cdv A outer s H vs Q E hr h => ?_)
  · obtain ⟨S, a, v, L, B, ns, rfl, _⟩ := h; rfl
  · obtain ⟨S, a, v, L, B, ns, rfl, hS, hw, hv, rt, hns, pw, n2, n6, h⟩ := h
    have lL := rt.l10
    have lL1 := rt.l1
    have lB := rt.l16
    refine ⟨_, (pss_cons (ps_set (i := 3) sc_law_refuses.nd rfl (.inr rfl) (pe_callH H_law_posts hr (by rfl) (pa_cons (pv 2) pa_nil)))
 (pss_cons (ps_set (i := 4) sc_law_refuses.nd rfl (.inr rfl) (pe_callH H_law_labels hr (by rfl) (pa_cons (pv 2) pa_nil)))
 (pss_cons (ps_set (i := 5) sc_law_refuses.nd rfl (.inl rfl) (pe_callH H_law_pick hr (by rfl) (pa_cons (pv 0) (pa_cons (pe_lc (own := [("other", 15)]) (g := (gName 15)) (by rfl) sc_law_refuses.nd (pi_seq (pe_callH H_law_odd hr (by rfl) (pa_cons (pv 0) (pa_cons (pv 2) pa_nil)))) (blkOk_by (own := [("other", 15)]) (N := ["store", "web", "plan", "posts", "labels", "post", "label", "odd", "k", "one", "two", "tops", "odds", "told", "edge", "other", "due"]) (sc := defScope s_law_refuses) (by decide +kernel)) (fun _ _ _ _ _ => (pg_name (i := 15) sc_law_refuses.nd rfl (.inl rfl))) (fun _ _ _ _ _ => (pts_one (pt_cmpR (op_notin_seqR (K := K) rfl) (pv 15) (pv 3) (by rfl)))) (fun _ _ _ _ _ => (pv 15))) pa_nil))))
 (pss_cons (ps_set (i := 6) sc_law_refuses.nd rfl (.inl rfl) (pe_callH H_law_pick hr (by rfl) (pa_cons (pv 0) (pa_cons (pe_lc (own := [("other", 15)]) (g := (gName 15)) (by rfl) sc_law_refuses.nd (pi_seq (pe_callH H_law_odd hr (by rfl) (pa_cons (pv 0) (pa_cons (pv 2) pa_nil)))) (blkOk_by (own := [("other", 15)]) (N := ["store", "web", "plan", "posts", "labels", "post", "label", "odd", "k", "one", "two", "tops", "odds", "told", "edge", "other", "due"]) (sc := defScope s_law_refuses) (by decide +kernel)) (fun _ _ _ _ _ => (pg_name (i := 15) sc_law_refuses.nd rfl (.inl rfl))) (fun _ _ _ _ _ => (pts_one (pt_cmpR (op_notin_seqR (K := K) rfl) (pv 15) (pv 4) (by rfl)))) (fun _ _ _ _ _ => (pv 15))) pa_nil))))
 (pss_cons (ps_set (i := 7) sc_law_refuses.nd rfl (.inl rfl) (pe_callH H_law_pick hr (by rfl) (pa_cons (pv 0) (pa_cons (pe_lst (pa_cons (pe_op op_add (pe_op op_pow pe_int pe_int) pe_int) (pa_cons (pe_op op_sub (pe_un un_neg (pe_op op_pow pe_int pe_int)) pe_int) (pa_cons (pe_op op_pow pe_int pe_int) (pa_cons pe_bl (pa_cons pe_bl pa_nil)))))) pa_nil))))
 (C8.pss_cut (ps_for PassesOwn.never rfl (pi_range1 rfl T.range (pa_cons pe_int pa_nil)) (pg_name (i := 8) sc_law_refuses.nd rfl (.inl rfl)) (C8.pss_cut (ps_set (i := 9) sc_law_refuses.nd rfl (.inl rfl) (pe_ix (ix_seqR (K := K) rfl) (pe_lst (pa_cons (pv 5) (pa_cons (pv 6) pa_nil))) (pe_callTy call_int1 (by rfl) T.int (by decide +kernel) (pa_cons (pe_cmpR op_gt (pv 8) pe_int (nomark _)) pa_nil)) (fun _ _ => rfl)))
 (C8.pss_cut (ps_set (i := 10) sc_law_refuses.nd rfl (.inl rfl) (pe_ix (ix_seqR (K := K) rfl) (pe_lst (pa_cons (pv 5) (pa_cons pe_non pa_nil))) (pe_callTy call_int1 (by rfl) T.int (by decide +kernel) (pa_cons (pe_cmpR op_eq (pv 8) pe_int (nomark _)) pa_nil)) (fun _ _ => rfl)))
 (C8.pss_cut (ps_if (pt_not (pt_val (pe_callH H_law_alike hr (by rfl) (pa_cons (pe_callH H_law_asked hr (by rfl) (pa_cons (pv 1) (pa_cons (pv 8) (pa_cons (pv 9) (pa_cons (pv 10) (pa_cons pe_int pa_nil)))))) (pa_cons (pe_tup (pa_cons pe_str (pa_cons (pv 9) (pa_cons pe_bl (pa_cons pe_bl pa_nil))))) pa_nil))))) (pss_one (ps_ret pe_bl)) pss_nil)
 (pss_one (ps_if (PW.pt (pw_and (pt_cmpR (op_in_seqR (K := K) rfl) (pv 8) (pe_lst (pa_cons pe_int (pa_cons pe_int (pa_cons pe_int pa_nil)))) (by rfl)) (pw_and1 (pt_not (pt_val (pe_callH H_law_alike hr (by rfl) (pa_cons (pe_callH H_law_asked hr (by rfl) (pa_cons (pv 1) (pa_cons (pv 8) (pa_cons (pv 9) (pa_cons (pv 10) (pa_cons (pv 7) pa_nil)))))) (pa_cons (pe_tup (pa_cons pe_str (pa_cons (pv 7) (pa_cons pe_bl (pa_cons pe_bl pa_nil))))) pa_nil)))))))) (pss_one (ps_ret pe_bl)) pss_nil))))))
 (pss_cons (ps_set (i := 11) sc_law_refuses.nd rfl (.inl rfl) (pe_lst (pa_cons (pe_ix (ix_seqR (K := K) rfl) (pe_ix (ix_seqR (K := K) rfl) (pv 2) pe_int (fun _ _ => rfl)) pe_int (fun _ _ => rfl)) (pa_cons (pe_ix (ix_seqR (K := K) rfl) (pe_ix (ix_seqR (K := K) rfl) (pv 2) pe_int (fun _ _ => rfl)) (pe_op op_sub (pe_callB call_len_seq (by rfl) T.len (by decide +kernel) (pa_cons (pe_ix (ix_seqR (K := K) rfl) (pv 2) pe_int (fun _ _ => rfl)) pa_nil)) pe_int) (fun _ _ => rfl)) pa_nil))))
 (pss_cons (ps_set (i := 12) sc_law_refuses.nd rfl (.inl rfl) (pe_lst (pa_cons (pe_tup (pa_cons pe_str (pa_cons (pv 7) (pa_cons pe_bl (pa_cons pe_bl pa_nil))))) (pa_cons (pe_tup (pa_cons pe_str (pa_cons (pe_op op_pow pe_int pe_int) (pa_cons pe_bl (pa_cons pe_bl pa_nil))))) pa_nil))))
 (C8.pss_cut (ps_for PassesOwn.never rfl (pi_seq (pe_op op_cat (pe_lst (pa_cons (pv 6) pa_nil)) (pe_slice sl_list (pv 4) po_none (po_some pe_int)))) (pg_name (i := 9) sc_law_refuses.nd rfl (.inl rfl)) (pss_cons (ps_set (i := 13) sc_law_refuses.nd rfl (.inl rfl) (pe_lst (pa_cons (pe_callH H_law_asked hr (by rfl) (pa_cons (pv 1) (pa_cons pe_int (pa_cons (pv 9) (pa_cons (pv 7) (pa_cons (pe_op op_pow pe_int pe_int) pa_nil)))))) (pa_cons (pe_callH H_law_asked hr (by rfl) (pa_cons (pv 1) (pa_cons pe_int (pa_cons (pv 9) (pa_cons (pe_op op_pow pe_int pe_int) (pa_cons (pv 7) pa_nil)))))) pa_nil))))
 (pss_cons (ps_set (i := 13) sc_law_refuses.nd rfl (.inl rfl) (pe_op op_cat (pv 13) (pe_lst (pa_cons (pe_callH H_law_asked hr (by rfl) (pa_cons (pv 1) (pa_cons pe_int (pa_cons (pe_ix (ix_seqR (K := K) rfl) (pv 3) pe_int (fun _ _ => rfl)) (pa_cons (pv 7) (pa_cons (pe_op op_pow pe_int pe_int) pa_nil)))))) (pa_cons (pe_callH H_law_asked hr (by rfl) (pa_cons (pv 1) (pa_cons pe_int (pa_cons (pe_ix (ix_seqR (K := K) rfl) (pv 3) pe_int (fun _ _ => rfl)) (pa_cons (pe_op op_pow pe_int pe_int) (pa_cons (pv 7) pa_nil)))))) pa_nil)))))
 (pss_cons (ps_expr (pe_bm PySem.F.plainAttrs_list PySem.F.slot_list_append PySem.F.type_list_append mt_append (pv 13) (pa_cons (pe_callH H_law_asked hr (by rfl) (pa_cons (pv 1) (pa_cons pe_int (pa_cons (pv 9) (pa_cons (pe_ix (ix_seqR (K := K) rfl) (pv 11) pe_int (fun _ _ => rfl)) (pa_cons (pe_ix (ix_seqR (K := K) rfl) (pv 11) pe_int (fun _ _ => rfl)) pa_nil)))))) pa_nil)))
 (pss_one (ps_if (pt_not (pt_val (pe_callH H_law_alike hr (by rfl) (pa_cons (pv 13) (pa_cons (pe_op op_cat (pe_op op_cat (pv 12) (pv 12)) (pe_lst (pa_cons (pe_tup (pa_cons pe_str (pa_cons (pe_tup (pa_cons (pe_ix (ix_seqR (K := K) rfl) (pv 11) pe_int (fun _ _ => rfl)) (pa_cons (pe_ix (ix_seqR (K := K) rfl) (pv 11) pe_int (fun _ _ => rfl)) pa_nil))) (pa_cons pe_bl (pa_cons pe_bl pa_nil))))) pa_nil))) pa_nil))))) (pss_one (ps_ret pe_bl)) pss_nil))))))
 (C8.pss_cut (ps_for PassesOwn.never rfl (pi_seq (pe_ix (ix_seqR (K := K) rfl) (pv 2) pe_int (fun _ _ => rfl))) (pg_name (i := 14) sc_law_refuses.nd rfl (.inl rfl)) (pss_cons (ps_set (i := 15) sc_law_refuses.nd rfl (.inl rfl) (pe_callH H_law_pick hr (by rfl) (pa_cons (pv 0) (pa_cons (pe_op op_cat (pv 3) (pe_lst (pa_cons (pv 5) pa_nil))) pa_nil))))
 (pss_cons (ps_set (i := 16) sc_law_refuses.nd rfl (.inl rfl) pe_str)
 (C8.pss_cut (ps_if (pt_cmpR (op_notin_seqR (K := K) rfl) (pv 15) (pe_tup (pa_cons (pe_ix (ix_seqR (K := K) rfl) (pv 14) pe_int (fun _ _ => rfl)) (pa_cons (pe_ix (ix_seqR (K := K) rfl) (pv 14) pe_int (fun _ _ => rfl)) pa_nil))) (by rfl)) (pss_one (ps_set (i := 16) sc_law_refuses.nd rfl (.inl rfl) (pe_tup (pa_cons pe_str (pa_cons (pv 15) (pa_cons pe_bl (pa_cons pe_bl pa_nil))))))) pss_nil)
 (pss_one (ps_if (pt_not (pt_val (pe_callH H_law_alike hr (by rfl) (pa_cons (pe_callH H_law_asked hr (by rfl) (pa_cons (pv 1) (pa_cons pe_int (pa_cons (pe_ix (ix_seqR (K := K) rfl) (pv 14) pe_int (fun _ _ => rfl)) (pa_cons (pv 15) (pa_cons pe_int pa_nil)))))) (pa_cons (pv 16) pa_nil))))) (pss_one (ps_ret pe_bl)) pss_nil))))))
 (pss_one (ps_ret (pe_callH H_law_alike hr (by rfl) (pa_cons (pe_cmpR (op_inM HM_Web_contains hr pass0) (pv 5) (pv 1) (by rfl)) (pa_cons pe_bl pa_nil))))))))))))))), ?_⟩
    walk_at "rdF"
    refine ⟨v, L, _, rfl, hv.less fun _ _ => trivial, by omega, rt.dl, fun p1 H1 s1 n1 hp1 => ?_⟩
    walk_at "rdF"
    refine ⟨v, B, _, _, rfl, (hv.same s1).less fun _ _ => trivial, by omega, rt.db, fun p2 H2 s2 m2 hp2 => ?_⟩
    have g2 := Gd.same hS (s1.trans s2)
    have kp2 : RS S H2 (.ref p1) (.list ((lampNs (sortL L)).map PyData.str)) := .lst (hS.ne1 n1) (s2 _ _ hp1) .strs
    have kl2 : RS S H2 (.ref p2) (.list ((bondNs (srtBy BR.n B)).map PyData.str)) := .lst ((hS.same s1).ne1 m2) hp2 .strs
    walk_at "rdF"
    refine ⟨S, v, L, B, _, rfl, g2.ok, hv.ex g2.ex, rt, fun p3 U1 H3 g3 m3 a3 hp3 e3 l3 => ?_⟩
    refine lc_seq (U := fun _ => True) (fun ds => ds.filter (unlisted (lampNs (sortL L)))) (fun _ => True) (.inl (Rep.lst (ds := (U1).map PyData.str) trivial hp3 .strs)) rfl (fun _ _ => trivial) rfl (fun _ _ => trivial) ?_ ?_
    · rintro D j x e H' uD nD he hx hI
      have he' : ((U1).map PyData.str)[j]? = some e := he
      rw [List.getElem?_map] at he'
      cases qi : (U1)[j]? with
      | none => rw [qi] at he'; cases he'
      | some z =>
        rw [qi] at he'
        cases he'
        cases hx.strI
        refine ⟨by walk_at "wiped", ?_⟩
        walk_at "rdF"
        refine rd_ninRep (ns := lampNs (sortL L)) ((kp2.ex g3.ex).ex (hI.ex.less fun _ _ => trivial)) rfl rfl ?_
        refine ⟨_, rfl, ?_⟩
        refine if_ndec (fun hn => ?_) (fun hn => ?_)
        · walk_at "rdF"
          refine hI.put (e := .str z) .refl trivial nD (fun _ => trivial) (.str _) ?_ ?_
          · refine Nat.lt_of_le_of_lt (List.length_filter_le _ _) ?_
            rw [List.length_take]
            show min j ((U1).map PyData.str).length < _
            rw [List.length_map]; omega
          · rw [take_succ he, List.filter_append, List.filter_cons_of_pos (by simpa [unlisted] using hn)]; rfl
        · rw [take_succ he, List.filter_append, List.filter_cons_of_neg (by simpa [unlisted] using hn)]
          simpa using hI
    rintro p4 acc4 H4 e4' _ m4 hp4 hacc4 _
    rw [show (kids (PyData.list ((U1).map PyData.str))) = (U1).map PyData.str from rfl, unlisted_strs] at hacc4
    obtain rfl := hacc4.strsI
    have s4 := e4'.toSame
    have g4 := (g2.trans g3).trans (.same g3.ok s4)
    have em1 : (("" : Str)) ∈ U1.filter fun z => decide (z ∉ lampNs (sortL L)) := List.mem_filter.mpr ⟨e3, decide_eq_true fun hc => by
      obtain ⟨r, hr, e⟩ := List.mem_map.mp hc
      have := rt.nm r.1 (List.mem_append.mpr (.inl (List.mem_map_of_mem (srt_mem.mp hr))))
      rw [e, nm_empty] at this; cases this⟩
    have le1 := List.length_filter_le (fun z => decide (z ∉ lampNs (sortL L))) U1
    walk_at "rdF"
    refine ⟨S, _, rfl, g4.ok, .inl ⟨p4, _, rfl, ⟨g3.ok.ne1 m4, hp4⟩, by rw [List.length_map]; exact List.length_pos_of_mem em1, by rw [List.length_map]; omega, fun u H5 hu hS5 e5 => ?_⟩⟩
    obtain ⟨post, hpost, rfl⟩ := List.mem_map.mp hu
    have np : post ∉ lampNs (sortL L) := of_decide_eq_true (List.mem_filter.mp hpost).2
    have g5 := g4.trans (.of hS5 e5)
    walk_at "rdF"
    refine ⟨S, v, L, B, _, rfl, g5.ok, hv.ex g5.ex, rt, fun p6 U2 H6 g6 m6 a6 hp6 e6 l6 => ?_⟩
    have g26 := ((g3.trans (.same g3.ok s4)).trans (.of hS5 e5)).trans g6
    refine lc_seq (U := fun _ => True) (fun ds => ds.filter (unlisted (bondNs (srtBy BR.n B)))) (fun _ => True) (.inl (Rep.lst (ds := (U2).map PyData.str) trivial hp6 .strs)) rfl (fun _ _ => trivial) rfl (fun _ _ => trivial) ?_ ?_
    · rintro D j x e H' uD nD he hx hI
      have he' : ((U2).map PyData.str)[j]? = some e := he
      rw [List.getElem?_map] at he'
      cases qi : (U2)[j]? with
      | none => rw [qi] at he'; cases he'
      | some z =>
        rw [qi] at he'
        cases he'
        cases hx.strI
        refine ⟨by walk_at "wiped", ?_⟩
        walk_at "rdF"
        refine rd_ninRep (ns := bondNs (srtBy BR.n B)) ((kl2.ex g26.ex).ex (hI.ex.less fun _ _ => trivial)) rfl rfl ?_
        refine ⟨_, rfl, ?_⟩
        refine if_ndec (fun hn => ?_) (fun hn => ?_)
        · walk_at "rdF"
          refine hI.put (e := .str z) .refl trivial nD (fun _ => trivial) (.str _) ?_ ?_
          · refine Nat.lt_of_le_of_lt (List.length_filter_le _ _) ?_
            rw [List.length_take]
            show min j ((U2).map PyData.str).length < _
            rw [List.length_map]; omega
          · rw [take_succ he, List.filter_append, List.filter_cons_of_pos (by simpa [unlisted] using hn)]; rfl
        · rw [take_succ he, List.filter_append, List.filter_cons_of_neg (by simpa [unlisted] using hn)]
          simpa using hI
    rintro p7 acc7 H7 e7' _ m7 hp7 hacc7 _
    rw [show (kids (PyData.list ((U2).map PyData.str))) = (U2).map PyData.str from rfl, unlisted_strs] at hacc7
    obtain rfl := hacc7.strsI
    have s7 := e7'.toSame
    have g7 := (g5.trans g6).trans (.same g6.ok s7)
    have em2 : (("" : Str)) ∈ U2.filter fun z => decide (z ∉ bondNs (srtBy BR.n B)) := List.mem_filter.mpr ⟨e6, decide_eq_true fun hc => by
      obtain ⟨r, hr, e⟩ := List.mem_map.mp hc
      have := rt.nm r.n (List.mem_append.mpr (.inr (List.mem_map_of_mem (srt_mem.mp hr))))
      rw [e, nm_empty] at this; cases this⟩
    have le2 := List.length_filter_le (fun z => decide (z ∉ bondNs (srtBy BR.n B))) U2
    walk_at "rdF"
    refine ⟨S, _, rfl, g7.ok, .inl ⟨p7, _, rfl, ⟨g6.ok.ne1 m7, hp7⟩, by rw [List.length_map]; exact List.length_pos_of_mem em2, by rw [List.length_map]; omega, fun u H8 hu hS8 e8 => ?_⟩⟩
    obtain ⟨label, hlabel, rfl⟩ := List.mem_map.mp hu
    have nl : label ∉ bondNs (srtBy BR.n B) := of_decide_eq_true (List.mem_filter.mp hlabel).2
    have g8 := g7.trans (.of hS8 e8)
    walk_at "rdF"
    refine ⟨sz (by simp), fun p9 m9 => ?_⟩
    have s9 := same_new (o := .lst [V.int (1000000000000 + 1), V.int (-1000000000000 - 1), V.int 1000000000000000000000000000000, V.bl true, V.bl false]) m9
    have hp9 := @upd_same H8 p9 (.lst [V.int (1000000000000 + 1), V.int (-1000000000000 - 1), V.int 1000000000000000000000000000000, V.bl true, V.bl false])
    have a9 := g8.ok.ne1 m9
    generalize upd H8 p9 (.lst [V.int (1000000000000 + 1), V.int (-1000000000000 - 1), V.int 1000000000000000000000000000000, V.bl true, V.bl false]) = H9 at *
    have g9 := g8.trans (.same g8.ok s9)
    walk_at "rdF"
    refine ⟨S, _, rfl, g9.ok, .inl ⟨p9, _, rfl, ⟨a9, hp9⟩, by simp, by simp, fun od H10 hod hS10 e10 => ?_⟩⟩
    have g10 := g9.trans (.of hS10 e10)
    have ho : Sc od ∧ isOpen od = false ∧ isNum od = false := by
      simp only [List.mem_cons, List.not_mem_nil, or_false] at hod
      rcases hod with rfl | rfl | rfl | rfl | rfl <;> exact ⟨trivial, by decide +kernel, by decide +kernel⟩
    obtain ⟨so, oo, no⟩ := ho
    have hw10 := hw.ex g10.ex
    have hv10 := hv.ex g10.ex
    have g2' : Ex (US S) H2 H10 := (((((g26.trans (.same g6.ok s7)).trans (.of hS8 e8)).trans (.same g8.ok s9)).trans (.of hS10 e10))).ex
    have kp := kp2.ex g2'
    have kl := kl2.ex g2'
    have nls : label ∉ bondNs (sortB B) := fun hc => nl (by
      have h1 := ((srt_perm (B.map keptBR)).map BR.n).mem_iff.mp hc
      rw [List.map_map] at h1
      exact ((srt_perm B).map BR.n).mem_iff.mpr h1)
    have uS : ∀ {H' : Hp}, StoreOk S H' → ∀ p, H' p = none → US S p := fun s p n => s.ne1 n
    have hunk : ∀ z, unkD z = .tuple [.str "Unknown", .str z, .bool true, .bool false] := fun _ => rfl
    have okU : ∀ z, Okd 3 (unkD z) := fun z => ⟨by simp, fun e he => by
      simp only [List.mem_cons, List.not_mem_nil, or_false] at he
      rcases he with rfl | rfl | rfl | rfl <;> first | exact okd_str | exact okd_bool⟩
    have okN : ∀ v, Okd 3 (numD v) := fun z => ⟨by simp, fun e he => by
      simp only [List.mem_cons, List.not_mem_nil, or_false] at he
      rcases he with rfl | rfl | rfl | rfl <;> first | exact okd_str | exact okd_bool | exact okd_sc⟩
    walk_at "rdF"
    refine rd_cut (fun σ' H' => ∃ y8 y9 y10, σ' = [some (.ref S.1), some (.ref a), some v, some (.ref p1), some (.ref p2), some (.str post), some (.str label), some od, y8, y9, y10, none, none, none, none, none, none] ∧ Same H10 H') ?_ ?_
    · walk_at "rdF"
      refine ⟨by omega, by omega, for_rng (fun i σ' H' => ∃ y8 y9 y10, σ' = [some (.ref S.1), some (.ref a), some v, some (.ref p1), some (.ref p2), some (.str post), some (.str label), some od, y8, y9, y10, none, none, none, none, none, none] ∧ Same H10 H') ⟨_, _, _, rfl, Same.refl _⟩ ?_ ?_⟩
      · rintro i σ' H' hi ⟨y8, y9, y10, rfl, sm⟩
        have hi9 : i < 9 := by simpa using hi
        walk_at "rdF"
        refine rd_cut (fun σ'' H'' => ∃ z : Str, z = (if 2 < i then label else post) ∧ σ'' = [some (.ref S.1), some (.ref a), some v, some (.ref p1), some (.ref p2), some (.str post), some (.str label), some od, some (.int i), some (.str z), y10, none, none, none, none, none, none] ∧ Same H10 H'') ?_ ?_
        · walk_at "rdF"
          refine ⟨sz (by simp), fun q nq => ?_⟩
          walk_at "rdF"
          refine .inr ⟨_, rfl, ?_⟩
          by_cases c : 2 < i
          · rw [show (if decide ((2 : Int) < (i : Int)) = true then (1 : Int) else 0) = ((1 : Nat) : Int) from if_pos (decide_eq_true (by omega))]
            refine rd_ixQL upd_same (atI_nat (i := 1) rfl) ?_
            exact ⟨label, by rw [if_pos c], rfl, sm.trans (same_new nq)⟩
          · rw [show (if decide ((2 : Int) < (i : Int)) = true then (1 : Int) else 0) = ((0 : Nat) : Int) from if_neg (fun h => c (by have := of_decide_eq_true h; omega))]
            refine rd_ixQL upd_same (atI_nat (i := 0) rfl) ?_
            exact ⟨post, by rw [if_neg c], rfl, sm.trans (same_new nq)⟩
        · rintro σ'' H12 ⟨z, hz, rfl, s12⟩
          refine rd_cut (fun σ'' H'' => ∃ t : V, t = (if i = 6 then V.non else .str post) ∧ σ'' = [some (.ref S.1), some (.ref a), some v, some (.ref p1), some (.ref p2), some (.str post), some (.str label), some od, some (.int i), some (.str z), some t, none, none, none, none, none, none] ∧ Same H10 H'') ?_ ?_
          · walk_at "rdF"
            refine ⟨sz (by simp), fun q nq => ?_⟩
            walk_at "rdF"
            refine .inr ⟨_, rfl, ?_⟩
            by_cases c : i = 6
            · rw [show (if decide ((i : Int) = 6) = true then (1 : Int) else 0) = ((1 : Nat) : Int) from if_pos (decide_eq_true (by omega))]
              refine rd_ixQL upd_same (atI_nat (i := 1) rfl) ?_
              exact ⟨.non, by rw [if_pos c], rfl, s12.trans (same_new nq)⟩
            · rw [show (if decide ((i : Int) = 6) = true then (1 : Int) else 0) = ((0 : Nat) : Int) from if_neg (fun h => c (by have := of_decide_eq_true h; omega))]
              refine rd_ixQL upd_same (atI_nat (i := 0) rfl) ?_
              exact ⟨.str post, by rw [if_neg c], rfl, s12.trans (same_new nq)⟩
          · rintro σ'' H13 ⟨t, ht, rfl, s13⟩
            have nine : i = 0 ∨ i = 1 ∨ i = 2 ∨ i = 3 ∨ i = 4 ∨ i = 5 ∨ i = 6 ∨ i = 7 ∨ i = 8 := by omega
            have askU : AskR (sortL L) (sortB B) (i : Int) (.str z) t (.int 0) (unkD z) := by
              rw [hz, ht]
              rcases nine with rfl | rfl | rfl | rfl | rfl | rfl | rfl | rfl | rfl
              · exact .c0 np
              · exact .c1 np
              · exact .c2 (by decide +kernel) np
              · exact .c3 nls
              · exact .c4 nls
              · exact .c5 (by decide +kernel) nls
              · exact .c6 rfl (by decide +kernel) rfl nls
              · exact .c7 nls
              · exact .c8 nls
            refine rd_cut (fun σ'' H'' => σ'' = [some (.ref S.1), some (.ref a), some v, some (.ref p1), some (.ref p2), some (.str post), some (.str label), some od, some (.int i), some (.str z), some t, none, none, none, none, none, none] ∧ Same H10 H'') ?_ ?_
            · walk_at "rdF"
              refine ⟨a, _, _, _, i, .str z, t, .int 0, _, rfl, hw10.same s13, askU, fun u H14 s14 ku => ?_⟩
              walk_at "rdF"
              refine ⟨sz (by simp), fun q nq => ?_⟩
              have sq := same_new (o := .tup [V.str "Unknown", .str z, .bl true, .bl false]) nq
              have kq : R (upd H14 q (.tup [V.str "Unknown", .str z, .bl true, .bl false])) (.ref q) (unkD z) := .tup trivial upd_same (.cons (.str _) (.cons (.str _) (.cons (.bl _) (.cons (.bl _) .nil))))
              walk_at "rdF"
              refine ⟨_, _, _, rfl, ku.same sq, kq, okU z, fun H15 s15 => ?_⟩
              walk_at "rdF"
              exact ⟨rfl, ((s13.trans s14).trans sq).trans s15⟩
            · rintro σ'' H16 ⟨rfl, s16⟩
              walk_at "rdF"
              refine ⟨sz (by simp), fun q nq => ?_⟩
              have sq := s16.trans (same_new (o := .lst [V.int 2, .int 5, .int 6]) nq)
              walk_at "rdF"
              refine ⟨q, _, rfl, .inl (sl_of upd_same), rfl, rfl, ?_⟩
              refine ⟨_, rfl, ?_⟩
              have e256 : (if false = true then !inV (.int i) [V.int 2, .int 5, .int 6] else inV (.int i) [V.int 2, .int 5, .int 6]) = decide (i = 2 ∨ i = 5 ∨ i = 6) := by
                rcases nine with rfl | rfl | rfl | rfl | rfl | rfl | rfl | rfl | rfl <;> rfl
              rw [e256]
              refine if_dec (fun hk => ?_) (fun hk => ?_)
              · have askN : AskR (sortL L) (sortB B) (i : Int) (.str z) t od (numD od) := by
                  rw [hz, ht]
                  rcases hk with rfl | rfl | rfl
                  · exact .c2n so oo
                  · exact .c5n so no
                  · exact .c6b so rfl oo
                walk_at "rdF"
                refine ⟨a, _, _, _, i, .str z, t, od, _, rfl, hw10.same sq, askN, fun u H14 s14 ku => ?_⟩
                walk_at "rdF"
                refine ⟨sz (by simp), fun q2 nq2 => ?_⟩
                have sq2 := same_new (o := .tup [V.str "BadNumber", od, .bl true, .bl false]) nq2
                have kq : R (upd H14 q2 (.tup [V.str "BadNumber", od, .bl true, .bl false])) (.ref q2) (numD od) := .tup trivial upd_same (.cons (.str _) (.cons (.sc so) (.cons (.bl _) (.cons (.bl _) .nil))))
                walk_at "rdF"
                refine ⟨_, _, _, rfl, ku.same sq2, kq, okN od, fun H15 s15 => ?_⟩
                walk_at "rdF"
                exact ⟨_, _, _, rfl, ((sq.trans s14).trans sq2).trans s15⟩
              · walk_at "rdF"
                exact ⟨_, _, _, rfl, sq⟩
      · rintro σ' H' ⟨y8, y9, y10, rfl, sm⟩
        exact ⟨_, _, _, rfl, sm⟩
    · rintro σ11 H11 ⟨y8, y9, y10, rfl, s11⟩
      have okS : ∀ l h, Okd 3 (spnD l h) := fun l h => ⟨by simp, fun e he => by
        simp only [List.mem_cons, List.not_mem_nil, or_false] at he
        rcases he with rfl | rfl | rfl | rfl
        · exact okd_str
        · exact ⟨by simp, fun e he => by
            simp only [List.mem_cons, List.not_mem_nil, or_false] at he
            rcases he with rfl | rfl <;> exact okd_sc⟩
        · exact okd_bool
        · exact okd_bool⟩
      obtain ⟨x0, hx0⟩ : ∃ x0, ns[0]? = some x0 := ⟨_, List.getElem?_eq_getElem (by omega)⟩
      obtain ⟨xl, hxl⟩ : ∃ xl, ns[ns.length - 1]? = some xl := ⟨_, List.getElem?_eq_getElem (by omega)⟩
      have hlt : x0 < xl := by
        obtain ⟨h0, e0⟩ := List.getElem?_eq_some_iff.mp hx0
        obtain ⟨h1, e1⟩ := List.getElem?_eq_some_iff.mp hxl
        rw [← e0, ← e1]
        exact List.pairwise_iff_getElem.mp pw 0 (ns.length - 1) h0 h1 (by omega)
      have i0 := hns x0 (List.mem_of_getElem? hx0)
      have il := hns xl (List.mem_of_getElem? hxl)
      have hvT : R H11 v (planD L B [.list (ns.map PyData.int)]) := (hv10.same s11).less fun _ _ => trivial
      walk_at "rdF"
      refine hvT.ixL (i := 2) rfl fun qv hqv => ?_
      walk_at "rdF"
      refine hqv.ixL (i := 0) (by rw [List.getElem?_map, hx0]; rfl) fun u hu => ?_
      cases hu.intI
      walk_at "rdF"
      refine hvT.ixL (i := 2) rfl fun qv2 hqv2 => ?_
      walk_at "rdF"
      refine hvT.ixL (i := 2) rfl fun qv3 hqv3 => ?_
      walk_at "rdF"
      refine rep_len hqv3 rfl fun xs rx => ?_
      have lx : xs.length = ns.length := by rw [rx.len]; exact List.length_map ..
      rw [lx]
      walk_at "rdF"
      refine rep_ix hqv2 rfl (by omega) (by
        show (ns.map PyData.int)[((ns.length : Int) - 1).toNat]? = some (.int xl)
        rw [show ((ns.length : Int) - 1).toNat = ns.length - 1 by omega, List.getElem?_map, hxl]; rfl) fun u hu => ?_
      cases hu.intI
      walk_at "rdF"
      refine ⟨sz (by simp), fun q1 nq1 => ?_⟩
      obtain ⟨t1, kt⟩ := new_lst (U := fun _ => True) (vs := [V.int x0, .int xl]) (ds := [.int x0, .int xl]) nq1 trivial (.cons (.int _) (.cons (.int _) .nil))
      generalize upd H11 q1 (.lst [V.int x0, .int xl]) = H12 at *
      walk_at "rdF"
      refine ⟨sz (by simp), fun q2 nq2 => ?_⟩
      obtain ⟨t2, k2⟩ := new_tup (U := fun _ => True) (vs := [V.str "BadNumber", od, .bl true, .bl false]) (ds := [.str "BadNumber", vD od, .bool true, .bool false]) nq2 trivial (.cons (.str _) (.cons (.sc so) (.cons (.bl _) (.cons (.bl _) .nil))))
      generalize upd H12 q2 (.tup [V.str "BadNumber", od, .bl true, .bl false]) = H13 at *
      walk_at "rdF"
      refine ⟨sz (by simp), fun q3 nq3 => ?_⟩
      obtain ⟨t3, k3⟩ := new_tup (U := fun _ => True) (vs := [V.str "BadNumber", .int 10000000000000, .bl true, .bl false]) (ds := [.str "BadNumber", .int 10000000000000, .bool true, .bool false]) nq3 trivial (.cons (.str _) (.cons (.int _) (.cons (.bl _) (.cons (.bl _) .nil))))
      generalize upd H13 q3 (.tup [V.str "BadNumber", .int 10000000000000, .bl true, .bl false]) = H14 at *
      walk_at "rdF"
      refine ⟨sz (by simp), fun q4 nq4 => ?_⟩
      obtain ⟨t4, k4⟩ := new_lst (U := fun _ => True) (vs := [.ref q2, .ref q3]) (ds := [numD od, numD (.int 10000000000000)]) nq4 trivial (.cons (k2.same t3) (.cons k3 .nil))
      generalize upd H14 q4 (.lst [.ref q2, .ref q3]) = H15 at *
      have s15 := (((s11.trans t1).trans t2).trans t3).trans t4
      have kt15 := kt.same ((t2.trans t3).trans t4)
      walk_at "rdF"
      refine rd_cut (fun σ' H' => ∃ y8 y9 y10 y13, σ' = [some (.ref S.1), some (.ref a), some v, some (.ref p1), some (.ref p2), some (.str post), some (.str label), some od, y8, y9, y10, some (.ref q1), some (.ref q4), y13, none, none, none] ∧ Same H10 H') ?_ ?_
      · walk_at "rdF"
        refine ⟨sz (by simp), fun q5 nq5 => ?_⟩
        obtain ⟨t5, k5⟩ := new_lst (U := fun _ => True) (vs := [V.str label]) (ds := [.str label]) nq5 trivial (.cons (.str _) .nil)
        generalize upd H15 q5 (.lst [V.str label]) = H16 at *
        have klT : R H16 (.ref p2) (.list ((bondNs (srtBy BR.n B)).map PyData.str)) := (kl.same (s15.trans t5)).less fun _ _ => trivial
        walk_at "rdF"
        refine rd_take (k := 1) klT (fun _ _ => trivial) fun q6 H17 t6 nq6 k6 => ?_
        refine rd_cat (k5.same t6) k6 (by simp; omega) (fun _ _ => trivial) fun q7 H18 t7 nq7 k7 => ?_
        have s18 := ((s15.trans t5).trans t6).trans t7
        have kp18 : R H18 (.ref p1) (.list ((lampNs (sortL L)).map PyData.str)) := (kp.same s18).less fun _ _ => trivial
        have kt18 := kt15.same ((t5.trans t6).trans t7)
        have ko18 := k4.same ((t5.trans t6).trans t7)
        refine for_seqR (U := fun _ => True) (.inl k7) rfl (fun i σ' H' => ∃ y8 y9 y10 y13, σ' = [some (.ref S.1), some (.ref a), some v, some (.ref p1), some (.ref p2), some (.str post), some (.str label), some od, y8, y9, y10, some (.ref q1), some (.ref q4), y13, none, none, none] ∧ Same H18 H') ⟨_, _, _, _, rfl, Same.refl _⟩ (fun i σ' H' hh => ?_) ?_ ?_
        · obtain ⟨_, _, _, _, _, sm⟩ := hh
          exact .same sm
        · rintro i x e σ' H' he hx ⟨y8, y9, y10, y13, rfl, sm⟩
          obtain ⟨z, rfl⟩ : ∃ z, e = .str z := by
            have hm := List.mem_of_getElem? he
            rcases List.mem_append.mp hm with h | h
            · exact ⟨label, List.mem_singleton.mp h⟩
            · obtain ⟨z, _, rfl⟩ := List.mem_map.mp (List.mem_of_mem_take h)
              exact ⟨z, rfl⟩
          cases hx.strI
          have sA := s18.trans sm
          have cb : isOpen (.int 10000000000000) = false := by decide +kernel
          walk_at "rdF"
          refine ⟨a, _, _, _, 6, .str z, od, .int 10000000000000, _, rfl, hw10.same sA, .c6a so trivial oo, fun u1 H19 s19 ku1 => ?_⟩
          walk_at "rdF"
          refine ⟨a, _, _, _, 6, .str z, .int 10000000000000, od, _, rfl, hw10.same (sA.trans s19), .c6a trivial so cb, fun u2 H20 s20 ku2 => ?_⟩
          walk_at "rdF"
          refine ⟨sz (by simp), fun q8 nq8 => ?_⟩
          have t8 := same_new (o := .lst [u1, u2]) nq8
          have hq8 := @upd_same H20 q8 (.lst [u1, u2])
          generalize upd H20 q8 (.lst [u1, u2]) = H21 at *
          have sC := ((sA.trans s19).trans s20).trans t8
          have s18C := ((sm.trans s19).trans s20).trans t8
          obtain ⟨y0, hy0⟩ : ∃ y0, (lampNs (sortL L))[0]? = some y0 := ⟨_, List.getElem?_eq_getElem (by rw [List.length_map, srt_len]; omega)⟩
          have rsort := hw10.ok.rt
          obtain ⟨w1, w2⟩ := wrong9 (z := y0) (t := od) (v := .int 10000000000000) rsort oo
          obtain ⟨w3, w4⟩ := wrong9 (z := y0) (t := .int 10000000000000) (v := od) rsort cb
          walk_at "rdF"
          refine (kp18.same s18C).ixL (i := 0) (by rw [List.getElem?_map, hy0]; rfl) fun u hu => ?_
          cases hu.strI
          walk_at "rdF"
          refine ⟨a, _, _, _, 9, .str y0, od, .int 10000000000000, _, rfl, hw10.same sC, .c9 so trivial so w1 w2, fun u3 H22 s22 ku3 => ?_⟩
          walk_at "rdF"
          refine ((kp18.same s18C).same s22).ixL (i := 0) (by rw [List.getElem?_map, hy0]; rfl) fun u hu => ?_
          cases hu.strI
          walk_at "rdF"
          refine ⟨a, _, _, _, 9, .str y0, .int 10000000000000, od, _, rfl, hw10.same (sC.trans s22), .c9 (u := .int 10000000000000) trivial so trivial w3 w4, fun u4 H23 s23 ku4 => ?_⟩
          walk_at "rdF"
          refine ⟨sz (by simp), fun q9 nq9 => ?_⟩
          have t9 := same_new (o := .lst [u3, u4]) nq9
          have hq9 := @upd_same H23 q9 (.lst [u3, u4])
          generalize upd H23 q9 (.lst [u3, u4]) = H24 at *
          have s8E := (s22.trans s23).trans t9
          refine ⟨q8, q9, _, _, rfl, rfl, s8E _ _ hq8, hq9, sz (by simp), fun q10 nq10 => ?_⟩
          have off : ∀ {d : PyData} {u : V}, R H24 u d → Rep (fun q => q ≠ q10) (upd H24 q10 (.lst ([u1, u2] ++ [u3, u4]))) u d := fun k => k.to fun p o _ e => ⟨ne_of_none e nq10, (same_new nq10) p o e⟩
          have f1 := off (ku1.same ((s20.trans t8).trans s8E))
          have f2 := off (ku2.same (t8.trans s8E))
          have f3 := off (ku3.same (s23.trans t9))
          have f4 := off (ku4.same t9)
          have t10 := same_new (o := .lst ([u1, u2] ++ [u3, u4])) nq10
          have hq10 := @upd_same H24 q10 (.lst ([u1, u2] ++ [u3, u4]))
          have s18E := s18C.trans s8E
          have n18 : H18 q10 = none := none_back s18E nq10
          generalize upd H24 q10 (.lst ([u1, u2] ++ [u3, u4])) = H25 at *
          have sE := (sC.trans s8E).trans t10
          have s18F := s18E.trans t10
          walk_at "rdF"
          refine ⟨.inl ⟨rfl, _, sl_of hq10⟩, ?_⟩
          walk_at "rdF"
          refine (kt18.same s18F).ixL (i := 1) rfl fun u hu => ?_
          cases hu.intI
          walk_at "rdF"
          refine (kt18.same s18F).ixL (i := 0) rfl fun u hu => ?_
          cases hu.intI
          walk_at "rdF"
          refine ⟨a, _, _, _, 6, .str z, .int xl, .int x0, _, rfl, hw10.same sE, .c6c (decide_eq_true il) (decide_eq_true i0) (decide_eq_true hlt), fun u5 H26 s26 ku5 => ?_⟩
          have hq26 := s26 _ _ hq10
          have off5 : Rep (fun q => q ≠ q10) H26 u5 (spnD (.int xl) (.int x0)) := by
            obtain ⟨p5, xs5, rfl, _, hp5, r5⟩ := ku5.tupI
            cases r5 with
            | cons a1 r5 => cases r5 with
              | cons a2 r5 => cases r5 with
                | cons a3 r5 => cases r5 with
                  | cons a4 r5 =>
                    cases r5
                    obtain ⟨p6, xs6, rfl, _, hp6, r6⟩ := a2.tupI
                    obtain rfl := RepL.intsI (ns := [xl, x0]) r6
                    cases a1.strI
                    cases a3.blI
                    cases a4.blI
                    exact .tup (fun c => by rw [c, hq26] at hp5; cases hp5) hp5 (.cons (.str _) (.cons (.tup (fun c => by rw [c, hq26] at hp6; cases hp6) hp6 (RepL.ints (ns := [xl, x0]))) (.cons (.bl _) (.cons (.bl _) .nil))))
          walk_at "rdF"
          refine ⟨q10, _, _, rfl, rfl, hq26, (by show 4 < sizeLine; decide), ?_⟩
          have toq : ∀ {d : PyData} {u : V}, Rep (fun q => q ≠ q10) H26 u d → R (upd H26 q10 (.lst (([u1, u2] ++ [u3, u4]) ++ [u5]))) u d := fun k => k.to fun p o u e => ⟨trivial, by rw [upd_ne u]; exact e⟩
          have kT : R (upd H26 q10 (.lst (([u1, u2] ++ [u3, u4]) ++ [u5]))) (.ref q10) (.list [numD od, numD (.int 10000000000000), numD od, numD (.int 10000000000000), spnD (.int xl) (.int x0)]) := .lst trivial upd_same (.cons (toq (f1.same s26)) (.cons (toq (f2.same s26)) (.cons (toq (f3.same s26)) (.cons (toq (f4.same s26)) (.cons (toq off5) .nil)))))
          have s18G : Same H18 (upd H26 q10 (.lst (([u1, u2] ++ [u3, u4]) ++ [u5]))) := same_mut (s18F.trans s26) n18
          generalize upd H26 q10 (.lst (([u1, u2] ++ [u3, u4]) ++ [u5])) = H27 at *
          have kt27 := kt18.same s18G
          walk_at "rdF"
          refine rd_cat (ko18.same s18G) (ko18.same s18G) (by simp) (fun _ _ => trivial) fun q11 H28 t11 nq11 k11 => ?_
          walk_at "rdF"
          refine (kt27.same t11).ixL (i := 1) rfl fun u hu => ?_
          cases hu.intI
          walk_at "rdF"
          refine (kt27.same t11).ixL (i := 0) rfl fun u hu => ?_
          cases hu.intI
          walk_at "rdF"
          refine ⟨sz (by simp), fun q12 nq12 => ?_⟩
          obtain ⟨t12, k12⟩ := new_tup (U := fun _ => True) (vs := [V.int xl, .int x0]) (ds := [.int xl, .int x0]) nq12 trivial (.cons (.int _) (.cons (.int _) .nil))
          generalize upd H28 q12 (.tup [V.int xl, .int x0]) = H29 at *
          walk_at "rdF"
          refine ⟨sz (by simp), fun q13 nq13 => ?_⟩
          obtain ⟨t13, k13⟩ := new_tup (U := fun _ => True) (vs := [V.str "BadSpan", .ref q12, .bl true, .bl false]) (ds := [.str "BadSpan", .tuple [.int xl, .int x0], .bool true, .bool false]) nq13 trivial (.cons (.str _) (.cons k12 (.cons (.bl _) (.cons (.bl _) .nil))))
          generalize upd H29 q13 (.tup [V.str "BadSpan", .ref q12, .bl true, .bl false]) = H30 at *
          walk_at "rdF"
          refine ⟨sz (by simp), fun q14 nq14 => ?_⟩
          obtain ⟨t14, k14⟩ := new_lst (U := fun _ => True) (vs := [.ref q13]) (ds := [spnD (.int xl) (.int x0)]) nq14 trivial (.cons k13 .nil)
          generalize upd H30 q14 (.lst [.ref q13]) = H31 at *
          have t1114 := (t12.trans t13).trans t14
          refine rd_cat (k11.same t1114) k14 (by simp) (fun _ _ => trivial) fun q15 H32 t15 nq15 k15 => ?_
          walk_at "rdF"
          refine ⟨_, _, _, rfl, kT.same ((t11.trans t1114).trans t15), k15, ⟨by simp, fun e he => ?_⟩, fun H33 t33 => ?_⟩
          · simp only [List.mem_append, List.mem_cons, List.not_mem_nil, or_false, List.cons_append, List.nil_append] at he
            have o2 : ∀ v, Okd 2 (numD v) := fun z => ⟨by simp, fun e he => by
              simp only [List.mem_cons, List.not_mem_nil, or_false] at he
              rcases he with rfl | rfl | rfl | rfl <;> first | exact okd_str | exact okd_bool | exact okd_sc⟩
            have o3 : ∀ l h, Okd 2 (spnD l h) := fun l h => ⟨by simp, fun e he => by
              simp only [List.mem_cons, List.not_mem_nil, or_false] at he
              rcases he with rfl | rfl | rfl | rfl
              · exact okd_str
              · exact ⟨by simp, fun e he => by
                  simp only [List.mem_cons, List.not_mem_nil, or_false] at he
                  rcases he with rfl | rfl <;> exact okd_sc⟩
              · exact okd_bool
              · exact okd_bool⟩
            rcases he with rfl | rfl | rfl | rfl | rfl <;> first | exact o2 _ | exact o3 _ _
          · walk_at "rdF"
            exact ⟨_, _, _, _, rfl, (((s18G.trans t11).trans t1114).trans t15).trans t33⟩
        · rintro σ' H' ⟨y8, y9, y10, y13, rfl, sm⟩
          exact ⟨_, _, _, _, rfl, s18.trans sm⟩
      · rintro σ19 H19 ⟨y8, y9, y10, y13, rfl, s19⟩
        have g19 := g10.trans (.same g10.ok s19)
        have hv19 := hv10.same s19
        have hw19 := hw10.same s19
        have kp19 := kp.same s19
        walk_at "rdF"
        refine rd_cut (fun σ' H' => ∃ y8 y9 y10 y13 y14 y15 y16, σ' = [some (.ref S.1), some (.ref a), some v, some (.ref p1), some (.ref p2), some (.str post), some (.str label), some od, y8, y9, y10, some (.ref q1), some (.ref q4), y13, y14, y15, y16] ∧ Gd S H19 H') ?_ ?_
        · walk_at "rdF"
          refine hv19.ixL (i := 1) rfl fun ev hev => ?_
          refine for_seqR (U := US S) (.inl hev) rfl (fun i σ' H' => ∃ y8 y9 y10 y13 y14 y15 y16, σ' = [some (.ref S.1), some (.ref a), some v, some (.ref p1), some (.ref p2), some (.str post), some (.str label), some od, y8, y9, y10, some (.ref q1), some (.ref q4), y13, y14, y15, y16] ∧ Gd S H19 H') ⟨_, _, _, _, _, _, _, rfl, .refl g19.ok⟩ (fun i σ' H' hh => ?_) ?_ ?_
          · obtain ⟨_, _, _, _, _, _, _, _, gm⟩ := hh
            exact gm.ex
          · rintro i x e σ' H' he hx ⟨y8, y9, y10, y13, y14, y15, y16, rfl, gm⟩
            have he : (B.map BR.d)[i]? = some e := he
            rw [List.getElem?_map] at he
            cases qi : B[i]? with
            | none => rw [qi] at he; cases he
            | some r =>
              rw [qi] at he
              cases he
              have hrm := List.mem_of_getElem? qi
              have hkm : keptBR r ∈ sortB B := srt_mem.mpr (List.mem_map_of_mem hrm)
              have kpm := kp19.ex gm.ex
              walk_at "rdF"
              refine ⟨sz (by simp), fun q5 nq5 => ?_⟩
              obtain ⟨t5, k5⟩ := new_lst (U := US S) (vs := [V.str post]) (ds := [.str post]) nq5 (gm.ok.ne1 nq5) (.cons (.str _) .nil)
              generalize upd H' q5 (.lst [V.str post]) = H20 at *
              have ok20 := gm.ok.same t5
              refine rd_cat (kpm.same t5) k5 (by simp only [List.length_map, srt_len]; simp; omega) (uS ok20) fun q6 H21 t6 nq6 k6 => ?_
              have ok21 := ok20.same t6
              rw [show [PyData.str post] = [post].map PyData.str from rfl, ← List.map_append] at k6
              obtain ⟨q6', xs6, eq6, q6S, hq6, r6⟩ := k6.lstI
              cases eq6
              obtain rfl := r6.strsI
              walk_at "rdF"
              refine ⟨S, _, rfl, ok21, .inl ⟨q6, _, rfl, ⟨q6S, hq6⟩, by simp, by simp only [List.length_map, List.length_append, srt_len]; simp; omega, fun u H22 hu hS22 e22 => ?_⟩⟩
              obtain ⟨y, _, rfl⟩ := List.mem_map.mp hu
              have g22 : Gd S H19 H22 := (gm.trans (.same gm.ok (t5.trans t6))).trans (.of hS22 e22)
              have hx22 : RS S H22 x r.d := hx.ex ((Gd.same gm.ok (t5.trans t6)).trans (.of hS22 e22)).ex
              have hw22 := hw19.ex g22.ex
              walk_at "rdF"
              refine rd_cut (fun σ'' H'' => ∃ (du : V) (d : PyData), σ'' = [some (.ref S.1), some (.ref a), some v, some (.ref p1), some (.ref p2), some (.str post), some (.str label), some od, y8, y9, y10, some (.ref q1), some (.ref q4), y13, some x, some (.str y), some du] ∧ R H'' du d ∧ Okd 3 d ∧ AskR (sortL L) (sortB B) 8 (.str r.n) (.str y) (.int 0) d ∧ Same H22 H'') ?_ ?_
              · walk_at "rdF"
                refine rep_ix hx22 rfl (by decide) rfl fun u hu => ?_
                cases hu.strI
                walk_at "rdF"
                refine rep_ix hx22 rfl (by decide) rfl fun u hu => ?_
                cases hu.strI
                walk_at "rdF"
                refine ⟨sz (by simp), fun q7 nq7 => ?_⟩
                obtain ⟨t7, k7⟩ := new_tup (U := fun _ => True) (vs := [V.str r.x, .str r.y]) (ds := [.str r.x, .str r.y]) nq7 trivial (.cons (.str _) (.cons (.str _) .nil))
                generalize upd H22 q7 (.tup [V.str r.x, .str r.y]) = H23 at *
                refine rd_ninRep (ns := [r.x, r.y]) k7 rfl rfl ?_
                refine ⟨_, rfl, ?_⟩
                refine if_ndec (fun hn => ?_) (fun hn => ?_)
                · walk_at "rdF"
                  refine ⟨sz (by simp), fun q8 nq8 => ?_⟩
                  have t8 := same_new (o := .tup [V.str "Unknown", .str y, .bl true, .bl false]) nq8
                  have k8 : R (upd H23 q8 (.tup [V.str "Unknown", .str y, .bl true, .bl false])) (.ref q8) (unkD y) := .tup trivial upd_same (.cons (.str _) (.cons (.str _) (.cons (.bl _) (.cons (.bl _) .nil))))
                  walk_at "rdF"
                  have nx : y ≠ r.x := fun c => hn (by rw [c]; simp)
                  have ny : y ≠ r.y := fun c => hn (by rw [c]; simp)
                  refine ⟨_, _, rfl, k8, okU y, .c8x (r := keptBR r) hkm rfl ?_ ?_, t7.trans t8⟩
                  · rcases minmax r.x r.y with ⟨e1, _⟩ | ⟨e1, _⟩ <;> simp only [keptBR, e1] <;> assumption
                  · rcases minmax r.x r.y with ⟨_, e1⟩ | ⟨_, e1⟩ <;> simp only [keptBR, e1] <;> assumption
                · walk_at "rdF"
                  refine ⟨_, _, rfl, .str _, okd_str, .c8f (r := keptBR r) hkm rfl ?_, t7⟩
                  have hn' : y = r.x ∨ y = r.y := by simpa using hn
                  rcases minmax r.x r.y with ⟨e1, e2⟩ | ⟨e1, e2⟩ <;> simp only [keptBR, e1, e2]
                  · exact hn'
                  · exact hn'.symm
              · rintro σ'' H24 ⟨du, d, rfl, kd, od3, hask, t24⟩
                walk_at "rdF"
                refine rep_ix (hx22.same t24) rfl (by decide) rfl fun u hu => ?_
                cases hu.strI
                walk_at "rdF"
                refine ⟨a, _, _, _, 8, .str r.n, .str y, .int 0, _, rfl, hw22.same t24, hask, fun u H25 s25 ku => ?_⟩
                walk_at "rdF"
                refine ⟨_, _, _, rfl, ku, kd.same s25, od3, fun H26 s26 => ?_⟩
                walk_at "rdF"
                exact ⟨_, _, _, _, _, _, _, rfl, g22.trans (.same g22.ok ((t24.trans s25).trans s26))⟩
          · rintro σ' H' ⟨y8, y9, y10, y13, y14, y15, y16, rfl, gm⟩
            exact ⟨_, _, _, _, _, _, _, rfl, gm⟩
        · rintro σ' H' ⟨y8, y9, y10, y13, y14, y15, y16, rfl, gm⟩
          have hwE := hw19.ex gm.ex
          obtain ⟨dx, c0, b0, f0, t0, oc, oe, os, gg, qq, ua, haE, _⟩ := hwE.at_.ex
          walk_at "rdF"
          refine ⟨a, dx, _, rfl, haE, _, a, _, _, post, rfl, hwE, _, rfl, ?_⟩
          rw [decide_eq_false np, show (if false = true then !false else false) = false from rfl]
          walk_at "rdF"
          exact ⟨_, _, _, rfl, .bl _, .bl _, okd_bool, fun H30 s30 => h H30 ((g19.trans gm).trans (.same gm.ok s30))⟩
end
set_option maxHeartbeats 2000000
def lampsOf (Ns : List Nod) : List (Str × V) := Ns.map fun e => (e.n, e.b)
def bondsOfE (Es : List Edg) : List BR := Es.map fun e => ⟨e.n, e.x, e.y, e.l, e.h⟩
theorem plan_right {Ns : List Nod} {Es : List Edg} {ns : List Int} (p : PlanD Ns Es ns) : Right (lampsOf Ns) (bondsOfE Es) := by
  have eL : lampNs (lampsOf Ns) = Ns.map (·.n) := by unfold lampsOf lampNs; rw [List.map_map]; rfl
  have eB : bondNs (bondsOfE Es) = Es.map (·.n) := by unfold bondsOfE bondNs; rw [List.map_map]; rfl
  refine ⟨⟨⟨⟨⟨⟨⟨⟨⟨fun z hz => ?_⟩, fun v hv => ?_⟩, fun r hr => ?_⟩, by rw [eL]; exact p.dn⟩, by rw [eB]; exact p.de⟩, fun r hr => ?_⟩, fun z hz => ?_⟩, by unfold lampsOf; rw [List.length_map]; exact p.l1, by unfold lampsOf; rw [List.length_map]; exact p.l10⟩, by unfold bondsOfE; rw [List.length_map]; exact p.l16⟩
  · rw [eL, eB] at hz
    rcases List.mem_append.mp hz with h | h
    · obtain ⟨e, he, rfl⟩ := List.mem_map.mp h
      exact (p.gn e he).1
    · obtain ⟨e, he, rfl⟩ := List.mem_map.mp h
      exact (p.ee e he).2
  · rcases List.mem_append.mp hv with h | h
    · obtain ⟨r, hr, rfl⟩ := List.mem_map.mp h
      obtain ⟨e, he, rfl⟩ := List.mem_map.mp hr
      exact (p.gn e he).2.op.2
    · obtain ⟨r, hr, hv⟩ := List.mem_flatMap.mp h
      obtain ⟨e, he, rfl⟩ := List.mem_map.mp hr
      simp at hv
      rcases hv with rfl | rfl
      · exact (p.ee e he).1.bl.op.2
      · exact (p.ee e he).1.bh.op.2
  · obtain ⟨e, he, rfl⟩ := List.mem_map.mp hr
    exact (p.ee e he).1.nc
  · obtain ⟨e, he, rfl⟩ := List.mem_map.mp hr
    exact (p.ee e he).1.ne
  · rw [eL]
    obtain ⟨r, hr, hz⟩ := List.mem_flatMap.mp hz
    obtain ⟨e, he, rfl⟩ := List.mem_map.mp hr
    simp at hz
    rcases hz with rfl | rfl
    · exact (p.ee e he).1.x
    · exact (p.ee e he).1.y
theorem plan_rep {S : Sto} {H : Hp} {p na ea qa : Addr} {Ns : List Nod} {Es : List Edg} {ns : List Int} (d : PlanD Ns Es ns) (h : PlanAt S H p na ea qa Ns Es ns) : RS S H (.ref p) (planD (lampsOf Ns) (bondsOfE Es) [.list (ns.map PyData.int)]) := by
  refine .lst h.hp.1 h.hp.2 (.cons (.lst h.hn.1 h.hn.2 ?_) (.cons (.lst h.he.1 h.he.2 ?_) (.cons (.lst h.hq.1 h.hq.2 .ints) .nil)))
  · unfold lampsOf
    rw [List.map_map]
    exact RepL.mapI fun e he => .tup (h.an e he).1 (h.an e he).2 (.cons (.str _) (.cons (.sc (d.gn e he).2.op.sc) .nil))
  · unfold bondsOfE
    rw [List.map_map]
    exact RepL.mapI fun e he => .tup (h.ae e he).1 (h.ae e he).2 (.cons (.str _) (.cons (.str _) (.cons (.str _) (.cons (.sc (d.ee e he).1.bl.op.sc) (.cons (.sc (d.ee e he).1.bh.op.sc) .nil)))))
set_option maxHeartbeats 4000000
abbrev slaw : Stmt := topS 69
theorem sclaw : FnScope ["script", "store", "plan", "lights", "nodes", "edges", "web", "told", "again", "node", "edge", "pair", "due"] ["script"] (defScope slaw) := ⟨rfl, rfl, rfl, by decide +kernel, rfl, by decide +kernel, by decide +kernel⟩
section
variable {P : Program} {w : World} {K : PySem.W.Frag} {mg : Str → Option Value} {base : Heap} {C CS CE CB CU te : Addr}
def spLaw (K : PySem.W.Frag) : Sp := fun vs H Q _ => ∃ a, ∃ ns : List Int, vs = [.ref a] ∧ SqL K H a (ns.map V.int) ∧ ∀ H', Q (.bl true) H'
theorem Right.noB {L : List (Str × V)} {B : List BR} (r : Right L B) : Right L [] := by
  refine ⟨⟨⟨⟨⟨⟨⟨⟨⟨fun z hz => ?_⟩, fun v hv => ?_⟩, fun _ h => by cases h⟩, r.dl⟩, .nil⟩, fun _ h => by cases h⟩, fun _ h => by cases h⟩, r.l1, r.l10⟩, by simp⟩
  · rcases List.mem_append.mp hz with h | h
    · exact r.nm z (List.mem_append.mpr (.inl h))
    · cases h
  · rcases List.mem_append.mp hv with h | h
    · exact r.num v (List.mem_append.mpr (.inl h))
    · cases h
theorem keptShp {L : List (Str × V)} {B : List BR} (r : Right L B) : Shp 3 (.list [.list (L.map lampD), .list (B.map BR.d)]) := .list fun e he => by
  simp at he
  rcases he with rfl | rfl
  · exact r.shpL
  · exact r.shpB
theorem keptNb {L : List (Str × V)} {B : List BR} (r : Right L B) : nb (.list [.list (L.map lampD), .list (B.map BR.d)]) = true := nb_list fun e he => by
  simp at he
  rcases he with rfl | rfl
  · exact r.nbL
  · exact r.nbB
theorem kept_eq {L L2 : List (Str × V)} {B B2 : List BR} (r : Right L B) (r2 : Right L2 B2) : PyData.eqv (.list [.list (L2.map lampD), .list (B2.map BR.d)]) (.list [.list (L.map lampD), .list (B.map BR.d)]) = (decide (L = L2) && decide (B = B2)) := by
  have hi := eqv_iff _ _ (keptNb r2) (keptNb r)
  by_cases e : L = L2 ∧ B = B2
  · obtain ⟨rfl, rfl⟩ := e
    rw [hi.mpr rfl, dec_refl, dec_refl]; rfl
  · have h2 : (decide (L = L2) && decide (B = B2)) = false := by
      cases q : (decide (L = L2) && decide (B = B2)) with
      | false => rfl
      | true =>
        rw [Bool.and_eq_true, decide_eq_true_eq, decide_eq_true_eq] at q
        exact absurd q e
    rw [h2]
    cases q : PyData.eqv (.list [.list (L2.map lampD), .list (B2.map BR.d)]) (.list [.list (L.map lampD), .list (B.map BR.d)]) with
    | false => rfl
    | true =>
      have := PyData.list.inj (hi.mp q)
      injection this with h3 h4
      injection h4 with h4 _
      exact absurd ⟨(map_l_inj r2.niL r.niL (PyData.list.inj h3)).symm, (map_d_inj r2.niB r.niB (PyData.list.inj h4)).symm⟩ e
theorem ok_law {k j : Nat} {f : Addr} {fd : FuncData} {c : ECs} (F : Fun K "law" "law" slaw f fd) (T : Blt mg) (cl_Web : Cls K C) (em : EmpK K te)
    (H_law_store : Has P w K mg base "_law_store" k ["script"] (spStore K)) (H_law_plan : Has P w K mg base "_law_plan" k ["store", "lamps_top", "bonds_top"] spPlan) (H_law_near : Has P w K mg base "_law_near" k ["store", "pool"] spNear) (H_law_shuffled : Has P w K mg base "_law_shuffled" k ["store", "items"] spShuffled)
    (H_law_is_web : Has P w K mg base "_law_is_web" k ["web", "plan", "lights"] (spIsWeb C CS)) (H_law_alike : Has P w K mg base "_law_alike" k ["left", "right"] (spAlike 3)) (H_law_has_rows : Has P w K mg base "_law_has_rows" k ["web", "plan"] (spHasRows C CS)) (H_law_kept_rows : Has P w K mg base "_law_kept_rows" k ["plan"] spKeptRows)
    (H_law_changes : Has P w K mg base "_law_changes" k ["store", "web", "plan"] (spChanges C CS)) (H_law_refuses : Has P w K mg base "_law_refuses" k ["store", "web", "plan"] (spRefuses C CS))
    (HP_Web_lamps : HasPr P w K mg base CX0 C "lamps" j ["self"] (spWLamps C CS)) (HP_Web_bonds : HasPr P w K mg base CX0 C "bonds" j ["self"] (spWBonds C CS)) (HP_Web_lamp_rows : HasPr P w K mg base CX0 C "lamp_rows" j ["self"] (spWLampRows C CS)) (HP_Web_bond_rows : HasPr P w K mg base CX0 C "bond_rows" j ["self"] (spWBondRows C CS))
    (HT_Web_bonds_of : HasMt P w K mg base (L2.CX P w) C "bonds_of" k ["self", "lamp"] (spWBondsOf C CS CU)) (HM_Web_eq : HasM P w K mg base CX0 C "__eq__" k ["self", "other"] (spWEq C CS))
    (HM_Web_2 : HasMk P w K mg base (L2.CX P w) C "Web" j ["self", "lamps", "bonds"] [] (spWebI K C CS c)) (HM_Web_1 : HasMk P w K mg base (L2.CX P w) C "Web" j ["self", "lamps", "bonds"] [.ref te] (spWebI K C CS c)) (HM_Web_bonds_lamps : HasMkN P w K mg base (L2.CX P w) C "Web" j ["self", "lamps", "bonds"] ["bonds", "lamps"] gRev (spWebI K C CS c)) (hk : j + 1 ≤ k) : FnOk P w K mg base CX0 (k + 1) f fd ["script"] (spLaw K) := by
  refine F.ok sclaw (fun vs H Q E h => ?_) (fun cdv A outer s H vs Q E hr h => ?_)
  · obtain ⟨a, ns, rfl, _⟩ := h; rfl
  · obtain ⟨sa, cells, rfl, hsa, h⟩ := h
    refine ⟨_, (pss_cons (ps_set (i := 1) sclaw.nd rfl (.inl rfl) (pe_callH H_law_store hr (by rfl) (pa_cons (pv 0) pa_nil)))
 (pss_cons (ps_set (i := 2) sclaw.nd rfl (.inl rfl) (pe_callH H_law_plan hr (by rfl) (pa_cons (pv 1) (pa_cons pe_int (pa_cons pe_int pa_nil)))))
 (pss_cons (ps_set (i := 3) sclaw.nd rfl (.inl rfl) (pe_op op_cat (pe_lst (pa_cons (pe_callH H_law_near hr (by rfl) (pa_cons (pv 1) (pa_cons (pe_ix (ix_seqR (K := K) rfl) (pv 2) pe_int (fun _ _ => rfl)) pa_nil))) (pa_cons (pe_callH H_law_near hr (by rfl) (pa_cons (pv 1) (pa_cons (pe_ix (ix_seqR (K := K) rfl) (pv 2) pe_int (fun _ _ => rfl)) pa_nil))) pa_nil))) (pe_ix (ix_seqR (K := K) rfl) (pv 2) pe_int (fun _ _ => rfl))))
 (pss_cons (ps_set (i := 4) sclaw.nd rfl (.inl rfl) (pe_callTy call_list_of (by rfl) T.list' (by decide +kernel) (pa_cons (pe_ix (ix_seqR (K := K) rfl) (pv 2) pe_int (fun _ _ => rfl)) pa_nil)))
 (pss_cons (ps_set (i := 5) sclaw.nd rfl (.inl rfl) (pe_callTy call_list_of (by rfl) T.list' (by decide +kernel) (pa_cons (pe_ix (ix_seqR (K := K) rfl) (pv 2) pe_int (fun _ _ => rfl)) pa_nil)))
 (pss_cons (ps_set (i := 6) sclaw.nd rfl (.inl rfl) (pe_makeHS HM_Web_2 (hr.mono (by omega)) (by rfl) (fun σ => passAt takes0 σ) (pa_cons (pv 4) (pa_cons (pv 5) pa_nil))))
 (C8.pss_cut (ps_if (PW.pt (pw_or (pt_cmpR (op_neD hr.units) (pv 4) (pe_ix (ix_seqR (K := K) rfl) (pv 2) pe_int (fun _ _ => rfl)) (by rfl)) (pw_or (pt_cmpR (op_neD hr.units) (pv 5) (pe_ix (ix_seqR (K := K) rfl) (pv 2) pe_int (fun _ _ => rfl)) (by rfl)) (pw_or1 (pt_not (pt_val (pe_callH H_law_is_web hr (by rfl) (pa_cons (pv 6) (pa_cons (pv 2) (pa_cons (pv 3) pa_nil)))))))))) (pss_one (ps_ret pe_bl)) pss_nil)
 (C8.pss_cut (ps_expr (pe_bm PySem.F.plainAttrs_list PySem.F.slot_list_append PySem.F.type_list_append mt_append (pv 4) (pa_cons (pe_tup (pa_cons pe_str (pa_cons pe_non pa_nil))) pa_nil)))
 (pss_cons (ps_expr (pe_bm0 PySem.F.plainAttrs_list PySem.F.slot_list_clear PySem.F.type_list_clear mt_clear (pv 5)))
 (C8.pss_cut (ps_for PassesOwn.never rfl (pi_list (pe_lst (pa_cons (pe_propH HP_Web_lamps cl_Web (pv 6) (hr.mono (by omega)) pass0) (pa_cons (pe_propH HP_Web_bonds cl_Web (pv 6) (hr.mono (by omega)) pass0) (pa_cons (pe_propH HP_Web_lamp_rows cl_Web (pv 6) (hr.mono (by omega)) pass0) (pa_cons (pe_propH HP_Web_bond_rows cl_Web (pv 6) (hr.mono (by omega)) pass0) (pa_cons (pe_mt HT_Web_bonds_of cl_Web (pv 6) hr (fun σ => passAt takes0 σ) (pa_cons (pe_ix (ix_seqR (K := K) rfl) (pe_ix (ix_seqR (K := K) rfl) (pe_ix (ix_seqR (K := K) rfl) (pv 2) pe_int (fun _ _ => rfl)) pe_int (fun _ _ => rfl)) pe_int (fun _ _ => rfl)) pa_nil)) pa_nil))))))) (pg_name (i := 7) sclaw.nd rfl (.inl rfl)) (pss_one (ps_expr (pe_bm PySem.F.plainAttrs_list PySem.F.slot_list_append PySem.F.type_list_append mt_append (pv 7) (pa_cons pe_str pa_nil)))))
 (C8.pss_cut (ps_set (i := 4) sclaw.nd rfl (.inl rfl) (pe_callTy call_tuple_of (by rfl) T.tuple (by decide +kernel) (pa_cons (pe_lc (own := [("node", 9)]) (g := (gName 9)) (by rfl) sclaw.nd (pi_seq (pe_callH H_law_shuffled hr (by rfl) (pa_cons (pv 1) (pa_cons (pe_ix (ix_seqR (K := K) rfl) (pv 2) pe_int (fun _ _ => rfl)) pa_nil)))) (blkOk_by (own := [("node", 9)]) (N := ["script", "store", "plan", "lights", "nodes", "edges", "web", "told", "again", "node", "edge", "pair", "due"]) (sc := defScope slaw) (by decide +kernel)) (fun _ _ _ _ _ => (pg_name (i := 9) sclaw.nd rfl (.inl rfl))) (fun _ _ _ _ _ => pts_nil) (fun _ _ _ _ _ => (pe_callTy (call_list_ofR (K := K) rfl) (by rfl) T.list' (by decide +kernel) (pa_cons (pv 9) pa_nil)))) pa_nil)))
 (pss_cons (ps_setLc (i := 5) (own := [("edge", 10)]) (g := (gName 10)) (by rfl) sclaw.nd rfl rfl (sw_true rfl rfl rfl (by decide +kernel)) (pi_seq (pe_callH H_law_shuffled hr (by rfl) (pa_cons (pv 1) (pa_cons (pe_ix (ix_seqR (K := K) rfl) (pv 2) pe_int (fun _ _ => rfl)) pa_nil)))) (blkOk_by (own := [("edge", 10)]) (N := ["script", "store", "plan", "lights", "nodes", "edges", "web", "told", "again", "node", "edge", "pair", "due"]) (sc := defScope slaw) (by decide +kernel)) (fun _ _ _ _ _ => (pg_name (i := 10) sclaw.nd rfl (.inl rfl))) (fun _ _ _ _ _ => pts_nil) (fun _ _ _ _ _ => (pe_lst (pa_cons (pe_ix (ix_seqR (K := K) rfl) (pv 10) pe_int (fun _ _ => rfl)) (pa_cons (pe_ix (ix_seqR (K := K) rfl) (pv 10) pe_int (fun _ _ => rfl)) (pa_cons (pe_ix (ix_seqR (K := K) rfl) (pv 10) pe_int (fun _ _ => rfl)) (pa_cons (pe_ix (ix_seqR (K := K) rfl) (pv 10) pe_int (fun _ _ => rfl)) (pa_cons (pe_ix (ix_seqR (K := K) rfl) (pv 10) pe_int (fun _ _ => rfl)) pa_nil))))))))
 (C8.pss_cut (ps_set (i := 8) sclaw.nd rfl (.inl rfl) (pe_makeHK (ks := ["bonds", "lamps"]) HM_Web_bonds_lamps (hr.mono (by omega)) (by rfl) (passF takes0) (pk_cons (pv 5) (pk_cons (pv 4) pk_nil))))
 (C8.pss_cut (ps_for PassesOwn.never rfl (pi_tup (pv 4)) (pg_name (i := 9) sclaw.nd rfl (.inl rfl)) (pss_one (ps_asg (pe_ix (ix_seqR (K := K) rfl) (pe_lst (pa_cons pe_int (pa_cons (pe_un un_neg pe_int) pa_nil))) (pe_callTy call_int1 (by rfl) T.int (by decide +kernel) (pa_cons (pe_cmpR op_eq (pe_ix (ix_seqR (K := K) rfl) (pv 9) pe_int (fun _ _ => rfl)) pe_int (nomark _)) pa_nil)) (fun _ _ => rfl)) (pg_sub (pv 9) pe_int set_list))))
 (C8.pss_cut (ps_for PassesOwn.never rfl (pi_list (pv 5)) (pg_name (i := 10) sclaw.nd rfl (.inl rfl)) (pss_cons (ps_asg pe_str (pg_sub (pv 10) pe_int set_list))
 (pss_cons (ps_asg (pe_op op_pow pe_int pe_int) (pg_sub (pv 10) pe_int set_list))
 (pss_one (ps_asg (pe_op op_pow pe_int pe_int) (pg_sub (pv 10) pe_int set_list))))))
 (C8.pss_cut (ps_if (PW.pt (pw_or (pt_not (pt_val (pe_callH H_law_is_web hr (by rfl) (pa_cons (pv 6) (pa_cons (pv 2) (pa_cons (pv 3) pa_nil)))))) (pw_or1 (pt_not (pt_val (pe_callH H_law_is_web hr (by rfl) (pa_cons (pv 8) (pa_cons (pv 2) (pa_cons (pv 3) pa_nil))))))))) (pss_one (ps_ret pe_bl)) pss_nil)
 (C8.pss_cut (ps_if (pt_not (pt_val (pe_callH H_law_alike hr (by rfl) (pa_cons (pe_lst (pa_cons (pe_cmpR (op_eqM HM_Web_eq hr pass0) (pv 6) (pv 8) (by rfl)) (pa_cons (pe_cmpR (op_eqM HM_Web_eq hr pass0) (pv 8) (pv 6) (by rfl)) (pa_cons (pe_cmpR (op_eqM HM_Web_eq hr pass0) (pv 6) (pv 4) (by rfl)) (pa_cons (pe_cmpR (op_eqM HM_Web_eq hr pass0) (pv 6) pe_str (by rfl)) pa_nil))))) (pa_cons (pe_lst (pa_cons pe_bl (pa_cons pe_bl (pa_cons pe_bl (pa_cons pe_bl pa_nil))))) pa_nil))))) (pss_one (ps_ret pe_bl)) pss_nil)
 (C8.pss_cut (ps_if (pt_not (pt_val (pe_callH H_law_has_rows hr (by rfl) (pa_cons (pe_makeHS HM_Web_1 (hr.mono (by omega)) (by rfl) (fun σ => passAt takes0 σ) (pa_cons (pe_callTy call_list_of (by rfl) T.list' (by decide +kernel) (pa_cons (pe_ix (ix_seqR (K := K) rfl) (pv 2) pe_int (fun _ _ => rfl)) pa_nil)) pa_nil)) (pa_cons (pe_lst (pa_cons (pe_ix (ix_seqR (K := K) rfl) (pv 2) pe_int (fun _ _ => rfl)) (pa_cons (pe_lst pa_nil) pa_nil))) pa_nil))))) (pss_one (ps_ret pe_bl)) pss_nil)
 (C8.pss_cut (ps_for PassesOwn.never rfl (pi_list (pe_callH H_law_changes hr (by rfl) (pa_cons (pv 1) (pa_cons (pv 6) (pa_cons (pv 2) pa_nil))))) (pg_name (i := 11) sclaw.nd rfl (.inl rfl)) (pss_cons (ps_set (i := 12) sclaw.nd rfl (.inl rfl) (pe_cmpR (op_eqD hr.units) (pe_callH H_law_kept_rows hr (by rfl) (pa_cons (pe_ix (ix_seqR (K := K) rfl) (pv 11) pe_int (fun _ _ => rfl)) pa_nil)) (pe_callH H_law_kept_rows hr (by rfl) (pa_cons (pv 2) pa_nil)) (by rfl)))
 (pss_one (ps_if (PW.pt (pw_or (pt_not (pt_val (pe_callH H_law_has_rows hr (by rfl) (pa_cons (pe_ix (ix_seqR (K := K) rfl) (pv 11) pe_int (fun _ _ => rfl)) (pa_cons (pe_ix (ix_seqR (K := K) rfl) (pv 11) pe_int (fun _ _ => rfl)) pa_nil))))) (pw_or1 (pt_not (pt_val (pe_callH H_law_alike hr (by rfl) (pa_cons (pe_cmpR (op_eqM HM_Web_eq hr pass0) (pv 6) (pe_ix (ix_seqR (K := K) rfl) (pv 11) pe_int (fun _ _ => rfl)) (by rfl)) (pa_cons (pv 12) pa_nil)))))))) (pss_one (ps_ret pe_bl)) pss_nil))))
 (pss_one (ps_ret (pe_and (pe_callH H_law_refuses hr (by rfl) (pa_cons (pv 1) (pa_cons (pv 6) (pa_cons (pv 2) pa_nil)))) (pe_one (pe_callH H_law_is_web hr (by rfl) (pa_cons (pv 6) (pa_cons (pv 2) (pa_cons (pv 3) pa_nil))))))))))))))))))))))))))), ?_⟩
    walk_at "rdF"
    refine ⟨sa, cells, rfl, hsa, fun S H1 hS1 s1 => ?_⟩
    walk_at "rdF"
    refine ⟨S, 10, 16, rfl, by omega, by omega, by omega, hS1, fun p na ea qa Ns Es ns H2 hd hat _ hS2 e2 => ?_⟩
    have rt := plan_right hd
    have kv2 := plan_rep hd hat
    generalize lampsOf Ns = L at *
    generalize bondsOfE Es = B at *
    obtain ⟨pw, n2, n6, pr⟩ := (⟨hd.pw, hd.p2, hd.p6, hd.pr⟩ : _ ∧ _ ∧ _ ∧ _)
    have hq2 := hat.hq
    clear hat hd
    walk_at "rdF"
    have lL := rt.l10
    have lL1 := rt.l1
    have lB := rt.l16
    have uS : ∀ {H' : Hp}, StoreOk S H' → ∀ p, H' p = none → US S p := fun s p n => s.ne1 n
    refine kv2.ixL (i := 2) rfl fun qv hqv => ?_
    obtain ⟨q1, xs1, rfl, q1S, hq1, rq1⟩ := hqv.lstI
    obtain rfl := rq1.intsI
    walk_at "rdF"
    refine ⟨S, q1, ns, rfl, hS2, ⟨q1S, hq1⟩, by omega, by omega, fun m1 H3 i1 hS3 e3 => ?_⟩
    have g3 := Gd.of hS3 e3
    walk_at "rdF"
    refine (kv2.ex g3.ex).ixL (i := 2) rfl fun qv hqv => ?_
    obtain ⟨q2, xs2, rfl, q2S, hq2, rq2⟩ := hqv.lstI
    obtain rfl := rq2.intsI
    walk_at "rdF"
    refine ⟨S, q2, ns, rfl, hS3, ⟨q2S, hq2⟩, by omega, by omega, fun m2 H4 i2 hS4 e4 => ?_⟩
    have g4 := g3.trans (.of hS4 e4)
    walk_at "rdF"
    refine ⟨sz (by simp), fun p5 m5 => ?_⟩
    obtain ⟨s5, k5⟩ := new_lst (U := US S) (vs := [V.int m1, .int m2]) (ds := [.int m1, .int m2]) m5 (uS hS4 _ m5) (.cons (.int _) (.cons (.int _) .nil))
    generalize upd H4 p5 (.lst [V.int m1, .int m2]) = H5 at *
    have hS5 := hS4.same s5
    have kv5 := (kv2.ex g4.ex).same s5
    walk_at "rdF"
    refine kv5.ixL (i := 2) rfl fun qv hqv => ?_
    refine rd_cat k5 hqv (by rw [List.length_map]; simp; omega) (uS hS5) fun p6 H6 s6 n6' k6 => ?_
    have hS6 := hS5.same s6
    have kv6 := kv5.same s6
    have k6 : RS S H6 (.ref p6) (.list ((m1 :: m2 :: ns).map PyData.int)) := k6
    have hns : ∀ n ∈ m1 :: m2 :: ns, InR n := fun n hn => by
      rcases List.mem_cons.mp hn with rfl | hn
      · exact i1
      · rcases List.mem_cons.mp hn with rfl | hn
        · exact i2
        · exact pr n hn
    walk_at "rdF"
    refine kv6.ixL (i := 0) rfl fun nv hnv => ?_
    walk_at "rdF"
    refine rep_len hnv rfl fun xs rx => ?_
    intro np nnp
    obtain ⟨s7, k7⟩ := new_lst (U := US S) nnp (uS hS6 _ nnp) rx
    have k7 : RS S (upd H6 np (.lst xs)) (.ref np) (.list (L.map lampD)) := k7
    generalize upd H6 np (.lst xs) = H7 at *
    have hS7 := hS6.same s7
    have kv7 := kv6.same s7
    walk_at "rdF"
    refine kv7.ixL (i := 1) rfl fun ev hev => ?_
    walk_at "rdF"
    refine rep_len hev rfl fun ys ry => ?_
    intro ep nep
    obtain ⟨s8, k8⟩ := new_lst (U := US S) nep (uS hS7 _ nep) ry
    have k8 : RS S (upd H7 ep (.lst ys)) (.ref ep) (.list (B.map BR.d)) := k8
    generalize upd H7 ep (.lst ys) = H8 at *
    have hS8 := hS7.same s8
    walk_at "rdF"
    refine rd_webA (.inl (k7.same s8)) (.inl k8) (rowsL rt.okL) (rowsB rt.okB) (by omega) (by omega) (fun _ wa H9 s9 nwa hwa => ?_) fun e he => (rt.notWrong he).elim
    have hS9 := hS8.same s9
    have hw8 := hwa
    have kv9 := (kv7.same s8).same s9
    have k7' := (k7.same s8).same s9
    have k8' := k8.same s9
    have k6' := ((k6.same s7).same s8).same s9
    have hwa : WebV (US S) C CS H9 wa (sortL L) (sortB B) := hwa.less fun q hq => hS8.ne1 hq
    walk_at "rdF"
    refine rd_cut (fun σ' H' => σ' = [some (.ref sa), some (.ref S.1), some (.ref p), some (.ref p6), some (.ref np), some (.ref ep), some (.ref wa), none, none, none, none, none, none] ∧ Same H9 H') ?_ ?_
    · walk_at "rdF"
      refine kv9.ixL (i := 0) rfl fun nv hnv => ?_
      refine rd_neSelf k7' hnv rt.shpL rt.nbL ?_
      walk_at "rdF"
      refine kv9.ixL (i := 1) rfl fun ev hev => ?_
      refine rd_neSelf k8' hev rt.shpB rt.nbB ?_
      walk_at "rdF"
      refine ⟨wa, _, _, L, B, _, _, rfl, ⟨_, hwa⟩, kv9.less fun _ _ => trivial, rt, k6'.less fun _ _ => trivial, hns, by simp; omega, fun H10 s10 => ?_⟩
      walk_at "rdF"
      exact ⟨rfl, s10⟩
    · rintro σ10 H10 ⟨rfl, s10⟩
      -- beside the two lists that are changed now
      have npS : np ≠ S.1 := hS6.ne1 nnp
      have npS2 : np ≠ S.2 := hS6.ne2 nnp
      have epS : ep ≠ S.1 := hS7.ne1 nep
      have epS2 : ep ≠ S.2 := hS7.ne2 nep
      have t6 : ∀ q o, US S q → H6 q = some o → (q ≠ S.1 ∧ q ≠ np ∧ q ≠ ep) ∧ H10 q = some o := fun q o u e => ⟨⟨u, ne_of_none e nnp, ne_of_none (s7 _ _ e) nep⟩, s10 _ _ (s9 _ _ (s8 _ _ (s7 _ _ e)))⟩
      have kv : Rep (fun q => q ≠ S.1 ∧ q ≠ np ∧ q ≠ ep) H10 (.ref p) (planD L B [.list (ns.map PyData.int)]) := kv6.to t6
      have kl : Rep (fun q => q ≠ S.1 ∧ q ≠ np ∧ q ≠ ep) H10 (.ref p6) (.list ((m1 :: m2 :: ns).map PyData.int)) := k6.to t6
      obtain ⟨op7, hop7⟩ : ∃ o, H7 np = some o := by
        obtain ⟨x, _, e, _, h1, _⟩ := k7.lstI
        cases e; exact ⟨_, h1⟩
      have hop := s8 _ _ hop7
      obtain ⟨oe, hoe⟩ : ∃ o, H8 ep = some o := by
        obtain ⟨x, _, e, _, h1, _⟩ := k8.lstI
        cases e; exact ⟨_, h1⟩
      have ww : WebV (fun q => q ≠ S.1 ∧ q ≠ np ∧ q ≠ ep) C CS H10 wa (sortL L) (sortB B) := hw8.to fun q o u e => ⟨⟨hS8.ne1 u, fun c => (by rw [c, hop] at u; cases u), fun c => (by rw [c, hoe] at u; cases u)⟩, s10 _ _ e⟩
      have hS10 := hS9.same s10
      obtain ⟨np', xn, en, _, hnp, rxn⟩ := (k7'.same s10).lstI
      cases en
      obtain ⟨ep', xe, ee, _, hep, rxe⟩ := (k8'.same s10).lstI
      cases ee
      have lxn : xn.length = L.length := by rw [rxn.len, List.length_map]
      walk_at "rdF"
      refine rd_cut (fun σ' H' => σ' = [some (.ref sa), some (.ref S.1), some (.ref p), some (.ref p6), some (.ref np), some (.ref ep), some (.ref wa), none, none, none, none, none, none] ∧ StoreOk S H' ∧ Ex (fun q => q ≠ S.1 ∧ q ≠ np ∧ q ≠ ep) H10 H' ∧ H' ep = some (.lst xe)) ?_ ?_
      · walk_at "rdF"
        refine ⟨.inl ⟨rfl, _, sl_of hnp⟩, ?_⟩
        walk_at "rdF"
        refine ⟨sz (by simp), fun q nq => ?_⟩
        have sq := same_new (o := .tup [V.str "z9", .non]) nq
        show tNil _ (upd H10 q (.tup [V.str "z9", .non])) _
        have eq1 : Ex (fun q => q ≠ S.1 ∧ q ≠ np ∧ q ≠ ep) H10 (upd H10 q (.tup [V.str "z9", .non])) := .new nq
        generalize upd H10 q (.tup [V.str "z9", .non]) = H11 at *
        walk_at "rdF"
        refine ⟨np, xn, _, rfl, rfl, sq _ _ hnp, Nat.lt_of_lt_of_le (by omega : xn.length < 100000) (by decide), ?_⟩
        walk_at "rdF"
        have nne : np ≠ ep := fun c => by rw [← c, hop7] at nep; cases nep
        exact ⟨rfl, store_upd (hS10.same sq) npS npS2, eq1.mutU (by simp) (by rw [sq _ _ hnp]; simp), by rw [upd_ne nne.symm]; exact sq _ _ hep⟩
      · rintro σ11 H11 ⟨rfl, hS11, e11, hep11⟩
        walk_at "rdF"
        refine rd_bm0 ?_
        walk_at "rdF"
        refine ⟨.inl ⟨rfl, _, sl_of hep11⟩, ep, xe, rfl, rfl, hep11, ?_⟩
        have hS12 : StoreOk S (upd H11 ep (.lst [])) := store_upd hS11 epS epS2
        have e12 : Ex (fun q => q ≠ S.1 ∧ q ≠ np ∧ q ≠ ep) H10 (upd H11 ep (.lst [])) := e11.mutU (by simp) (by rw [hep11]; simp)
        generalize upd H11 ep (.lst []) = H12 at *
        walk_at "rdF"
        have kv12 := kv.ex e12
        have ww12 := ww.ex e12
        have kl12 := kl.ex e12
        obtain ⟨dx, c0, b0, f0, t0, oc, oe', os, gg, qq, ua, ha12, _⟩ := ww12.at_.ex
        refine rd_cut (fun σ' H' => ∃ y7, σ' = [some (.ref sa), some (.ref S.1), some (.ref p), some (.ref p6), some (.ref np), some (.ref ep), some (.ref wa), y7, none, none, none, none, none] ∧ StoreOk S H' ∧ Ex (fun q => q ≠ S.1 ∧ q ≠ np ∧ q ≠ ep) H12 H') ?_ ?_
        · walk_at "rdF"
          refine ⟨wa, dx, _, rfl, ha12, _, wa, _, _, rfl, ww12, fun t1 n1 => ?_⟩
          have s1 := same_new (o := .lst ((lampNs (sortL L)).map V.str)) n1
          have h1 := @upd_same H12 t1 (.lst ((lampNs (sortL L)).map V.str))
          generalize upd H12 t1 (.lst ((lampNs (sortL L)).map V.str)) = H13 at *
          walk_at "rdF"
          refine ⟨wa, dx, _, rfl, s1 _ _ ha12, _, wa, _, _, rfl, ww12.same s1, fun t2 n2 => ?_⟩
          have s2 := same_new (o := .lst ((bondNs (sortB B)).map V.str)) n2
          have h2 := @upd_same H13 t2 (.lst ((bondNs (sortB B)).map V.str))
          generalize upd H13 t2 (.lst ((bondNs (sortB B)).map V.str)) = H14 at *
          have s12 := s1.trans s2
          walk_at "rdF"
          refine ⟨wa, dx, _, rfl, s12 _ _ ha12, _, wa, _, _, rfl, ww12.same s12, fun t3 xs3 H15 s3 n3 h3 r3 => ?_⟩
          have s13 := s12.trans s3
          walk_at "rdF"
          refine ⟨wa, dx, _, rfl, s13 _ _ ha12, _, wa, _, _, rfl, ww12.same s13, fun t4 xs4 n4 r4 => ?_⟩
          have s4 := same_new (o := .lst xs4) n4
          have h4 := @upd_same H15 t4 (.lst xs4)
          generalize upd H15 t4 (.lst xs4) = H16 at *
          have s14 := s13.trans s4
          walk_at "rdF"
          refine ⟨wa, dx, _, rfl, s14 _ _ ha12, by rfl, ?_⟩
          walk_at "rdF"
          obtain ⟨r0, hr0⟩ : ∃ r0, L[0]? = some r0 := ⟨_, List.getElem?_eq_getElem (by omega)⟩
          have hz0 : r0.1 ∈ lampNs (sortL L) := List.mem_map_of_mem (srt_mem.mpr (List.mem_of_getElem? hr0))
          refine (kv12.same s14).ixL (i := 0) rfl fun a1 g1 => ?_
          walk_at "rdF"
          refine g1.ixL (i := 0) (by rw [List.getElem?_map, hr0]; rfl) fun a2 g2 => ?_
          walk_at "rdF"
          refine rep_ix g2 rfl (by decide) rfl fun a3 g3 => ?_
          cases g3.strI
          refine ⟨_, wa, _, _, r0.1, rfl, ww12.same s14, fun _ t5 H17 s5 n5 h5 => ?_, fun hn => absurd hz0 hn⟩
          have s15 := s14.trans s5
          walk_at "rdF"
          refine ⟨sz (by simp), fun lp nlp => ?_⟩
          have s6 := same_new (o := .lst [V.ref t1, .ref t2, .ref t3, .ref t4, .ref t5]) nlp
          have hlp := @upd_same H17 lp (.lst [V.ref t1, .ref t2, .ref t3, .ref t4, .ref t5])
          have w1 := (((s2.trans s3).trans s4).trans s5) _ _ h1
          have w2 := ((s3.trans s4).trans s5) _ _ h2
          have w3 := (s4.trans s5) _ _ h3
          have w4 := s5 _ _ h4
          have f0 : ∀ t o, H17 t = some o → H12 t = none → H12 t = none ∧ t ≠ lp := fun t o e n => ⟨n, ne_of_none e nlp⟩
          have f1 := f0 _ _ w1 n1
          have f2 := f0 _ _ w2 (none_back s1 n2)
          have f3 := f0 _ _ w3 (none_back s12 n3)
          have f4 := f0 _ _ w4 (none_back s13 n4)
          have f5 := f0 _ _ h5 (none_back s14 n5)
          have l5 := bondsOf_len (sortB B) r0.1
          have lsB : (sortB B).length = B.length := by rw [srt_len, List.length_map]
          have lsL : (sortL L).length = L.length := srt_len
          have fin5 : ∀ t ∈ [t1, t2, t3, t4, t5], (H12 t = none ∧ t ≠ lp) ∧ ∃ ys, upd H17 lp (.lst [V.ref t1, .ref t2, .ref t3, .ref t4, .ref t5]) t = some (.lst ys) ∧ ys.length ≤ 50 := fun t ht => by
            simp only [List.mem_cons, List.not_mem_nil, or_false] at ht
            rcases ht with rfl | rfl | rfl | rfl | rfl
            · exact ⟨f1, _, s6 _ _ w1, by simp only [List.length_map]; omega⟩
            · exact ⟨f2, _, s6 _ _ w2, by simp only [List.length_map]; omega⟩
            · exact ⟨f3, _, s6 _ _ w3, by rw [r3.len, List.length_map]; omega⟩
            · exact ⟨f4, _, s6 _ _ w4, by rw [r4.len, List.length_map]; omega⟩
            · exact ⟨f5, _, s6 _ _ h5, by simp only [List.length_map]; omega⟩
          generalize upd H17 lp (.lst [V.ref t1, .ref t2, .ref t3, .ref t4, .ref t5]) = H18 at *
          have s18 := s15.trans s6
          refine ⟨lp, rfl, ⟨_, sl_of hlp⟩, L2.for_list (xs := [.ref t1, .ref t2, .ref t3, .ref t4, .ref t5]) (fun jj σ' H' => ∃ y7, σ' = [some (.ref sa), some (.ref S.1), some (.ref p), some (.ref p6), some (.ref np), some (.ref ep), some (.ref wa), y7, none, none, none, none, none] ∧ StoreOk S H' ∧ Ex (fun q => q ≠ S.1 ∧ q ≠ np ∧ q ≠ ep) H12 H' ∧ H' lp = some (.lst [V.ref t1, .ref t2, .ref t3, .ref t4, .ref t5]) ∧ ∀ t ∈ [t1, t2, t3, t4, t5], ∃ ys, H' t = some (.lst ys) ∧ ys.length ≤ 50 + jj) ⟨_, rfl, hS12.same s18, .same s18, hlp, fun t ht => (fin5 t ht).2⟩ (fun jj σ' H' _ hh => ?_) ?_ ?_⟩
          · obtain ⟨_, _, _, _, hl, _⟩ := hh
            exact sl_of hl
          · rintro jj v σ' H' hv ⟨y7, rfl, okJ, exJ, hlJ, tJ⟩
            obtain ⟨t, ht, rfl⟩ : ∃ t, t ∈ [t1, t2, t3, t4, t5] ∧ v = .ref t := by
              have hm : v ∈ [t1, t2, t3, t4, t5].map V.ref := List.mem_of_getElem? hv
              obtain ⟨t, ht, e⟩ := List.mem_map.mp hm
              exact ⟨t, ht, e.symm⟩
            obtain ⟨⟨nt, tl⟩, _⟩ := fin5 t ht
            obtain ⟨ys, hy, ly⟩ := tJ t ht
            have lj : jj < 5 := by
              have := (List.getElem?_eq_some_iff.mp hv).1
              simpa using this
            walk_at "rdF"
            refine ⟨.inl ⟨rfl, _, sl_of hy⟩, ?_⟩
            walk_at "rdF"
            refine ⟨t, ys, _, rfl, rfl, hy, Nat.lt_of_lt_of_le (by omega : ys.length < 100000) (by decide), ?_⟩
            walk_at "rdF"
            refine ⟨_, rfl, store_upd okJ (hS12.ne1 nt) (hS12.ne2 nt), exJ.mut nt, by rw [upd_ne tl.symm]; exact hlJ, fun u hu => ?_⟩
            by_cases c : u = t
            · rw [c]; exact ⟨_, upd_same, by rw [List.length_append]; simp; omega⟩
            · obtain ⟨zs, hz, lz⟩ := tJ u hu
              exact ⟨zs, by rw [upd_ne c]; exact hz, by omega⟩
          · rintro σ' H' ⟨y7, rfl, okJ, exJ, _, _⟩
            exact ⟨_, rfl, okJ, exJ⟩
        · rintro σ13 H13 ⟨y7, rfl, hS13, e13⟩
          have kv13 := kv12.ex e13
          walk_at "rdF"
          refine rd_cut (fun σ' H' => ∃ (tp : Addr) (L' : List (Str × V)), L'.Perm L ∧ σ' = [some (.ref sa), some (.ref S.1), some (.ref p), some (.ref p6), some (.ref tp), some (.ref ep), some (.ref wa), y7, none, none, none, none, none] ∧ StoreOk S H' ∧ Ex (US S) H13 H' ∧ Rep (fun q => H13 q = none) H' (.ref tp) (.tuple (L'.map lampLd))) ?_ ?_
          · walk_at "rdF"
            refine kv13.ixL (i := 0) rfl fun nv hnv => ?_
            obtain ⟨na', xs, rfl, naU, hna', rxs⟩ := hnv.lstI
            have lxs : xs.length = L.length := by rw [rxs.len, List.length_map]
            walk_at "rdF"
            refine ⟨S, na', xs, rfl, hS13, ⟨naU.1, hna'⟩, by omega, fun sp ys H14 perm nsp hsp hS14 e14 => ?_⟩
            have g14 : Gd S H13 H14 := .of hS14 e14
            obtain ⟨L', pL, rys⟩ := rep_perm (rxs.to fun q o u e => ⟨trivial, e14 q o u.1 e⟩ : RepL (fun _ => True) H14 xs (L.map lampD)) perm
            have lL' := pL.length_eq
            refine lc_seqG (W := fun _ => True) (Z0 := fun _ => True) (U := fun q => H14 q = none) (fun _ h => h) (fun ds => ds.map asList) (fun _ => True) (.inl (Rep.lst (ds := L'.map lampD) trivial hsp.2 rys)) rfl (fun _ _ => trivial) rfl (fun _ _ => trivial) ?_ ?_
            · rintro D jj x e H' uD nD he hx hI
              have he' : (L'.map lampD)[jj]? = some e := he
              rw [List.getElem?_map] at he'
              cases qi : L'[jj]? with
              | none => rw [qi] at he'; cases he'
              | some r =>
                rw [qi] at he'
                cases he'
                refine ⟨by walk_at "wiped", ?_⟩
                walk_at "rdF"
                refine rep_len hx rfl fun zs rz => ?_
                intro l nl
                obtain ⟨u1, u2, rfl, ru1, ru2⟩ := rep2 rz
                cases ru1.strI
                have sr : Sc r.2 := (rt.niL r (pL.mem_iff.mp (List.mem_of_getElem? qi))).sc
                cases ru2.scI sr
                refine hI.put (e := lampLd r) (.new nl) trivial nD (fun _ => trivial) (.lst ⟨hI.ex.dom _ nl, hI.ne nl⟩ upd_same (.cons (.str _) (.cons (.sc sr) .nil))) ?_ ?_ (fun _ _ => trivial)
                · rw [List.length_map, List.length_take]
                  show min jj (L'.map lampD).length < _
                  rw [List.length_map]; omega
                · rw [take_succ he, List.map_append]; rfl
            · rintro p5 acc H15 e15 _ n5 hp5 hacc _
              have s15 := e15.toSame
              rw [show (kids (PyData.list (L'.map lampD))).map asList = L'.map lampLd by
                show (L'.map lampD).map asList = _
                rw [List.map_map]; rfl] at hacc
              walk_at "rdF"
              refine ⟨p5, acc, rfl, .inl ⟨sl_of hp5, fun tp ntp => ?_⟩⟩
              have s16 := same_new (o := .tup acc) ntp
              have hS16 := (hS14.same s15).same s16
              refine ⟨tp, L', pL, rfl, hS16, (g14.trans (.same hS14 (s15.trans s16))).ex, .tup ((g14.trans (.same hS14 s15)).ex.dom _ ntp) upd_same ((hacc.same s16).less fun q hq => g14.ex.dom _ hq.1)⟩
          · rintro σ16 H16 ⟨tp, L', pL, rfl, hS16, e16, ktp⟩
            walk_at "rdF"
            have kv16 := kv13.ex (e16.less fun q u => u.1)
            refine kv16.ixL (i := 1) rfl fun ev hev => ?_
            obtain ⟨ea', xs, rfl, eaU, hea', rxs⟩ := hev.lstI
            have lxs : xs.length = B.length := by rw [rxs.len, List.length_map]
            walk_at "rdF"
            refine ⟨S, ea', xs, rfl, hS16, ⟨eaU.1, hea'⟩, by omega, fun sp ys H17 perm nsp hsp hS17 e17 => ?_⟩
            have g17 : Gd S H16 H17 := .of hS17 e17
            obtain ⟨B', pB, rys⟩ := rep_perm (rxs.to fun q o u e => ⟨trivial, e17 q o u.1 e⟩ : RepL (fun _ => True) H17 xs (B.map BR.d)) perm
            have lB' := pB.length_eq
            refine lc_seqG (W := fun _ => True) (Z0 := fun _ => True) (U := fun q => H17 q = none) (fun _ h => h) (fun ds => ds.map swapOf) (fun _ => True) (.inl (Rep.lst (ds := B'.map BR.d) trivial hsp.2 rys)) rfl (fun _ _ => trivial) rfl (fun _ _ => trivial) ?_ ?_
            · rintro D jj x e H' uD nD he hx hI
              have he' : (B'.map BR.d)[jj]? = some e := he
              rw [List.getElem?_map] at he'
              cases qi : B'[jj]? with
              | none => rw [qi] at he'; cases he'
              | some r =>
                rw [qi] at he'
                cases he'
                obtain ⟨nl1, nh1⟩ := rt.niB r (pB.mem_iff.mp (List.mem_of_getElem? qi))
                refine ⟨by walk_at "wiped", ?_⟩
                walk_at "rdF"
                refine rep_ix hx rfl (by decide) rfl fun u h1 => ?_
                cases h1.strI
                walk_at "rdF"
                refine rep_ix hx rfl (by decide) rfl fun u h1 => ?_
                cases h1.strI
                walk_at "rdF"
                refine rep_ix hx rfl (by decide) rfl fun u h1 => ?_
                cases h1.strI
                walk_at "rdF"
                refine rep_ix hx rfl (by decide) rfl fun u h1 => ?_
                cases h1.scI nl1.sc
                walk_at "rdF"
                refine rep_ix hx rfl (by decide) rfl fun u h1 => ?_
                cases h1.scI nh1.sc
                walk_at "rdF"
                refine ⟨sz (by simp), fun l nl => ?_⟩
                refine hI.put (e := swapLd r) (.new nl) trivial nD (fun _ => trivial) (.lst ⟨hI.ex.dom _ nl, hI.ne nl⟩ upd_same (.cons (.str _) (.cons (.str _) (.cons (.str _) (.cons (.sc nl1.sc) (.cons (.sc nh1.sc) .nil)))))) ?_ ?_ (fun _ _ => trivial)
                · rw [List.length_map, List.length_take]
                  show min jj (B'.map BR.d).length < _
                  rw [List.length_map]; omega
                · rw [take_succ he, List.map_append]; rfl
            · rintro p5 acc H18 e18 _ n5 hp5 hacc _
              have s18 := e18.toSame
              rw [show (kids (PyData.list (B'.map BR.d))).map swapOf = B'.map swapLd by
                show (B'.map BR.d).map swapOf = _
                rw [List.map_map]; rfl] at hacc
              have hS18 := hS17.same s18
              have g18 : Gd S H16 H18 := g17.trans (.same hS17 s18)
              have ktp18 : Rep (fun q => H13 q = none) H18 (.ref tp) (.tuple (L'.map lampLd)) := ktp.ex (g18.ex.less fun q hq => hS13.ne1 hq)
              have hacc' : RepL (fun q => H16 q = none ∧ q ≠ p5) H18 acc (B'.map swapLd) := hacc.less fun q hq => ⟨g17.ex.dom _ hq.1, hq.2⟩
              have kb18 : Rep (fun q => H16 q = none) H18 (.ref p5) (.list (B'.map swapLd)) := .lst (g17.ex.dom _ n5) hp5 (hacc.less fun q hq => g17.ex.dom _ hq.1)
              have rt' := rt.perm pL pB
              walk_at "rdF"
              refine rd_cut (fun σ' H' => ∃ ag, σ' = [some (.ref sa), some (.ref S.1), some (.ref p), some (.ref p6), some (.ref tp), some (.ref p5), some (.ref wa), y7, some (.ref ag), none, none, none, none] ∧ Same H18 H' ∧ WebV (fun q => H18 q = none) C CS H' ag (sortL L) (sortB B)) ?_ ?_
              · walk_at "rdF"
                refine rd_makeK ?_
                walk_at "rdF"
                refine ⟨rfl, rfl, ?_⟩
                refine rd_webA (.inl ktp18) (.inl kb18) (rowsLd rt'.okL) (rowsSw rt'.okB) (by have := pL.length_eq; omega) (by rw [List.length_map]; omega) (fun _ ag H19 s19 nag hag => ?_) fun e he => (rt'.swap.notWrong he).elim
                rw [sort_swap pB rt.db, show sortL L' = sortL L from srt_of_perm pL rt.dl] at hag
                walk_at "rdF"
                exact ⟨ag, rfl, s19, hag⟩
              · rintro σ19 H19 ⟨ag, rfl, s19, hag⟩
                walk_at "rdF"
                obtain ⟨tp', xt, et, utp, htp16, rxt⟩ := ktp.tupI
                cases et
                obtain ⟨ps, rfl, hps16⟩ := inner2 rxt rt'.niL
                have hS19 := hS18.same s19
                have c1619 : ∀ q o, US S q → H16 q = some o → H19 q = some o := fun q o u e => s19 _ _ (g18.ex.keep q o u e)
                have htp := c1619 _ _ (hS13.ne1 utp) htp16
                have hps : ∀ p ∈ ps, H13 p = none ∧ ∃ (x : Str) (y : V), H19 p = some (.lst [.str x, y]) ∧ NI y := fun p hp => by
                  obtain ⟨u, x, y, h1, n⟩ := hps16 p hp
                  exact ⟨u, x, y, c1619 _ _ (hS13.ne1 u) h1, n⟩
                have ps16 : ∀ p ∈ ps, H16 p ≠ none := fun p hp c => by
                  obtain ⟨u, x, y, h1, n⟩ := hps16 p hp
                  rw [h1] at c; cases c
                have tpn : tp ∉ ps := fun hc => by
                  obtain ⟨_, x, y, h1, _⟩ := hps tp hc
                  rw [htp] at h1; cases h1
                have psS : ∀ p ∈ ps, p ≠ S.1 ∧ p ≠ S.2 := fun p hp => ⟨hS13.ne1 (hps p hp).1, hS13.ne2 (hps p hp).1⟩
                refine rd_cut (fun σ' H' => ∃ y9, σ' = [some (.ref sa), some (.ref S.1), some (.ref p), some (.ref p6), some (.ref tp), some (.ref p5), some (.ref wa), y7, some (.ref ag), y9, none, none, none] ∧ StoreOk S H' ∧ Ex (fun q => q ∉ ps) H19 H') ?_ ?_
                · walk_at "rdF"
                  refine ⟨tp, rfl, ⟨_, st_of htp⟩, L2.for_tup (xs := ps.map V.ref) (fun jj σ' H' => ∃ y9, σ' = [some (.ref sa), some (.ref S.1), some (.ref p), some (.ref p6), some (.ref tp), some (.ref p5), some (.ref wa), y7, some (.ref ag), y9, none, none, none] ∧ StoreOk S H' ∧ Ex (fun q => q ∉ ps) H19 H' ∧ ∀ p ∈ ps, ∃ (x : Str) (y : V), H' p = some (.lst [.str x, y]) ∧ NI y) ⟨_, rfl, hS19, .refl, fun p hp => (hps p hp).2⟩ (fun jj σ' H' _ hh => ?_) ?_ ?_⟩
                  · obtain ⟨_, _, _, ex, _⟩ := hh
                    exact st_of (ex.keep _ _ tpn htp)
                  · rintro jj v σ' H' hv ⟨y9, rfl, okJ, exJ, hJ⟩
                    obtain ⟨q, hq, rfl⟩ := List.mem_map.mp (List.mem_of_getElem? hv)
                    obtain ⟨x, y, hqq, ny⟩ := hJ q hq
                    walk_at "rdF"
                    refine ⟨sz (by simp), fun r1 nr1 => ?_⟩
                    have sr := same_new (o := .lst [V.int 5, .int (-5)]) nr1
                    have hr1 := @upd_same H' r1 (.lst [V.int 5, .int (-5)])
                    generalize upd H' r1 (.lst [V.int 5, .int (-5)]) = H1 at *
                    walk_at "rdF"
                    refine rd_ixQL (sr _ _ hqq) (atI_nat (i := 1) rfl) ?_
                    walk_at "rdF"
                    refine rd_eqN ny (.inr ⟨5, rfl⟩) ?_
                    walk_at "rdF"
                    refine .inr ⟨_, rfl, ?_⟩
                    have fin : ∀ z, NI z → StoreOk S (upd H1 q (.lst [.str x, z])) ∧ Ex (fun q => q ∉ ps) H19 (upd H1 q (.lst [.str x, z])) ∧ ∀ p ∈ ps, ∃ (x' : Str) (y' : V), upd H1 q (.lst [.str x, z]) p = some (.lst [.str x', y']) ∧ NI y' := fun z hz => by
                      have h1q := sr _ _ hqq
                      refine ⟨store_upd (okJ.same sr) (psS q hq).1 (psS q hq).2, (exJ.trans (.same sr)).mutU (fun c => c hq) (by rw [h1q]; simp), fun u hu => ?_⟩
                      by_cases c : u = q
                      · rw [c]; exact ⟨_, _, upd_same, hz⟩
                      · obtain ⟨x', y', h', n'⟩ := hJ u hu
                        exact ⟨x', y', by rw [upd_ne c]; exact sr _ _ h', n'⟩
                    by_cases c : y = .int 5
                    · rw [decide_eq_true c]
                      refine rd_ixQL hr1 (atI_nat (i := 1) rfl) ?_
                      walk_at "rdF"
                      refine rd_setL (sr _ _ hqq) (j := 1) rfl ?_
                      walk_at "rdF"
                      exact ⟨_, rfl, fin _ (.inr ⟨_, rfl⟩)⟩
                    · rw [decide_eq_false c]
                      refine rd_ixQL hr1 (atI_nat (i := 0) rfl) ?_
                      walk_at "rdF"
                      refine rd_setL (sr _ _ hqq) (j := 1) rfl ?_
                      walk_at "rdF"
                      exact ⟨_, rfl, fin _ (.inr ⟨_, rfl⟩)⟩
                  · rintro σ' H' ⟨y9, rfl, okJ, exJ, _⟩
                    exact ⟨_, rfl, okJ, exJ⟩
                · rintro σ20 H20 ⟨y9, rfl, hS20, e20⟩
                  walk_at "rdF"
                  obtain ⟨qs, rfl, hqs18⟩ := inner5 hacc'
                  have c1820 : ∀ q o, H16 q = none → H18 q = some o → H20 q = some o := fun q o u e => e20.keep q o (fun hc => ps16 q hc u) (s19 _ _ e)
                  have hp5n : H16 p5 = none := g17.ex.dom _ n5
                  have hp20 := c1820 _ _ hp5n hp5
                  have hqs : ∀ q ∈ qs, (H16 q = none ∧ q ≠ p5) ∧ ∃ a b c d e : V, H20 q = some (.lst [a, b, c, d, e]) := fun q hq => by
                    obtain ⟨u, a, b, c, d, e, h⟩ := hqs18 q hq
                    exact ⟨u, a, b, c, d, e, c1820 _ _ u.1 h⟩
                  have qs18 : ∀ q ∈ qs, H18 q ≠ none := fun q hq c => by
                    obtain ⟨u, _, _, _, _, _, h⟩ := hqs18 q hq
                    rw [h] at c; cases c
                  have p5n : p5 ∉ qs := fun hc => (hqs p5 hc).1.2 rfl
                  have qsS : ∀ q ∈ qs, q ≠ S.1 ∧ q ≠ S.2 := fun q hq => ⟨hS16.ne1 (hqs q hq).1.1, hS16.ne2 (hqs q hq).1.1⟩
                  refine rd_cut (fun σ' H' => ∃ y9 y10, σ' = [some (.ref sa), some (.ref S.1), some (.ref p), some (.ref p6), some (.ref tp), some (.ref p5), some (.ref wa), y7, some (.ref ag), y9, y10, none, none] ∧ StoreOk S H' ∧ Ex (fun q => q ∉ qs) H20 H') ?_ ?_
                  · walk_at "rdF"
                    refine ⟨p5, rfl, ⟨_, sl_of hp20⟩, L2.for_list (xs := qs.map V.ref) (fun jj σ' H' => ∃ y9 y10, σ' = [some (.ref sa), some (.ref S.1), some (.ref p), some (.ref p6), some (.ref tp), some (.ref p5), some (.ref wa), y7, some (.ref ag), y9, y10, none, none] ∧ StoreOk S H' ∧ Ex (fun q => q ∉ qs) H20 H' ∧ ∀ q ∈ qs, ∃ a b c d e : V, H' q = some (.lst [a, b, c, d, e])) ⟨_, _, rfl, hS20, .refl, fun q hq => (hqs q hq).2⟩ (fun jj σ' H' _ hh => ?_) ?_ ?_⟩
                    · obtain ⟨_, _, _, _, ex, _⟩ := hh
                      exact sl_of (ex.keep _ _ p5n hp20)
                    · rintro jj v σ' H' hv ⟨y9, y10, rfl, okJ, exJ, hJ⟩
                      obtain ⟨q, hq, rfl⟩ := List.mem_map.mp (List.mem_of_getElem? hv)
                      obtain ⟨a, b, c, d, e, hqq⟩ := hJ q hq
                      walk_at "rdF"
                      refine rd_setL hqq (j := 0) rfl ?_
                      walk_at "rdF"
                      refine ⟨_, _, rfl, store_upd okJ (qsS q hq).1 (qsS q hq).2, exJ.mutU (fun c => c hq) (by rw [hqq]; simp), fun u hu => ?_⟩
                      by_cases c : u = q
                      · rw [c]; exact ⟨_, _, _, _, _, upd_same⟩
                      · obtain ⟨a', b', c', d', e', h'⟩ := hJ u hu
                        exact ⟨a', b', c', d', e', by rw [upd_ne c]; exact h'⟩
                    · rintro σ' H' ⟨y9, y10, rfl, okJ, exJ, _⟩
                      exact ⟨_, _, rfl, okJ, exJ⟩
                  · rintro σ21 H21 ⟨y9, y10, rfl, hS21, e21⟩
                    -- what lay before the two loops lies there still
                    have t13 : ∀ q o, (q ≠ S.1 ∧ q ≠ np ∧ q ≠ ep) → H13 q = some o → US S q ∧ H21 q = some o := fun q o u e => by
                      have h16 := e16.keep q o u.1 e
                      have h19 := c1619 q o u.1 h16
                      have h20 := e20.keep q o (fun hc => by rw [(hps q hc).1] at e; cases e) h19
                      exact ⟨u.1, e21.keep q o (fun hc => by rw [(hqs q hc).1.1] at h16; cases h16) h20⟩
                    have kv21 : RS S H21 (.ref p) (planD L B [.list (ns.map PyData.int)]) := kv13.to t13
                    have kl21 : RS S H21 (.ref p6) (.list ((m1 :: m2 :: ns).map PyData.int)) := (kl12.ex e13).to t13
                    have ww21 : WebV (US S) C CS H21 wa (sortL L) (sortB B) := (ww12.ex e13).to t13
                    have ag21 : WebV (fun _ => True) C CS H21 ag (sortL L) (sortB B) := hag.to fun q o u e => ⟨trivial, by
                      have h20 := e20.keep q o (fun hc => by
                        have : H18 q ≠ none := fun c => ps16 q hc (g18.ex.dom _ c)
                        exact this u) e
                      exact e21.keep q o (fun hc => qs18 q hc u) h20⟩
                    have tp21 : ∃ xs, H21 tp = some (.tup xs) := ⟨_, e21.keep _ _ (fun hc => by
                      have := (hqs tp hc).1.1
                      rw [htp16] at this; cases this) (e20.keep _ _ tpn htp)⟩
                    clear t13 hqs hqs18 qs18 p5n qsS hp20 hp5n c1820
                    walk_at "rdF"
                    refine rd_cut (fun σ' H' => ∃ y9 y10, σ' = [some (.ref sa), some (.ref S.1), some (.ref p), some (.ref p6), some (.ref tp), some (.ref p5), some (.ref wa), y7, some (.ref ag), y9, y10, none, none] ∧ Same H21 H') ?_ ?_
                    · walk_at "rdF"
                      refine ⟨wa, _, _, L, B, _, _, rfl, ⟨_, ww21⟩, kv21.less fun _ _ => trivial, rt, kl21.less fun _ _ => trivial, hns, by simp; omega, fun H22 s22 => ?_⟩
                      walk_at "rdF"
                      refine ⟨ag, _, _, L, B, _, _, rfl, ⟨_, ag21.same s22⟩, (kv21.same s22).less fun _ _ => trivial, rt, (kl21.same s22).less fun _ _ => trivial, hns, by simp; omega, fun H23 s23 => ?_⟩
                      walk_at "rdF"
                      exact ⟨_, _, rfl, s22.trans s23⟩
                    · rintro σ22 H22 ⟨y9, y10, rfl, s22⟩
                      have hS22 := hS21.same s22
                      replace kv21 := kv21.same s22
                      replace kl21 := kl21.same s22
                      replace ww21 := ww21.same s22
                      replace ag21 := ag21.same s22
                      obtain ⟨xt, htp22⟩ := tp21
                      replace htp22 := s22 _ _ htp22
                      walk_at "rdF"
                      obtain ⟨dx, c0, b0, f0, t0, oc, oe', os, gg, qq, ua, ha22, _⟩ := ww21.at_.ex
                      obtain ⟨dy, c1, b1, f1, t1, od, of, ot, gh, qr, ub, hb22, _⟩ := ag21.at_.ex
                      refine rd_cut (fun σ' H' => ∃ y9 y10, σ' = [some (.ref sa), some (.ref S.1), some (.ref p), some (.ref p6), some (.ref tp), some (.ref p5), some (.ref wa), y7, some (.ref ag), y9, y10, none, none] ∧ Same H22 H') ?_ ?_
                      · walk_at "rdF"
                        refine ⟨wa, dx, _, rfl, ha22, .ins hb22, _, wa, _, _, _, rfl, ww21, .inl ⟨_, ag, _, _, rfl, ag21, _, rfl, ?_⟩⟩
                        walk_at "rdF"
                        refine ⟨ag, dy, _, rfl, hb22, .ins ha22, _, ag, _, _, _, rfl, ag21, .inl ⟨_, wa, _, _, rfl, ww21, _, rfl, ?_⟩⟩
                        walk_at "rdF"
                        refine ⟨wa, dx, _, rfl, ha22, .tup htp22, _, wa, _, _, _, rfl, ww21, .inr ⟨.inr ⟨_, _, rfl, htp22⟩, _, rfl, ?_⟩⟩
                        walk_at "rdF"
                        refine ⟨wa, dx, _, rfl, ha22, .str _, _, wa, _, _, _, rfl, ww21, .inr ⟨.inl ⟨_, rfl⟩, _, rfl, ?_⟩⟩
                        walk_at "rdF"
                        rw [show (decide (sortL L = sortL L) && decide (sortB B = sortB B)) = true by rw [dec_refl, dec_refl]; rfl]
                        refine ⟨sz (by simp), fun a1 n1 => ?_⟩
                        obtain ⟨u1, r1⟩ := new_lst (U := fun _ => True) (vs := [V.bl true, .bl true, .bl false, .bl false]) (ds := [.bool true, .bool true, .bool false, .bool false]) n1 trivial (.cons (.bl _) (.cons (.bl _) (.cons (.bl _) (.cons (.bl _) .nil))))
                        generalize upd H22 a1 (.lst [V.bl true, .bl true, .bl false, .bl false]) = H1 at *
                        walk_at "rdF"
                        refine ⟨sz (by simp), fun a2 n2 => ?_⟩
                        obtain ⟨u2, r2⟩ := new_lst (U := fun _ => True) (vs := [V.bl true, .bl true, .bl false, .bl false]) (ds := [.bool true, .bool true, .bool false, .bool false]) n2 trivial (.cons (.bl _) (.cons (.bl _) (.cons (.bl _) (.cons (.bl _) .nil))))
                        generalize upd H1 a2 (.lst [V.bl true, .bl true, .bl false, .bl false]) = H2' at *
                        walk_at "rdF"
                        refine ⟨_, _, _, rfl, r1.same u2, r2, ⟨by simp, fun e he => ?_⟩, fun H3' u3 => ?_⟩
                        · simp at he
                          rcases he with rfl | rfl <;> exact okd_bool
                        walk_at "rdF"
                        exact ⟨_, _, rfl, (u1.trans u2).trans u3⟩
                      · rintro σ23 H23 ⟨y9, y10, rfl, s23⟩
                        have hS23 := hS22.same s23
                        replace kv21 := kv21.same s23
                        replace kl21 := kl21.same s23
                        replace ww21 := ww21.same s23
                        have rt0 := rt.noB
                        walk_at "rdF"
                        refine rd_cut (fun σ' H' => ∃ y9 y10, σ' = [some (.ref sa), some (.ref S.1), some (.ref p), some (.ref p6), some (.ref tp), some (.ref p5), some (.ref wa), y7, some (.ref ag), y9, y10, none, none] ∧ Same H23 H') ?_ ?_
                        · walk_at "rdF"
                          refine kv21.ixL (i := 0) rfl fun nv hnv => ?_
                          walk_at "rdF"
                          refine rep_len hnv rfl fun xs rx => ?_
                          intro l1 nl1
                          obtain ⟨u1, r1⟩ := new_lst (U := US S) nl1 (uS hS23 _ nl1) rx
                          have r1 : RS S (upd H23 l1 (.lst xs)) (.ref l1) (.list (L.map lampD)) := r1
                          generalize upd H23 l1 (.lst xs) = H1 at *
                          walk_at "rdF"
                          refine rd_webA (.inl r1) (U' := US S) (.inr ⟨rfl, te, rfl, em⟩) (rowsL rt.okL) (B := []) ⟨rfl, rfl, fun i e he => by cases he⟩ (by omega) (by simp) (fun _ bb H2' u2 nbb hbb => ?_) fun e he => (rt0.notWrong he).elim
                          walk_at "rdF"
                          refine (kv21.same (u1.trans u2)).ixL (i := 0) rfl fun nv2 hnv2 => ?_
                          walk_at "rdF"
                          refine ⟨sz (by simp), fun l2 nl2 => ?_⟩
                          obtain ⟨u3, r3⟩ := new_lst (U := fun _ => True) (vs := []) (ds := []) nl2 trivial .nil
                          generalize upd H2' l2 (.lst []) = H3' at *
                          walk_at "rdF"
                          refine ⟨sz (by simp), fun l3 nl3 => ?_⟩
                          obtain ⟨u4, r4⟩ := new_lst (U := fun _ => True) nl3 trivial (.cons (hnv2.same u3 |>.less fun _ _ => trivial) (.cons r3 .nil))
                          generalize upd H3' l3 (.lst [nv2, .ref l2]) = H4' at *
                          walk_at "rdF"
                          refine ⟨bb, _, L, [], [], rfl, ⟨_, hbb.same (u3.trans u4)⟩, r4, rt0, fun H5' u5 => ?_⟩
                          walk_at "rdF"
                          exact ⟨_, _, rfl, (((u1.trans u2).trans u3).trans u4).trans u5⟩
                        · rintro σ24 H24 ⟨y9, y10, rfl, s24⟩
                          have hS24 := hS23.same s24
                          replace kv21 := kv21.same s24
                          replace kl21 := kl21.same s24
                          replace ww21 := ww21.same s24
                          walk_at "rdF"
                          refine rd_cut (fun σ' H' => ∃ y11 y12, σ' = [some (.ref sa), some (.ref S.1), some (.ref p), some (.ref p6), some (.ref tp), some (.ref p5), some (.ref wa), y7, some (.ref ag), y9, y10, y11, y12] ∧ Gd S H24 H') ?_ ?_
                          · walk_at "rdF"
                            refine ⟨S, wa, _, L, B, ns, rfl, hS24, ww21, kv21, rt, pr, n2, n6, fun pl xs H1 g1 plS hpl hx lx => ?_⟩
                            have ww1 := ww21.ex g1.ex
                            have kv1 := kv21.ex g1.ex
                            walk_at "rdF"
                            refine ⟨pl, rfl, ⟨_, sl_of hpl⟩, L2.for_list (xs := xs) (fun jj σ' H' => ∃ y11 y12, σ' = [some (.ref sa), some (.ref S.1), some (.ref p), some (.ref p6), some (.ref tp), some (.ref p5), some (.ref wa), y7, some (.ref ag), y9, y10, y11, y12] ∧ Same H1 H') ⟨_, _, rfl, fun _ _ h => h⟩ (fun jj σ' H' _ hh => ?_) ?_ ?_⟩
                            · obtain ⟨_, _, _, sJ⟩ := hh
                              exact sl_of (sJ _ _ hpl)
                            · rintro jj v σ' H' hv ⟨y11, y12, rfl, sJ⟩
                              obtain ⟨pa, w2, q, L2, B2, rfl, _, hpa, hw2, hq2, rt2⟩ := (hx v (List.mem_of_getElem? hv)).ex
                              walk_at "rdF"
                              refine rd_ixQL (sJ _ _ hpa) (atI_nat (i := 1) rfl) ?_
                              walk_at "rdF"
                              refine ⟨q, L2, B2, [], rfl, (hq2.same sJ).less fun _ _ => trivial, rt2.dl, rt2.db, by have := rt2.l16; omega, fun r hr => (rt2.okB r hr).2, fun k1 H2' u2 nk1 r2 => ?_⟩
                              walk_at "rdF"
                              refine ⟨_, L, B, _, rfl, (kv1.same (sJ.trans u2)).less fun _ _ => trivial, rt.dl, rt.db, by omega, fun r hr => (rt.okB r hr).2, fun k2 H3' u3 nk2 r3 => ?_⟩
                              walk_at "rdF"
                              refine ⟨_, _, (r2.same u3).dp, r3.dp, (keptShp hw2.ok.rt).shaped (by omega), (keptShp ww21.ok.rt).shaped (by omega), ?_⟩
                              rw [kept_eq ww21.ok.rt hw2.ok.rt]
                              have sK := (sJ.trans u2).trans u3
                              walk_at "rdF"
                              refine rd_ixQL (sK _ _ hpa) (atI_nat (i := 0) rfl) ?_
                              walk_at "rdF"
                              refine rd_ixQL (sK _ _ hpa) (atI_nat (i := 1) rfl) ?_
                              walk_at "rdF"
                              refine ⟨w2, q, L2, B2, [], rfl, ⟨_, hw2.same sK⟩, (hq2.same sK).less fun _ _ => trivial, rt2, fun H4' u4 => ?_⟩
                              have sM := sK.trans u4
                              walk_at "rdF"
                              refine rd_ixQL (sM _ _ hpa) (atI_nat (i := 0) rfl) ?_
                              obtain ⟨dx, c0, b0, f0, t0, oc, oe', os, gg, qq, ua, haM, _⟩ := (ww1.same sM).at_.ex
                              obtain ⟨dy, c1, b1, f1, t1, od, of, ot, gh, qr, ub, hbM, _⟩ := (hw2.same sM).at_.ex
                              refine ⟨wa, dx, _, rfl, haM, .ins hbM, _, wa, _, _, _, rfl, ww1.same sM, .inl ⟨_, w2, _, _, rfl, hw2.same sM, _, rfl, ?_⟩⟩
                              walk_at "rdF"
                              refine ⟨_, _, .bool _, rfl, .bl _, .bl _, okd_bool, fun H5' u5 => ?_⟩
                              walk_at "rdF"
                              exact ⟨_, _, rfl, sM.trans u5⟩
                            · rintro σ' H' ⟨y11, y12, rfl, sJ⟩
                              exact ⟨_, _, rfl, g1.trans (.same g1.ok sJ)⟩
                          · rintro σ25 H25 ⟨y11, y12, rfl, g25⟩
                            walk_at "rdF"
                            refine ⟨S, wa, _, L, B, ns, rfl, g25.ok, ww21.ex g25.ex, kv21.ex g25.ex, rt, pr, pw, n2, n6, fun H26 g26 => ?_⟩
                            have gg := g25.trans g26
                            walk_at "rdF"
                            refine ⟨wa, _, _, L, B, _, _, rfl, ⟨_, ww21.ex gg.ex⟩, (kv21.ex gg.ex).less fun _ _ => trivial, rt, (kl21.ex gg.ex).less fun _ _ => trivial, hns, by simp; omega, fun H27 s27 => ?_⟩
                            walk_at "rdF"
                            exact h H27
end
theorem vals_rev : ∀ {vs : List V} {ws : List Value}, Vals vs ws → Vals vs.reverse ws.reverse
  | _, _, .nil => .nil
  | _, _, .cons a r => by
    rw [List.reverse_cons, List.reverse_cons]
    exact (vals_rev r).append (.cons a .nil)
theorem fund_mk {K : PySem.W.Frag} {x qual : Str} {st : Stmt} {f T : Addr} {dvs : List V} {its : List Value} {oc oT kV doc pm cdv ct : Value} {od an oD : Option Addr} {osl tsl : Array (Option Value)} {n : Nat} (hne : dvs ≠ []) (l : K.lookup f = some ⟨oc, od, .func (PySem.W.fnOf x qual (defArgs st) (defBody st) (defScope st) (.ref T) kV doc pm an cdv ct), osl⟩)
    (c : PySem.W.codeIn K cdv qual = true) (kp : PySem.W.keepIn K (.ref f) = true) (t : K.lookup T = some ⟨oT, oD, .seq its.toArray n, tsl⟩) (r : Vals dvs its) : FunD K x qual (defArgs st) (defBody st) (defScope st) dvs [] f (PySem.W.fnOf x qual (defArgs st) (defBody st) (defScope st) (.ref T) kV doc pm an cdv ct) :=
  ⟨⟨oc, od, .ref T, kV, doc, pm, an, cdv, ct, osl, rfl, l, c, .inr ⟨hne, T, _, its, n, rfl, t, rfl, r⟩, .inl rfl⟩, kp⟩
theorem kbn_of {K : PySem.W.Frag} {x qual : Str} {st : Stmt} {f : Addr} {fd : FuncData} {ps ks : List Str} {n : Nat} {g : List Value → List Value → List Value} {gV : List V → List V → List V} (F : Fun K x qual st f fd)
    (rel : ∀ {vs : List V} {us : List Value} {zs : List V} {ws : List Value}, Vals vs us → Vals zs ws → Vals (gV vs zs) (g us ws))
    (h : ∀ (kV doc pm : Value) (an : Option Addr) (cdv ct : Value) (us ws : List Value), us.length = n → ws.length = ks.length → bindArgs (PySem.W.fnOf x qual (defArgs st) (defBody st) (defScope st) .none kV doc pm an cdv ct) ⟨us, ks.zip ws⟩ = pure (ps.zip (g us ws))) : KBn K fd ps n ks g gV := by
  obtain ⟨oc, od, kV, doc, pm, an, cdv, ct, osl, rfl, lk, hcd⟩ := F.ex
  exact ⟨fun s us ws X l1 l2 => .of_eq (h kV doc pm an cdv ct us ws l1 l2), rel⟩
theorem fund_kw {K : PySem.W.Frag} {x qual : Str} {st : Stmt} {f D : Addr} {kws : List (Str × V)} {oc doc pm cdv ct : Value} {od an : Option Addr} {osl : Array (Option Value)} (hne : kws ≠ []) (l : K.lookup f = some ⟨oc, od, .func (PySem.W.fnOf x qual (defArgs st) (defBody st) (defScope st) .none (.ref D) doc pm an cdv ct), osl⟩)
    (c : PySem.W.codeIn K cdv qual = true) (kp : PySem.W.keepIn K (.ref f) = true) (h : ∀ q ∈ kws, ∃ u, PySem.W.nsIn K D q.1 = some (some u) ∧ RelV q.2 u) : FunD K x qual (defArgs st) (defBody st) (defScope st) [] kws f (PySem.W.fnOf x qual (defArgs st) (defBody st) (defScope st) .none (.ref D) doc pm an cdv ct) :=
  ⟨⟨oc, od, .none, .ref D, doc, pm, an, cdv, ct, osl, rfl, l, c, .inl ⟨rfl, rfl⟩, .inr ⟨D, rfl, h⟩⟩, kp⟩
set_option maxHeartbeats 0 in
theorem all_mk {l : PySem.W.OpenLaw} {w : World} {K : PySem.W.Frag} {h : Heap} {mg : Str → Option Value} {fa : Addr} {CN fCN : Addr} {nmCN qCN : Str} {NCN : Addr} {bsCN bmCN : List Value} {snCN : List Str} {subCN : List Value} {abCN : Bool} {colCN : Option Bool} {ddCN : Option Addr} {m0CN m1CN m2CN m3CN m5CN : Option Value} {odCN anCN : Option Addr} {slCN : Array (Option Value)} {ocCN kVCN dcCN pmCN cdCN ctCN : Value} {CE fCE : Addr} {nmCE qCE : Str} {NCE : Addr} {bsCE bmCE : List Value} {snCE : List Str} {subCE : List Value} {abCE : Bool} {colCE : Option Bool} {ddCE : Option Addr} {m0CE m1CE m2CE m3CE m5CE : Option Value} {odCE anCE : Option Addr} {slCE : Array (Option Value)} {ocCE kVCE dcCE pmCE cdCE ctCE : Value} {CB fCB : Addr} {nmCB qCB : Str} {NCB : Addr} {bsCB bmCB : List Value} {snCB : List Str} {subCB : List Value} {abCB : Bool} {colCB : Option Bool} {ddCB : Option Addr} {m0CB m1CB m2CB m3CB m5CB : Option Value} {odCB anCB : Option Addr} {slCB : Array (Option Value)} {ocCB kVCB dcCB pmCB cdCB ctCB : Value} {CD fCD : Addr} {nmCD qCD : Str} {NCD : Addr} {bsCD bmCD : List Value} {snCD : List Str} {subCD : List Value} {abCD : Bool} {colCD : Option Bool} {ddCD : Option Addr} {m0CD m1CD m2CD m3CD m5CD : Option Value} {odCD anCD : Option Addr} {slCD : Array (Option Value)} {ocCD kVCD dcCD pmCD cdCD ctCD : Value} {CF fCF : Addr} {nmCF qCF : Str} {NCF : Addr} {bsCF bmCF : List Value} {snCF : List Str} {subCF : List Value} {abCF : Bool} {colCF : Option Bool} {ddCF : Option Addr} {m0CF m1CF m2CF m3CF m5CF : Option Value} {odCF anCF : Option Addr} {slCF : Array (Option Value)} {ocCF kVCF dcCF pmCF cdCF ctCF : Value} {CU fCU : Addr} {nmCU qCU : Str} {NCU : Addr} {bsCU bmCU : List Value} {snCU : List Str} {subCU : List Value} {abCU : Bool} {colCU : Option Bool} {ddCU : Option Addr} {m0CU m1CU m2CU m3CU m5CU : Option Value} {odCU anCU : Option Addr} {slCU : Array (Option Value)} {ocCU kVCU dcCU pmCU cdCU ctCU : Value} {CR fCR : Addr} {nmCR qCR : Str} {NCR : Addr} {bsCR bmCR : List Value} {snCR : List Str} {subCR : List Value} {abCR : Bool} {colCR : Option Bool} {ddCR : Option Addr} {m0CR m1CR m2CR m3CR m5CR : Option Value} {odCR anCR : Option Addr} {slCR : Array (Option Value)} {ocCR kVCR dcCR pmCR cdCR ctCR : Value} {cO : Addr} {f0 : Addr} {od0 an0 : Option Addr} {sl0 : Array (Option Value)} {oc0 kV0 dc0 pm0 cd0 ct0 : Value} {f1 : Addr} {od1 an1 : Option Addr} {sl1 : Array (Option Value)} {oc1 kV1 dc1 pm1 cd1 ct1 : Value} {f2 : Addr} {od2 an2 : Option Addr} {sl2 : Array (Option Value)} {oc2 kV2 dc2 pm2 cd2 ct2 : Value} {f3 : Addr} {od3 an3 : Option Addr} {sl3 : Array (Option Value)} {oc3 kV3 dc3 pm3 cd3 ct3 : Value} {f4 : Addr} {od4 an4 : Option Addr} {sl4 : Array (Option Value)} {oc4 kV4 dc4 pm4 cd4 ct4 : Value} {CS : Addr} {f5 : Addr} {od5 an5 : Option Addr} {sl5 : Array (Option Value)} {oc5 kV5 dc5 pm5 cd5 ct5 : Value} {T5 : Addr} {oT5 : Value} {oD5 : Option Addr} {nT5 : Nat} {tS5 : Array (Option Value)} {f6 : Addr} {od6 an6 : Option Addr} {sl6 : Array (Option Value)} {oc6 kV6 dc6 pm6 cd6 ct6 : Value} {f7 : Addr} {od7 an7 : Option Addr} {sl7 : Array (Option Value)} {oc7 kV7 dc7 pm7 cd7 ct7 : Value} {f8 : Addr} {od8 an8 : Option Addr} {sl8 : Array (Option Value)} {oc8 kV8 dc8 pm8 cd8 ct8 : Value} {f9 : Addr} {od9 an9 : Option Addr} {sl9 : Array (Option Value)} {oc9 kV9 dc9 pm9 cd9 ct9 : Value} {f10 : Addr} {od10 an10 : Option Addr} {sl10 : Array (Option Value)} {oc10 kV10 dc10 pm10 cd10 ct10 : Value} {f11 : Addr} {od11 an11 : Option Addr} {sl11 : Array (Option Value)} {oc11 kV11 dc11 pm11 cd11 ct11 : Value} {f12 : Addr} {od12 an12 : Option Addr} {sl12 : Array (Option Value)} {oc12 kV12 dc12 pm12 cd12 ct12 : Value} {f13 : Addr} {od13 an13 : Option Addr} {sl13 : Array (Option Value)} {oc13 kV13 dc13 pm13 cd13 ct13 : Value} {f14 : Addr} {od14 an14 : Option Addr} {sl14 : Array (Option Value)} {oc14 kV14 dc14 pm14 cd14 ct14 : Value} {CW : Addr} {te : Addr} {oDe : Option Addr} {nTe : Nat} {tSe : Array (Option Value)} {f15 : Addr} {od15 an15 : Option Addr} {sl15 : Array (Option Value)} {oc15 kV15 dc15 pm15 cd15 ct15 : Value} {T15 : Addr} {oT15 : Value} {oD15 : Option Addr} {nT15 : Nat} {tS15 : Array (Option Value)} {pq16 : Addr} {pr16 : List Value} {f16 : Addr} {od16 an16 : Option Addr} {sl16 : Array (Option Value)} {oc16 kV16 dc16 pm16 cd16 ct16 : Value} {pq17 : Addr} {pr17 : List Value} {f17 : Addr} {od17 an17 : Option Addr} {sl17 : Array (Option Value)} {oc17 kV17 dc17 pm17 cd17 ct17 : Value} {pq18 : Addr} {pr18 : List Value} {f18 : Addr} {od18 an18 : Option Addr} {sl18 : Array (Option Value)} {oc18 kV18 dc18 pm18 cd18 ct18 : Value} {pq19 : Addr} {pr19 : List Value} {f19 : Addr} {od19 an19 : Option Addr} {sl19 : Array (Option Value)} {oc19 kV19 dc19 pm19 cd19 ct19 : Value} {f20 : Addr} {od20 an20 : Option Addr} {sl20 : Array (Option Value)} {oc20 kV20 dc20 pm20 cd20 ct20 : Value} {f21 : Addr} {od21 an21 : Option Addr} {sl21 : Array (Option Value)} {oc21 kV21 dc21 pm21 cd21 ct21 : Value} {f22 : Addr} {od22 an22 : Option Addr} {sl22 : Array (Option Value)} {oc22 kV22 dc22 pm22 cd22 ct22 : Value} {f23 : Addr} {od23 an23 : Option Addr} {sl23 : Array (Option Value)} {oc23 kV23 dc23 pm23 cd23 ct23 : Value} {f24 : Addr} {od24 an24 : Option Addr} {sl24 : Array (Option Value)} {oc24 kV24 dc24 pm24 cd24 ct24 : Value} {f25 : Addr} {od25 an25 : Option Addr} {sl25 : Array (Option Value)} {oc25 kV25 dc25 pm25 cd25 ct25 : Value} {f26 : Addr} {od26 an26 : Option Addr} {sl26 : Array (Option Value)} {oc26 kV26 dc26 pm26 cd26 ct26 : Value} {f27 : Addr} {od27 an27 : Option Addr} {sl27 : Array (Option Value)} {oc27 kV27 dc27 pm27 cd27 ct27 : Value} {f28 : Addr} {od28 an28 : Option Addr} {sl28 : Array (Option Value)} {oc28 kV28 dc28 pm28 cd28 ct28 : Value} {f29 : Addr} {od29 an29 : Option Addr} {sl29 : Array (Option Value)} {oc29 kV29 dc29 pm29 cd29 ct29 : Value} {f30 : Addr} {od30 an30 : Option Addr} {sl30 : Array (Option Value)} {oc30 kV30 dc30 pm30 cd30 ct30 : Value} {f31 : Addr} {od31 an31 : Option Addr} {sl31 : Array (Option Value)} {oc31 kV31 dc31 pm31 cd31 ct31 : Value} {f32 : Addr} {od32 an32 : Option Addr} {sl32 : Array (Option Value)} {oc32 kV32 dc32 pm32 cd32 ct32 : Value} {f33 D33 : Addr} {od33 an33 : Option Addr} {sl33 : Array (Option Value)} {oc33 dc33 pm33 cd33 ct33 : Value} {f34 : Addr} {od34 an34 : Option Addr} {sl34 : Array (Option Value)} {oc34 kV34 dc34 pm34 cd34 ct34 : Value} {f35 : Addr} {od35 an35 : Option Addr} {sl35 : Array (Option Value)} {oc35 kV35 dc35 pm35 cd35 ct35 : Value} {f36 : Addr} {od36 an36 : Option Addr} {sl36 : Array (Option Value)} {oc36 kV36 dc36 pm36 cd36 ct36 : Value} {f37 : Addr} {od37 an37 : Option Addr} {sl37 : Array (Option Value)} {oc37 kV37 dc37 pm37 cd37 ct37 : Value} {f38 : Addr} {od38 an38 : Option Addr} {sl38 : Array (Option Value)} {oc38 kV38 dc38 pm38 cd38 ct38 : Value} {f39 : Addr} {od39 an39 : Option Addr} {sl39 : Array (Option Value)} {oc39 kV39 dc39 pm39 cd39 ct39 : Value} {f40 : Addr} {od40 an40 : Option Addr} {sl40 : Array (Option Value)} {oc40 kV40 dc40 pm40 cd40 ct40 : Value} {f41 : Addr} {od41 an41 : Option Addr} {sl41 : Array (Option Value)} {oc41 kV41 dc41 pm41 cd41 ct41 : Value} {f42 : Addr} {od42 an42 : Option Addr} {sl42 : Array (Option Value)} {oc42 kV42 dc42 pm42 cd42 ct42 : Value} {f43 : Addr} {od43 an43 : Option Addr} {sl43 : Array (Option Value)} {oc43 kV43 dc43 pm43 cd43 ct43 : Value} {f44 : Addr} {od44 an44 : Option Addr} {sl44 : Array (Option Value)} {oc44 kV44 dc44 pm44 cd44 ct44 : Value} {f45 : Addr} {od45 an45 : Option Addr} {sl45 : Array (Option Value)} {oc45 kV45 dc45 pm45 cd45 ct45 : Value} {f46 : Addr} {od46 an46 : Option Addr} {sl46 : Array (Option Value)} {oc46 kV46 dc46 pm46 cd46 ct46 : Value} {f47 : Addr} {od47 an47 : Option Addr} {sl47 : Array (Option Value)} {oc47 kV47 dc47 pm47 cd47 ct47 : Value} {f48 : Addr} {od48 an48 : Option Addr} {sl48 : Array (Option Value)} {oc48 kV48 dc48 pm48 cd48 ct48 : Value} {f49 : Addr} {od49 an49 : Option Addr} {sl49 : Array (Option Value)} {oc49 kV49 dc49 pm49 cd49 ct49 : Value} {f50 : Addr} {od50 an50 : Option Addr} {sl50 : Array (Option Value)} {oc50 kV50 dc50 pm50 cd50 ct50 : Value} {f51 : Addr} {od51 an51 : Option Addr} {sl51 : Array (Option Value)} {oc51 kV51 dc51 pm51 cd51 ct51 : Value} {f52 : Addr} {od52 an52 : Option Addr} {sl52 : Array (Option Value)} {oc52 kV52 dc52 pm52 cd52 ct52 : Value} {f53 : Addr} {od53 an53 : Option Addr} {sl53 : Array (Option Value)} {oc53 kV53 dc53 pm53 cd53 ct53 : Value} {f54 : Addr} {od54 an54 : Option Addr} {sl54 : Array (Option Value)} {oc54 kV54 dc54 pm54 cd54 ct54 : Value} {f55 : Addr} {od55 an55 : Option Addr} {sl55 : Array (Option Value)} {oc55 kV55 dc55 pm55 cd55 ct55 : Value} {f56 : Addr} {od56 an56 : Option Addr} {sl56 : Array (Option Value)} {oc56 kV56 dc56 pm56 cd56 ct56 : Value} {f57 : Addr} {od57 an57 : Option Addr} {sl57 : Array (Option Value)} {oc57 kV57 dc57 pm57 cd57 ct57 : Value} {f58 : Addr} {od58 an58 : Option Addr} {sl58 : Array (Option Value)} {oc58 kV58 dc58 pm58 cd58 ct58 : Value} {f59 : Addr} {od59 an59 : Option Addr} {sl59 : Array (Option Value)} {oc59 kV59 dc59 pm59 cd59 ct59 : Value} {f60 : Addr} {od60 an60 : Option Addr} {sl60 : Array (Option Value)} {oc60 kV60 dc60 pm60 cd60 ct60 : Value} {f61 : Addr} {od61 an61 : Option Addr} {sl61 : Array (Option Value)} {oc61 kV61 dc61 pm61 cd61 ct61 : Value} {f62 : Addr} {od62 an62 : Option Addr} {sl62 : Array (Option Value)} {oc62 kV62 dc62 pm62 cd62 ct62 : Value}
    (X : K.In h) (G : h.Ns mainGlobals mg) (hfa : mg "law" = some (.ref fa))
    (gCN : PySem.W.nsIn K mainGlobals "BadName" = some (some (.ref CN)))
    (xCN : K.lookup CN = some (excClassObj nmCN qCN CN NCN bsCN bmCN true snCN subCN abCN colCN ddCN m0CN m1CN m2CN m3CN m5CN "ValueError.__new__"))
    (rCN : PySem.HandSPX.refsVE bmCN = true)
    (saCN : PySem.W.findIn K (.ref CN) "__setattr__" = some (some (.builtin "object.__setattr__")))
    (gaCN : PySem.W.findIn K (.ref CN) "__getattribute__" = some (some (.builtin "BaseException.__getattribute__")))
    (ggCN : PySem.W.findIn K (.ref CN) "__getattr__" = some none)
    (nfCNname : PySem.W.findIn K (.ref CN) "name" = some none)
    (kpCN : PySem.W.keepIn K (.ref CN) = true)
    (exCN : PySem.W.subIn K (.ref CN) (.type "BaseException") = some true)
    (tyCN : PySem.W.typeIn K (.ref CN) = some (.type "type"))
    (hdCN : PySem.W.hasDictIn K CN = true)
    (haCN : PySem.W.findIn K (.ref CN) "__class__" = some (some (.builtin "object.__class__")))
    (hnCN : PySem.W.specialIn K (.builtin "object.__class__") "__get__" = some (some (.builtin "getset_descriptor.__get__")))
    (htCN : PySem.W.takesIn K (.builtin "object.__class__") = some true)
    (hmCN : PySem.W.mroIn K CN (.type "object") = some true)
    (suCN : PySem.W.subIn K (.ref CN) (.ref CN) = some true)
    (iCN : PySem.W.findIn K (.ref CN) "__init__" = some (some (.ref fCN)))
    (tiCN : PySem.W.typeIn K (.ref fCN) = some (.type "function"))
    (lCN : K.lookup fCN = some ⟨ocCN, odCN, .func (PySem.W.fnOf "__init__" "BadName.__init__" (defArgs sBadName___init__) (defBody sBadName___init__) (defScope sBadName___init__) .none kVCN dcCN pmCN anCN cdCN ctCN), slCN⟩)
    (cCN : PySem.W.codeIn K cdCN "BadName.__init__" = true)
    (kCN : PySem.W.keepIn K (.ref fCN) = true)
    (gCE : PySem.W.nsIn K mainGlobals "BadNumber" = some (some (.ref CE)))
    (xCE : K.lookup CE = some (excClassObj nmCE qCE CE NCE bsCE bmCE true snCE subCE abCE colCE ddCE m0CE m1CE m2CE m3CE m5CE "ValueError.__new__"))
    (rCE : PySem.HandSPX.refsVE bmCE = true)
    (saCE : PySem.W.findIn K (.ref CE) "__setattr__" = some (some (.builtin "object.__setattr__")))
    (gaCE : PySem.W.findIn K (.ref CE) "__getattribute__" = some (some (.builtin "BaseException.__getattribute__")))
    (ggCE : PySem.W.findIn K (.ref CE) "__getattr__" = some none)
    (nfCEnumber : PySem.W.findIn K (.ref CE) "number" = some none)
    (kpCE : PySem.W.keepIn K (.ref CE) = true)
    (exCE : PySem.W.subIn K (.ref CE) (.type "BaseException") = some true)
    (tyCE : PySem.W.typeIn K (.ref CE) = some (.type "type"))
    (hdCE : PySem.W.hasDictIn K CE = true)
    (haCE : PySem.W.findIn K (.ref CE) "__class__" = some (some (.builtin "object.__class__")))
    (hnCE : PySem.W.specialIn K (.builtin "object.__class__") "__get__" = some (some (.builtin "getset_descriptor.__get__")))
    (htCE : PySem.W.takesIn K (.builtin "object.__class__") = some true)
    (hmCE : PySem.W.mroIn K CE (.type "object") = some true)
    (suCE : PySem.W.subIn K (.ref CE) (.ref CE) = some true)
    (iCE : PySem.W.findIn K (.ref CE) "__init__" = some (some (.ref fCE)))
    (tiCE : PySem.W.typeIn K (.ref fCE) = some (.type "function"))
    (lCE : K.lookup fCE = some ⟨ocCE, odCE, .func (PySem.W.fnOf "__init__" "BadNumber.__init__" (defArgs sBadNumber___init__) (defBody sBadNumber___init__) (defScope sBadNumber___init__) .none kVCE dcCE pmCE anCE cdCE ctCE), slCE⟩)
    (cCE : PySem.W.codeIn K cdCE "BadNumber.__init__" = true)
    (kCE : PySem.W.keepIn K (.ref fCE) = true)
    (gCB : PySem.W.nsIn K mainGlobals "BadSpan" = some (some (.ref CB)))
    (xCB : K.lookup CB = some (excClassObj nmCB qCB CB NCB bsCB bmCB true snCB subCB abCB colCB ddCB m0CB m1CB m2CB m3CB m5CB "ValueError.__new__"))
    (rCB : PySem.HandSPX.refsVE bmCB = true)
    (saCB : PySem.W.findIn K (.ref CB) "__setattr__" = some (some (.builtin "object.__setattr__")))
    (gaCB : PySem.W.findIn K (.ref CB) "__getattribute__" = some (some (.builtin "BaseException.__getattribute__")))
    (ggCB : PySem.W.findIn K (.ref CB) "__getattr__" = some none)
    (nfCBlow : PySem.W.findIn K (.ref CB) "low" = some none)
    (nfCBhigh : PySem.W.findIn K (.ref CB) "high" = some none)
    (kpCB : PySem.W.keepIn K (.ref CB) = true)
    (exCB : PySem.W.subIn K (.ref CB) (.type "BaseException") = some true)
    (tyCB : PySem.W.typeIn K (.ref CB) = some (.type "type"))
    (hdCB : PySem.W.hasDictIn K CB = true)
    (haCB : PySem.W.findIn K (.ref CB) "__class__" = some (some (.builtin "object.__class__")))
    (hnCB : PySem.W.specialIn K (.builtin "object.__class__") "__get__" = some (some (.builtin "getset_descriptor.__get__")))
    (htCB : PySem.W.takesIn K (.builtin "object.__class__") = some true)
    (hmCB : PySem.W.mroIn K CB (.type "object") = some true)
    (suCB : PySem.W.subIn K (.ref CB) (.ref CB) = some true)
    (iCB : PySem.W.findIn K (.ref CB) "__init__" = some (some (.ref fCB)))
    (tiCB : PySem.W.typeIn K (.ref fCB) = some (.type "function"))
    (lCB : K.lookup fCB = some ⟨ocCB, odCB, .func (PySem.W.fnOf "__init__" "BadSpan.__init__" (defArgs sBadSpan___init__) (defBody sBadSpan___init__) (defScope sBadSpan___init__) .none kVCB dcCB pmCB anCB cdCB ctCB), slCB⟩)
    (cCB : PySem.W.codeIn K cdCB "BadSpan.__init__" = true)
    (kCB : PySem.W.keepIn K (.ref fCB) = true)
    (gCD : PySem.W.nsIn K mainGlobals "Doubled" = some (some (.ref CD)))
    (xCD : K.lookup CD = some (excClassObj nmCD qCD CD NCD bsCD bmCD true snCD subCD abCD colCD ddCD m0CD m1CD m2CD m3CD m5CD "ValueError.__new__"))
    (rCD : PySem.HandSPX.refsVE bmCD = true)
    (saCD : PySem.W.findIn K (.ref CD) "__setattr__" = some (some (.builtin "object.__setattr__")))
    (gaCD : PySem.W.findIn K (.ref CD) "__getattribute__" = some (some (.builtin "BaseException.__getattribute__")))
    (ggCD : PySem.W.findIn K (.ref CD) "__getattr__" = some none)
    (nfCDname : PySem.W.findIn K (.ref CD) "name" = some none)
    (kpCD : PySem.W.keepIn K (.ref CD) = true)
    (exCD : PySem.W.subIn K (.ref CD) (.type "BaseException") = some true)
    (tyCD : PySem.W.typeIn K (.ref CD) = some (.type "type"))
    (hdCD : PySem.W.hasDictIn K CD = true)
    (haCD : PySem.W.findIn K (.ref CD) "__class__" = some (some (.builtin "object.__class__")))
    (hnCD : PySem.W.specialIn K (.builtin "object.__class__") "__get__" = some (some (.builtin "getset_descriptor.__get__")))
    (htCD : PySem.W.takesIn K (.builtin "object.__class__") = some true)
    (hmCD : PySem.W.mroIn K CD (.type "object") = some true)
    (suCD : PySem.W.subIn K (.ref CD) (.ref CD) = some true)
    (iCD : PySem.W.findIn K (.ref CD) "__init__" = some (some (.ref fCD)))
    (tiCD : PySem.W.typeIn K (.ref fCD) = some (.type "function"))
    (lCD : K.lookup fCD = some ⟨ocCD, odCD, .func (PySem.W.fnOf "__init__" "Doubled.__init__" (defArgs sDoubled___init__) (defBody sDoubled___init__) (defScope sDoubled___init__) .none kVCD dcCD pmCD anCD cdCD ctCD), slCD⟩)
    (cCD : PySem.W.codeIn K cdCD "Doubled.__init__" = true)
    (kCD : PySem.W.keepIn K (.ref fCD) = true)
    (gCF : PySem.W.nsIn K mainGlobals "SelfBond" = some (some (.ref CF)))
    (xCF : K.lookup CF = some (excClassObj nmCF qCF CF NCF bsCF bmCF true snCF subCF abCF colCF ddCF m0CF m1CF m2CF m3CF m5CF "ValueError.__new__"))
    (rCF : PySem.HandSPX.refsVE bmCF = true)
    (saCF : PySem.W.findIn K (.ref CF) "__setattr__" = some (some (.builtin "object.__setattr__")))
    (gaCF : PySem.W.findIn K (.ref CF) "__getattribute__" = some (some (.builtin "BaseException.__getattribute__")))
    (ggCF : PySem.W.findIn K (.ref CF) "__getattr__" = some none)
    (nfCFbond : PySem.W.findIn K (.ref CF) "bond" = some none)
    (kpCF : PySem.W.keepIn K (.ref CF) = true)
    (exCF : PySem.W.subIn K (.ref CF) (.type "BaseException") = some true)
    (tyCF : PySem.W.typeIn K (.ref CF) = some (.type "type"))
    (hdCF : PySem.W.hasDictIn K CF = true)
    (haCF : PySem.W.findIn K (.ref CF) "__class__" = some (some (.builtin "object.__class__")))
    (hnCF : PySem.W.specialIn K (.builtin "object.__class__") "__get__" = some (some (.builtin "getset_descriptor.__get__")))
    (htCF : PySem.W.takesIn K (.builtin "object.__class__") = some true)
    (hmCF : PySem.W.mroIn K CF (.type "object") = some true)
    (suCF : PySem.W.subIn K (.ref CF) (.ref CF) = some true)
    (iCF : PySem.W.findIn K (.ref CF) "__init__" = some (some (.ref fCF)))
    (tiCF : PySem.W.typeIn K (.ref fCF) = some (.type "function"))
    (lCF : K.lookup fCF = some ⟨ocCF, odCF, .func (PySem.W.fnOf "__init__" "SelfBond.__init__" (defArgs sSelfBond___init__) (defBody sSelfBond___init__) (defScope sSelfBond___init__) .none kVCF dcCF pmCF anCF cdCF ctCF), slCF⟩)
    (cCF : PySem.W.codeIn K cdCF "SelfBond.__init__" = true)
    (kCF : PySem.W.keepIn K (.ref fCF) = true)
    (gCU : PySem.W.nsIn K mainGlobals "Unknown" = some (some (.ref CU)))
    (xCU : K.lookup CU = some (excClassObj nmCU qCU CU NCU bsCU bmCU true snCU subCU abCU colCU ddCU m0CU m1CU m2CU m3CU m5CU "ValueError.__new__"))
    (rCU : PySem.HandSPX.refsVE bmCU = true)
    (saCU : PySem.W.findIn K (.ref CU) "__setattr__" = some (some (.builtin "object.__setattr__")))
    (gaCU : PySem.W.findIn K (.ref CU) "__getattribute__" = some (some (.builtin "BaseException.__getattribute__")))
    (ggCU : PySem.W.findIn K (.ref CU) "__getattr__" = some none)
    (nfCUname : PySem.W.findIn K (.ref CU) "name" = some none)
    (kpCU : PySem.W.keepIn K (.ref CU) = true)
    (exCU : PySem.W.subIn K (.ref CU) (.type "BaseException") = some true)
    (tyCU : PySem.W.typeIn K (.ref CU) = some (.type "type"))
    (hdCU : PySem.W.hasDictIn K CU = true)
    (haCU : PySem.W.findIn K (.ref CU) "__class__" = some (some (.builtin "object.__class__")))
    (hnCU : PySem.W.specialIn K (.builtin "object.__class__") "__get__" = some (some (.builtin "getset_descriptor.__get__")))
    (htCU : PySem.W.takesIn K (.builtin "object.__class__") = some true)
    (hmCU : PySem.W.mroIn K CU (.type "object") = some true)
    (suCU : PySem.W.subIn K (.ref CU) (.ref CU) = some true)
    (iCU : PySem.W.findIn K (.ref CU) "__init__" = some (some (.ref fCU)))
    (tiCU : PySem.W.typeIn K (.ref fCU) = some (.type "function"))
    (lCU : K.lookup fCU = some ⟨ocCU, odCU, .func (PySem.W.fnOf "__init__" "Unknown.__init__" (defArgs sUnknown___init__) (defBody sUnknown___init__) (defScope sUnknown___init__) .none kVCU dcCU pmCU anCU cdCU ctCU), slCU⟩)
    (cCU : PySem.W.codeIn K cdCU "Unknown.__init__" = true)
    (kCU : PySem.W.keepIn K (.ref fCU) = true)
    (gCR : PySem.W.nsIn K mainGlobals "OutOfRange" = some (some (.ref CR)))
    (xCR : K.lookup CR = some (excClassObj nmCR qCR CR NCR bsCR bmCR true snCR subCR abCR colCR ddCR m0CR m1CR m2CR m3CR m5CR "ValueError.__new__"))
    (rCR : PySem.HandSPX.refsVE bmCR = true)
    (saCR : PySem.W.findIn K (.ref CR) "__setattr__" = some (some (.builtin "object.__setattr__")))
    (gaCR : PySem.W.findIn K (.ref CR) "__getattribute__" = some (some (.builtin "BaseException.__getattribute__")))
    (ggCR : PySem.W.findIn K (.ref CR) "__getattr__" = some none)
    (nfCRnumber : PySem.W.findIn K (.ref CR) "number" = some none)
    (nfCRlow : PySem.W.findIn K (.ref CR) "low" = some none)
    (nfCRhigh : PySem.W.findIn K (.ref CR) "high" = some none)
    (kpCR : PySem.W.keepIn K (.ref CR) = true)
    (exCR : PySem.W.subIn K (.ref CR) (.type "BaseException") = some true)
    (tyCR : PySem.W.typeIn K (.ref CR) = some (.type "type"))
    (hdCR : PySem.W.hasDictIn K CR = true)
    (haCR : PySem.W.findIn K (.ref CR) "__class__" = some (some (.builtin "object.__class__")))
    (hnCR : PySem.W.specialIn K (.builtin "object.__class__") "__get__" = some (some (.builtin "getset_descriptor.__get__")))
    (htCR : PySem.W.takesIn K (.builtin "object.__class__") = some true)
    (hmCR : PySem.W.mroIn K CR (.type "object") = some true)
    (suCR : PySem.W.subIn K (.ref CR) (.ref CR) = some true)
    (iCR : PySem.W.findIn K (.ref CR) "__init__" = some (some (.ref fCR)))
    (tiCR : PySem.W.typeIn K (.ref fCR) = some (.type "function"))
    (lCR : K.lookup fCR = some ⟨ocCR, odCR, .func (PySem.W.fnOf "__init__" "OutOfRange.__init__" (defArgs sOutOfRange___init__) (defBody sOutOfRange___init__) (defScope sOutOfRange___init__) .none kVCR dcCR pmCR anCR cdCR ctCR), slCR⟩)
    (cCR : PySem.W.codeIn K cdCR "OutOfRange.__init__" = true)
    (kCR : PySem.W.keepIn K (.ref fCR) = true)
    (gcO : PySem.W.nsIn K mainGlobals "OutshinerError" = some (some (.ref cO)))
    (euO : PySem.W.kitOne K (.ref CU) (.ref cO) = some true)
    (enO : PySem.W.kitOne K (.ref CE) (.ref cO) = some true)
    (ebO : PySem.W.kitOne K (.ref CB) (.ref cO) = some true)
    (euN : PySem.W.kitOne K (.ref CU) (.ref CE) = some false)
    (euD : PySem.W.kitOne K (.ref CU) (.ref CD) = some false)
    (enU : PySem.W.kitOne K (.ref CE) (.ref CU) = some false)
    (enD : PySem.W.kitOne K (.ref CE) (.ref CD) = some false)
    (ebU : PySem.W.kitOne K (.ref CB) (.ref CU) = some false)
    (ebN : PySem.W.kitOne K (.ref CB) (.ref CE) = some false)
    (sbnu : PySem.W.subIn K (.ref CE) (.ref CU) = some false)
    (sbbu : PySem.W.subIn K (.ref CB) (.ref CU) = some false)
    (sbbn : PySem.W.subIn K (.ref CB) (.ref CE) = some false)
    (a0 : PySem.W.nsIn K mainGlobals "is_number" = some (some (.ref f0)))
    (l0 : K.lookup f0 = some ⟨oc0, od0, .func (PySem.W.fnOf "is_number" "is_number" (defArgs sis_number) (defBody sis_number) (defScope sis_number) .none kV0 dc0 pm0 an0 cd0 ct0), sl0⟩)
    (c0 : PySem.W.codeIn K cd0 "is_number" = true)
    (k0 : PySem.W.keepIn K (.ref f0) = true)
    (a1 : PySem.W.nsIn K mainGlobals "check_number" = some (some (.ref f1)))
    (l1 : K.lookup f1 = some ⟨oc1, od1, .func (PySem.W.fnOf "check_number" "check_number" (defArgs scheck_number) (defBody scheck_number) (defScope scheck_number) .none kV1 dc1 pm1 an1 cd1 ct1), sl1⟩)
    (c1 : PySem.W.codeIn K cd1 "check_number" = true)
    (k1 : PySem.W.keepIn K (.ref f1) = true)
    (a2 : PySem.W.nsIn K mainGlobals "check_open_number" = some (some (.ref f2)))
    (l2 : K.lookup f2 = some ⟨oc2, od2, .func (PySem.W.fnOf "check_open_number" "check_open_number" (defArgs scheck_open_number) (defBody scheck_open_number) (defScope scheck_open_number) .none kV2 dc2 pm2 an2 cd2 ct2), sl2⟩)
    (c2 : PySem.W.codeIn K cd2 "check_open_number" = true)
    (k2 : PySem.W.keepIn K (.ref f2) = true)
    (a3 : PySem.W.nsIn K mainGlobals "are_crossed" = some (some (.ref f3)))
    (l3 : K.lookup f3 = some ⟨oc3, od3, .func (PySem.W.fnOf "are_crossed" "are_crossed" (defArgs sare_crossed) (defBody sare_crossed) (defScope sare_crossed) .none kV3 dc3 pm3 an3 cd3 ct3), sl3⟩)
    (c3 : PySem.W.codeIn K cd3 "are_crossed" = true)
    (k3 : PySem.W.keepIn K (.ref f3) = true)
    (a4 : PySem.W.nsIn K mainGlobals "check_low_high" = some (some (.ref f4)))
    (l4 : K.lookup f4 = some ⟨oc4, od4, .func (PySem.W.fnOf "check_low_high" "check_low_high" (defArgs scheck_low_high) (defBody scheck_low_high) (defScope scheck_low_high) .none kV4 dc4 pm4 an4 cd4 ct4), sl4⟩)
    (c4 : PySem.W.codeIn K cd4 "check_low_high" = true)
    (k4 : PySem.W.keepIn K (.ref f4) = true)
    (gCS : PySem.W.nsIn K mainGlobals "Span" = some (some (.ref CS)))
    (pgCS : PySem.W.plainGet K CS Str.empty = true)
    (hdCS : PySem.W.hasDictIn K CS = true)
    (poCS : PySem.W.plainOver K CS = true)
    (saCS : PySem.W.findIn K (.ref CS) "__setattr__" = some (some (.builtin "object.__setattr__")))
    (naCS_low : PySem.W.findIn K (.ref CS) "low" = some none)
    (naCS_high : PySem.W.findIn K (.ref CS) "high" = some none)
    (haCS : PySem.W.findIn K (.ref CS) "__class__" = some (some (.builtin "object.__class__")))
    (hmCS : PySem.W.mroIn K CS (.type "object") = some true)
    (ksCS : PySem.W.kitOne K (.ref CS) (.ref CS) = some true)
    (mkCS : PySem.W.makesIn K CS = true)
    (kpCS : PySem.W.keepIn K (.ref CS) = true)
    (kCSint : PySem.W.kitOne K (.type "int") (.ref CS) = some false)
    (kCSstr : PySem.W.kitOne K (.type "str") (.ref CS) = some false)
    (kCStuple : PySem.W.kitOne K (.type "tuple") (.ref CS) = some false)
    (kCSNoneType : PySem.W.kitOne K (.type "NoneType") (.ref CS) = some false)
    (q5 : PySem.W.findIn K (.ref CS) "__init__" = some (some (.ref f5)))
    (l5 : K.lookup f5 = some ⟨oc5, od5, .func (PySem.W.fnOf "__init__" "Span.__init__" (defArgs sSpan___init__) (defBody sSpan___init__) (defScope sSpan___init__) (.ref T5) kV5 dc5 pm5 an5 cd5 ct5), sl5⟩)
    (c5 : PySem.W.codeIn K cd5 "Span.__init__" = true)
    (k5 : PySem.W.keepIn K (.ref f5) = true)
    (t5 : K.lookup T5 = some ⟨oT5, oD5, .seq ([.none, .none] : List Value).toArray nT5, tS5⟩)
    (n5 : PySem.W.isFn K (.ref f5) = true)
    (a6 : PySem.W.nsIn K mainGlobals "is_name" = some (some (.ref f6)))
    (l6 : K.lookup f6 = some ⟨oc6, od6, .func (PySem.W.fnOf "is_name" "is_name" (defArgs sis_name) (defBody sis_name) (defScope sis_name) .none kV6 dc6 pm6 an6 cd6 ct6), sl6⟩)
    (c6 : PySem.W.codeIn K cd6 "is_name" = true)
    (k6 : PySem.W.keepIn K (.ref f6) = true)
    (a7 : PySem.W.nsIn K mainGlobals "check_name" = some (some (.ref f7)))
    (l7 : K.lookup f7 = some ⟨oc7, od7, .func (PySem.W.fnOf "check_name" "check_name" (defArgs scheck_name) (defBody scheck_name) (defScope scheck_name) .none kV7 dc7 pm7 an7 cd7 ct7), sl7⟩)
    (c7 : PySem.W.codeIn K cd7 "check_name" = true)
    (k7 : PySem.W.keepIn K (.ref f7) = true)
    (a8 : PySem.W.nsIn K mainGlobals "check_unlike" = some (some (.ref f8)))
    (l8 : K.lookup f8 = some ⟨oc8, od8, .func (PySem.W.fnOf "check_unlike" "check_unlike" (defArgs scheck_unlike) (defBody scheck_unlike) (defScope scheck_unlike) .none kV8 dc8 pm8 an8 cd8 ct8), sl8⟩)
    (c8 : PySem.W.codeIn K cd8 "check_unlike" = true)
    (k8 : PySem.W.keepIn K (.ref f8) = true)
    (a9 : PySem.W.nsIn K mainGlobals "check_between" = some (some (.ref f9)))
    (l9 : K.lookup f9 = some ⟨oc9, od9, .func (PySem.W.fnOf "check_between" "check_between" (defArgs scheck_between) (defBody scheck_between) (defScope scheck_between) .none kV9 dc9 pm9 an9 cd9 ct9), sl9⟩)
    (c9 : PySem.W.codeIn K cd9 "check_between" = true)
    (k9 : PySem.W.keepIn K (.ref f9) = true)
    (a10 : PySem.W.nsIn K mainGlobals "look_up" = some (some (.ref f10)))
    (l10 : K.lookup f10 = some ⟨oc10, od10, .func (PySem.W.fnOf "look_up" "look_up" (defArgs slook_up) (defBody slook_up) (defScope slook_up) .none kV10 dc10 pm10 an10 cd10 ct10), sl10⟩)
    (c10 : PySem.W.codeIn K cd10 "look_up" = true)
    (k10 : PySem.W.keepIn K (.ref f10) = true)
    (a11 : PySem.W.nsIn K mainGlobals "check_row_numbers" = some (some (.ref f11)))
    (l11 : K.lookup f11 = some ⟨oc11, od11, .func (PySem.W.fnOf "check_row_numbers" "check_row_numbers" (defArgs scheck_row_numbers) (defBody scheck_row_numbers) (defScope scheck_row_numbers) .none kV11 dc11 pm11 an11 cd11 ct11), sl11⟩)
    (c11 : PySem.W.codeIn K cd11 "check_row_numbers" = true)
    (k11 : PySem.W.keepIn K (.ref f11) = true)
    (a12 : PySem.W.nsIn K mainGlobals "check_row_ends" = some (some (.ref f12)))
    (l12 : K.lookup f12 = some ⟨oc12, od12, .func (PySem.W.fnOf "check_row_ends" "check_row_ends" (defArgs scheck_row_ends) (defBody scheck_row_ends) (defScope scheck_row_ends) .none kV12 dc12 pm12 an12 cd12 ct12), sl12⟩)
    (c12 : PySem.W.codeIn K cd12 "check_row_ends" = true)
    (k12 : PySem.W.keepIn K (.ref f12) = true)
    (a13 : PySem.W.nsIn K mainGlobals "check_rows" = some (some (.ref f13)))
    (l13 : K.lookup f13 = some ⟨oc13, od13, .func (PySem.W.fnOf "check_rows" "check_rows" (defArgs scheck_rows) (defBody scheck_rows) (defScope scheck_rows) .none kV13 dc13 pm13 an13 cd13 ct13), sl13⟩)
    (c13 : PySem.W.codeIn K cd13 "check_rows" = true)
    (k13 : PySem.W.keepIn K (.ref f13) = true)
    (a14 : PySem.W.nsIn K mainGlobals "kept_bond_row" = some (some (.ref f14)))
    (l14 : K.lookup f14 = some ⟨oc14, od14, .func (PySem.W.fnOf "kept_bond_row" "kept_bond_row" (defArgs skept_bond_row) (defBody skept_bond_row) (defScope skept_bond_row) .none kV14 dc14 pm14 an14 cd14 ct14), sl14⟩)
    (c14 : PySem.W.codeIn K cd14 "kept_bond_row" = true)
    (k14 : PySem.W.keepIn K (.ref f14) = true)
    (gCW : PySem.W.nsIn K mainGlobals "Web" = some (some (.ref CW)))
    (pgCW : PySem.W.plainGet K CW Str.empty = true)
    (hdCW : PySem.W.hasDictIn K CW = true)
    (poCW : PySem.W.plainOver K CW = true)
    (saCW : PySem.W.findIn K (.ref CW) "__setattr__" = some (some (.builtin "object.__setattr__")))
    (naCW_ceilings : PySem.W.findIn K (.ref CW) "_ceilings" = some none)
    (naCW_bond_rows : PySem.W.findIn K (.ref CW) "_bond_rows" = some none)
    (naCW_ends : PySem.W.findIn K (.ref CW) "_ends" = some none)
    (naCW_spans : PySem.W.findIn K (.ref CW) "_spans" = some none)
    (haCW : PySem.W.findIn K (.ref CW) "__class__" = some (some (.builtin "object.__class__")))
    (hmCW : PySem.W.mroIn K CW (.type "object") = some true)
    (ksCW : PySem.W.kitOne K (.ref CW) (.ref CW) = some true)
    (mkCW : PySem.W.makesIn K CW = true)
    (kpCW : PySem.W.keepIn K (.ref CW) = true)
    (kCWint : PySem.W.kitOne K (.type "int") (.ref CW) = some false)
    (kCWstr : PySem.W.kitOne K (.type "str") (.ref CW) = some false)
    (kCWtuple : PySem.W.kitOne K (.type "tuple") (.ref CW) = some false)
    (kCWNoneType : PySem.W.kitOne K (.type "NoneType") (.ref CW) = some false)
    (q15 : PySem.W.findIn K (.ref CW) "__init__" = some (some (.ref f15)))
    (l15 : K.lookup f15 = some ⟨oc15, od15, .func (PySem.W.fnOf "__init__" "Web.__init__" (defArgs sWeb___init__) (defBody sWeb___init__) (defScope sWeb___init__) (.ref T15) kV15 dc15 pm15 an15 cd15 ct15), sl15⟩)
    (c15 : PySem.W.codeIn K cd15 "Web.__init__" = true)
    (k15 : PySem.W.keepIn K (.ref f15) = true)
    (t15 : K.lookup T15 = some ⟨oT15, oD15, .seq ([.ref te] : List Value).toArray nT15, tS15⟩)
    (n15 : PySem.W.isFn K (.ref f15) = true)
    (empt : K.lookup te = some ⟨.type "tuple", oDe, .seq #[] nTe, tSe⟩)
    (q16 : PySem.W.findIn K (.ref CW) "lamps" = some (some (.ref pq16)))
    (r16 : PySem.W.recIn K pq16 "property" = some (.ref f16 :: pr16))
    (l16 : K.lookup f16 = some ⟨oc16, od16, .func (PySem.W.fnOf "lamps" "Web.lamps" (defArgs sWeb_lamps) (defBody sWeb_lamps) (defScope sWeb_lamps) .none kV16 dc16 pm16 an16 cd16 ct16), sl16⟩)
    (c16 : PySem.W.codeIn K cd16 "Web.lamps" = true)
    (k16 : PySem.W.keepIn K (.ref f16) = true)
    (g16 : PySem.W.specialIn K (.ref pq16) "__get__" = some (some (.builtin "property.__get__")))
    (t16 : PySem.W.takesIn K (.ref pq16) = some true)
    (q17 : PySem.W.findIn K (.ref CW) "bonds" = some (some (.ref pq17)))
    (r17 : PySem.W.recIn K pq17 "property" = some (.ref f17 :: pr17))
    (l17 : K.lookup f17 = some ⟨oc17, od17, .func (PySem.W.fnOf "bonds" "Web.bonds" (defArgs sWeb_bonds) (defBody sWeb_bonds) (defScope sWeb_bonds) .none kV17 dc17 pm17 an17 cd17 ct17), sl17⟩)
    (c17 : PySem.W.codeIn K cd17 "Web.bonds" = true)
    (k17 : PySem.W.keepIn K (.ref f17) = true)
    (g17 : PySem.W.specialIn K (.ref pq17) "__get__" = some (some (.builtin "property.__get__")))
    (t17 : PySem.W.takesIn K (.ref pq17) = some true)
    (q18 : PySem.W.findIn K (.ref CW) "lamp_rows" = some (some (.ref pq18)))
    (r18 : PySem.W.recIn K pq18 "property" = some (.ref f18 :: pr18))
    (l18 : K.lookup f18 = some ⟨oc18, od18, .func (PySem.W.fnOf "lamp_rows" "Web.lamp_rows" (defArgs sWeb_lamp_rows) (defBody sWeb_lamp_rows) (defScope sWeb_lamp_rows) .none kV18 dc18 pm18 an18 cd18 ct18), sl18⟩)
    (c18 : PySem.W.codeIn K cd18 "Web.lamp_rows" = true)
    (k18 : PySem.W.keepIn K (.ref f18) = true)
    (g18 : PySem.W.specialIn K (.ref pq18) "__get__" = some (some (.builtin "property.__get__")))
    (t18 : PySem.W.takesIn K (.ref pq18) = some true)
    (q19 : PySem.W.findIn K (.ref CW) "bond_rows" = some (some (.ref pq19)))
    (r19 : PySem.W.recIn K pq19 "property" = some (.ref f19 :: pr19))
    (l19 : K.lookup f19 = some ⟨oc19, od19, .func (PySem.W.fnOf "bond_rows" "Web.bond_rows" (defArgs sWeb_bond_rows) (defBody sWeb_bond_rows) (defScope sWeb_bond_rows) .none kV19 dc19 pm19 an19 cd19 ct19), sl19⟩)
    (c19 : PySem.W.codeIn K cd19 "Web.bond_rows" = true)
    (k19 : PySem.W.keepIn K (.ref f19) = true)
    (g19 : PySem.W.specialIn K (.ref pq19) "__get__" = some (some (.builtin "property.__get__")))
    (t19 : PySem.W.takesIn K (.ref pq19) = some true)
    (q20 : PySem.W.findIn K (.ref CW) "ceiling" = some (some (.ref f20)))
    (l20 : K.lookup f20 = some ⟨oc20, od20, .func (PySem.W.fnOf "ceiling" "Web.ceiling" (defArgs sWeb_ceiling) (defBody sWeb_ceiling) (defScope sWeb_ceiling) .none kV20 dc20 pm20 an20 cd20 ct20), sl20⟩)
    (c20 : PySem.W.codeIn K cd20 "Web.ceiling" = true)
    (k20 : PySem.W.keepIn K (.ref f20) = true)
    (n20 : PySem.W.isFn K (.ref f20) = true)
    (q21 : PySem.W.findIn K (.ref CW) "ends" = some (some (.ref f21)))
    (l21 : K.lookup f21 = some ⟨oc21, od21, .func (PySem.W.fnOf "ends" "Web.ends" (defArgs sWeb_ends) (defBody sWeb_ends) (defScope sWeb_ends) .none kV21 dc21 pm21 an21 cd21 ct21), sl21⟩)
    (c21 : PySem.W.codeIn K cd21 "Web.ends" = true)
    (k21 : PySem.W.keepIn K (.ref f21) = true)
    (n21 : PySem.W.isFn K (.ref f21) = true)
    (q22 : PySem.W.findIn K (.ref CW) "span" = some (some (.ref f22)))
    (l22 : K.lookup f22 = some ⟨oc22, od22, .func (PySem.W.fnOf "span" "Web.span" (defArgs sWeb_span) (defBody sWeb_span) (defScope sWeb_span) .none kV22 dc22 pm22 an22 cd22 ct22), sl22⟩)
    (c22 : PySem.W.codeIn K cd22 "Web.span" = true)
    (k22 : PySem.W.keepIn K (.ref f22) = true)
    (n22 : PySem.W.isFn K (.ref f22) = true)
    (q23 : PySem.W.findIn K (.ref CS) "__contains__" = some (some (.ref f23)))
    (l23 : K.lookup f23 = some ⟨oc23, od23, .func (PySem.W.fnOf "__contains__" "Span.__contains__" (defArgs sSpan___contains__) (defBody sSpan___contains__) (defScope sSpan___contains__) .none kV23 dc23 pm23 an23 cd23 ct23), sl23⟩)
    (c23 : PySem.W.codeIn K cd23 "Span.__contains__" = true)
    (k23 : PySem.W.keepIn K (.ref f23) = true)
    (n23 : PySem.W.isFn K (.ref f23) = true)
    (q24 : PySem.W.findIn K (.ref CW) "lets" = some (some (.ref f24)))
    (l24 : K.lookup f24 = some ⟨oc24, od24, .func (PySem.W.fnOf "lets" "Web.lets" (defArgs sWeb_lets) (defBody sWeb_lets) (defScope sWeb_lets) .none kV24 dc24 pm24 an24 cd24 ct24), sl24⟩)
    (c24 : PySem.W.codeIn K cd24 "Web.lets" = true)
    (k24 : PySem.W.keepIn K (.ref f24) = true)
    (n24 : PySem.W.isFn K (.ref f24) = true)
    (q25 : PySem.W.findIn K (.ref CW) "across" = some (some (.ref f25)))
    (l25 : K.lookup f25 = some ⟨oc25, od25, .func (PySem.W.fnOf "across" "Web.across" (defArgs sWeb_across) (defBody sWeb_across) (defScope sWeb_across) .none kV25 dc25 pm25 an25 cd25 ct25), sl25⟩)
    (c25 : PySem.W.codeIn K cd25 "Web.across" = true)
    (k25 : PySem.W.keepIn K (.ref f25) = true)
    (n25 : PySem.W.isFn K (.ref f25) = true)
    (q26 : PySem.W.findIn K (.ref CW) "__contains__" = some (some (.ref f26)))
    (l26 : K.lookup f26 = some ⟨oc26, od26, .func (PySem.W.fnOf "__contains__" "Web.__contains__" (defArgs sWeb___contains__) (defBody sWeb___contains__) (defScope sWeb___contains__) .none kV26 dc26 pm26 an26 cd26 ct26), sl26⟩)
    (c26 : PySem.W.codeIn K cd26 "Web.__contains__" = true)
    (k26 : PySem.W.keepIn K (.ref f26) = true)
    (n26 : PySem.W.isFn K (.ref f26) = true)
    (a27 : PySem.W.nsIn K mainGlobals "check_lamp" = some (some (.ref f27)))
    (l27 : K.lookup f27 = some ⟨oc27, od27, .func (PySem.W.fnOf "check_lamp" "check_lamp" (defArgs scheck_lamp) (defBody scheck_lamp) (defScope scheck_lamp) .none kV27 dc27 pm27 an27 cd27 ct27), sl27⟩)
    (c27 : PySem.W.codeIn K cd27 "check_lamp" = true)
    (k27 : PySem.W.keepIn K (.ref f27) = true)
    (q28 : PySem.W.findIn K (.ref CW) "bonds_of" = some (some (.ref f28)))
    (l28 : K.lookup f28 = some ⟨oc28, od28, .func (PySem.W.fnOf "bonds_of" "Web.bonds_of" (defArgs sWeb_bonds_of) (defBody sWeb_bonds_of) (defScope sWeb_bonds_of) .none kV28 dc28 pm28 an28 cd28 ct28), sl28⟩)
    (c28 : PySem.W.codeIn K cd28 "Web.bonds_of" = true)
    (k28 : PySem.W.keepIn K (.ref f28) = true)
    (n28 : PySem.W.isFn K (.ref f28) = true)
    (q29 : PySem.W.findIn K (.ref CW) "other_bond_rows" = some (some (.ref f29)))
    (l29 : K.lookup f29 = some ⟨oc29, od29, .func (PySem.W.fnOf "other_bond_rows" "Web.other_bond_rows" (defArgs sWeb_other_bond_rows) (defBody sWeb_other_bond_rows) (defScope sWeb_other_bond_rows) .none kV29 dc29 pm29 an29 cd29 ct29), sl29⟩)
    (c29 : PySem.W.codeIn K cd29 "Web.other_bond_rows" = true)
    (k29 : PySem.W.keepIn K (.ref f29) = true)
    (n29 : PySem.W.isFn K (.ref f29) = true)
    (q30 : PySem.W.findIn K (.ref CW) "with_ceiling" = some (some (.ref f30)))
    (l30 : K.lookup f30 = some ⟨oc30, od30, .func (PySem.W.fnOf "with_ceiling" "Web.with_ceiling" (defArgs sWeb_with_ceiling) (defBody sWeb_with_ceiling) (defScope sWeb_with_ceiling) .none kV30 dc30 pm30 an30 cd30 ct30), sl30⟩)
    (c30 : PySem.W.codeIn K cd30 "Web.with_ceiling" = true)
    (k30 : PySem.W.keepIn K (.ref f30) = true)
    (n30 : PySem.W.isFn K (.ref f30) = true)
    (q31 : PySem.W.findIn K (.ref CW) "without_bond" = some (some (.ref f31)))
    (l31 : K.lookup f31 = some ⟨oc31, od31, .func (PySem.W.fnOf "without_bond" "Web.without_bond" (defArgs sWeb_without_bond) (defBody sWeb_without_bond) (defScope sWeb_without_bond) .none kV31 dc31 pm31 an31 cd31 ct31), sl31⟩)
    (c31 : PySem.W.codeIn K cd31 "Web.without_bond" = true)
    (k31 : PySem.W.keepIn K (.ref f31) = true)
    (n31 : PySem.W.isFn K (.ref f31) = true)
    (q32 : PySem.W.findIn K (.ref CW) "with_span" = some (some (.ref f32)))
    (l32 : K.lookup f32 = some ⟨oc32, od32, .func (PySem.W.fnOf "with_span" "Web.with_span" (defArgs sWeb_with_span) (defBody sWeb_with_span) (defScope sWeb_with_span) .none kV32 dc32 pm32 an32 cd32 ct32), sl32⟩)
    (c32 : PySem.W.codeIn K cd32 "Web.with_span" = true)
    (k32 : PySem.W.keepIn K (.ref f32) = true)
    (n32 : PySem.W.isFn K (.ref f32) = true)
    (q33 : PySem.W.findIn K (.ref CW) "with_bond" = some (some (.ref f33)))
    (l33 : K.lookup f33 = some ⟨oc33, od33, .func (PySem.W.fnOf "with_bond" "Web.with_bond" (defArgs sWeb_with_bond) (defBody sWeb_with_bond) (defScope sWeb_with_bond) .none (.ref D33) dc33 pm33 an33 cd33 ct33), sl33⟩)
    (c33 : PySem.W.codeIn K cd33 "Web.with_bond" = true)
    (k33 : PySem.W.keepIn K (.ref f33) = true)
    (w33_low : PySem.W.nsIn K D33 "low" = some (some .none))
    (w33_high : PySem.W.nsIn K D33 "high" = some (some .none))
    (n33 : PySem.W.isFn K (.ref f33) = true)
    (q34 : PySem.W.findIn K (.ref CW) "__iter__" = some (some (.ref f34)))
    (l34 : K.lookup f34 = some ⟨oc34, od34, .func (PySem.W.fnOf "__iter__" "Web.__iter__" (defArgs sWeb___iter__) (defBody sWeb___iter__) (defScope sWeb___iter__) .none kV34 dc34 pm34 an34 cd34 ct34), sl34⟩)
    (c34 : PySem.W.codeIn K cd34 "Web.__iter__" = true)
    (k34 : PySem.W.keepIn K (.ref f34) = true)
    (n34 : PySem.W.isFn K (.ref f34) = true)
    (ilen : PySem.W.findIn K (.ref CW) "__len__" = some none)
    (ihint : PySem.W.findIn K (.ref CW) "__length_hint__" = some none)
    (q35 : PySem.W.findIn K (.ref CW) "__eq__" = some (some (.ref f35)))
    (l35 : K.lookup f35 = some ⟨oc35, od35, .func (PySem.W.fnOf "__eq__" "Web.__eq__" (defArgs sWeb___eq__) (defBody sWeb___eq__) (defScope sWeb___eq__) .none kV35 dc35 pm35 an35 cd35 ct35), sl35⟩)
    (c35 : PySem.W.codeIn K cd35 "Web.__eq__" = true)
    (k35 : PySem.W.keepIn K (.ref f35) = true)
    (n35 : PySem.W.isFn K (.ref f35) = true)
    (a36 : PySem.W.nsIn K mainGlobals "_law_store" = some (some (.ref f36)))
    (l36 : K.lookup f36 = some ⟨oc36, od36, .func (PySem.W.fnOf "_law_store" "_law_store" (defArgs s_law_store) (defBody s_law_store) (defScope s_law_store) .none kV36 dc36 pm36 an36 cd36 ct36), sl36⟩)
    (c36 : PySem.W.codeIn K cd36 "_law_store" = true)
    (k36 : PySem.W.keepIn K (.ref f36) = true)
    (a37 : PySem.W.nsIn K mainGlobals "_law_stir" = some (some (.ref f37)))
    (l37 : K.lookup f37 = some ⟨oc37, od37, .func (PySem.W.fnOf "_law_stir" "_law_stir" (defArgs s_law_stir) (defBody s_law_stir) (defScope s_law_stir) .none kV37 dc37 pm37 an37 cd37 ct37), sl37⟩)
    (c37 : PySem.W.codeIn K cd37 "_law_stir" = true)
    (k37 : PySem.W.keepIn K (.ref f37) = true)
    (a38 : PySem.W.nsIn K mainGlobals "_law_take" = some (some (.ref f38)))
    (l38 : K.lookup f38 = some ⟨oc38, od38, .func (PySem.W.fnOf "_law_take" "_law_take" (defArgs s_law_take) (defBody s_law_take) (defScope s_law_take) .none kV38 dc38 pm38 an38 cd38 ct38), sl38⟩)
    (c38 : PySem.W.codeIn K cd38 "_law_take" = true)
    (k38 : PySem.W.keepIn K (.ref f38) = true)
    (a39 : PySem.W.nsIn K mainGlobals "_law_pick" = some (some (.ref f39)))
    (l39 : K.lookup f39 = some ⟨oc39, od39, .func (PySem.W.fnOf "_law_pick" "_law_pick" (defArgs s_law_pick) (defBody s_law_pick) (defScope s_law_pick) .none kV39 dc39 pm39 an39 cd39 ct39), sl39⟩)
    (c39 : PySem.W.codeIn K cd39 "_law_pick" = true)
    (k39 : PySem.W.keepIn K (.ref f39) = true)
    (a40 : PySem.W.nsIn K mainGlobals "_law_shuffled" = some (some (.ref f40)))
    (l40 : K.lookup f40 = some ⟨oc40, od40, .func (PySem.W.fnOf "_law_shuffled" "_law_shuffled" (defArgs s_law_shuffled) (defBody s_law_shuffled) (defScope s_law_shuffled) .none kV40 dc40 pm40 an40 cd40 ct40), sl40⟩)
    (c40 : PySem.W.codeIn K cd40 "_law_shuffled" = true)
    (k40 : PySem.W.keepIn K (.ref f40) = true)
    (a41 : PySem.W.nsIn K mainGlobals "_law_pool" = some (some (.ref f41)))
    (l41 : K.lookup f41 = some ⟨oc41, od41, .func (PySem.W.fnOf "_law_pool" "_law_pool" (defArgs s_law_pool) (defBody s_law_pool) (defScope s_law_pool) .none kV41 dc41 pm41 an41 cd41 ct41), sl41⟩)
    (c41 : PySem.W.codeIn K cd41 "_law_pool" = true)
    (k41 : PySem.W.keepIn K (.ref f41) = true)
    (a42 : PySem.W.nsIn K mainGlobals "_law_name" = some (some (.ref f42)))
    (l42 : K.lookup f42 = some ⟨oc42, od42, .func (PySem.W.fnOf "_law_name" "_law_name" (defArgs s_law_name) (defBody s_law_name) (defScope s_law_name) .none kV42 dc42 pm42 an42 cd42 ct42), sl42⟩)
    (c42 : PySem.W.codeIn K cd42 "_law_name" = true)
    (k42 : PySem.W.keepIn K (.ref f42) = true)
    (a43 : PySem.W.nsIn K mainGlobals "_law_unused" = some (some (.ref f43)))
    (l43 : K.lookup f43 = some ⟨oc43, od43, .func (PySem.W.fnOf "_law_unused" "_law_unused" (defArgs s_law_unused) (defBody s_law_unused) (defScope s_law_unused) .none kV43 dc43 pm43 an43 cd43 ct43), sl43⟩)
    (c43 : PySem.W.codeIn K cd43 "_law_unused" = true)
    (k43 : PySem.W.keepIn K (.ref f43) = true)
    (a44 : PySem.W.nsIn K mainGlobals "_law_fresh_names" = some (some (.ref f44)))
    (l44 : K.lookup f44 = some ⟨oc44, od44, .func (PySem.W.fnOf "_law_fresh_names" "_law_fresh_names" (defArgs s_law_fresh_names) (defBody s_law_fresh_names) (defScope s_law_fresh_names) .none kV44 dc44 pm44 an44 cd44 ct44), sl44⟩)
    (c44 : PySem.W.codeIn K cd44 "_law_fresh_names" = true)
    (k44 : PySem.W.keepIn K (.ref f44) = true)
    (a45 : PySem.W.nsIn K mainGlobals "_law_names" = some (some (.ref f45)))
    (l45 : K.lookup f45 = some ⟨oc45, od45, .func (PySem.W.fnOf "_law_names" "_law_names" (defArgs s_law_names) (defBody s_law_names) (defScope s_law_names) .none kV45 dc45 pm45 an45 cd45 ct45), sl45⟩)
    (c45 : PySem.W.codeIn K cd45 "_law_names" = true)
    (k45 : PySem.W.keepIn K (.ref f45) = true)
    (a46 : PySem.W.nsIn K mainGlobals "_law_near" = some (some (.ref f46)))
    (l46 : K.lookup f46 = some ⟨oc46, od46, .func (PySem.W.fnOf "_law_near" "_law_near" (defArgs s_law_near) (defBody s_law_near) (defScope s_law_near) .none kV46 dc46 pm46 an46 cd46 ct46), sl46⟩)
    (c46 : PySem.W.codeIn K cd46 "_law_near" = true)
    (k46 : PySem.W.keepIn K (.ref f46) = true)
    (a47 : PySem.W.nsIn K mainGlobals "_law_bar" = some (some (.ref f47)))
    (l47 : K.lookup f47 = some ⟨oc47, od47, .func (PySem.W.fnOf "_law_bar" "_law_bar" (defArgs s_law_bar) (defBody s_law_bar) (defScope s_law_bar) .none kV47 dc47 pm47 an47 cd47 ct47), sl47⟩)
    (c47 : PySem.W.codeIn K cd47 "_law_bar" = true)
    (k47 : PySem.W.keepIn K (.ref f47) = true)
    (a48 : PySem.W.nsIn K mainGlobals "_law_ends" = some (some (.ref f48)))
    (l48 : K.lookup f48 = some ⟨oc48, od48, .func (PySem.W.fnOf "_law_ends" "_law_ends" (defArgs s_law_ends) (defBody s_law_ends) (defScope s_law_ends) .none kV48 dc48 pm48 an48 cd48 ct48), sl48⟩)
    (c48 : PySem.W.codeIn K cd48 "_law_ends" = true)
    (k48 : PySem.W.keepIn K (.ref f48) = true)
    (a49 : PySem.W.nsIn K mainGlobals "_law_edges" = some (some (.ref f49)))
    (l49 : K.lookup f49 = some ⟨oc49, od49, .func (PySem.W.fnOf "_law_edges" "_law_edges" (defArgs s_law_edges) (defBody s_law_edges) (defScope s_law_edges) .none kV49 dc49 pm49 an49 cd49 ct49), sl49⟩)
    (c49 : PySem.W.codeIn K cd49 "_law_edges" = true)
    (k49 : PySem.W.keepIn K (.ref f49) = true)
    (a50 : PySem.W.nsIn K mainGlobals "_law_plan" = some (some (.ref f50)))
    (l50 : K.lookup f50 = some ⟨oc50, od50, .func (PySem.W.fnOf "_law_plan" "_law_plan" (defArgs s_law_plan) (defBody s_law_plan) (defScope s_law_plan) .none kV50 dc50 pm50 an50 cd50 ct50), sl50⟩)
    (c50 : PySem.W.codeIn K cd50 "_law_plan" = true)
    (k50 : PySem.W.keepIn K (.ref f50) = true)
    (a51 : PySem.W.nsIn K mainGlobals "_law_alike" = some (some (.ref f51)))
    (l51 : K.lookup f51 = some ⟨oc51, od51, .func (PySem.W.fnOf "_law_alike" "_law_alike" (defArgs s_law_alike) (defBody s_law_alike) (defScope s_law_alike) .none kV51 dc51 pm51 an51 cd51 ct51), sl51⟩)
    (c51 : PySem.W.codeIn K cd51 "_law_alike" = true)
    (k51 : PySem.W.keepIn K (.ref f51) = true)
    (a52 : PySem.W.nsIn K mainGlobals "_law_posts" = some (some (.ref f52)))
    (l52 : K.lookup f52 = some ⟨oc52, od52, .func (PySem.W.fnOf "_law_posts" "_law_posts" (defArgs s_law_posts) (defBody s_law_posts) (defScope s_law_posts) .none kV52 dc52 pm52 an52 cd52 ct52), sl52⟩)
    (c52 : PySem.W.codeIn K cd52 "_law_posts" = true)
    (k52 : PySem.W.keepIn K (.ref f52) = true)
    (a53 : PySem.W.nsIn K mainGlobals "_law_labels" = some (some (.ref f53)))
    (l53 : K.lookup f53 = some ⟨oc53, od53, .func (PySem.W.fnOf "_law_labels" "_law_labels" (defArgs s_law_labels) (defBody s_law_labels) (defScope s_law_labels) .none kV53 dc53 pm53 an53 cd53 ct53), sl53⟩)
    (c53 : PySem.W.codeIn K cd53 "_law_labels" = true)
    (k53 : PySem.W.keepIn K (.ref f53) = true)
    (a54 : PySem.W.nsIn K mainGlobals "_law_kept_rows" = some (some (.ref f54)))
    (l54 : K.lookup f54 = some ⟨oc54, od54, .func (PySem.W.fnOf "_law_kept_rows" "_law_kept_rows" (defArgs s_law_kept_rows) (defBody s_law_kept_rows) (defScope s_law_kept_rows) .none kV54 dc54 pm54 an54 cd54 ct54), sl54⟩)
    (c54 : PySem.W.codeIn K cd54 "_law_kept_rows" = true)
    (k54 : PySem.W.keepIn K (.ref f54) = true)
    (a55 : PySem.W.nsIn K mainGlobals "_law_has_rows" = some (some (.ref f55)))
    (l55 : K.lookup f55 = some ⟨oc55, od55, .func (PySem.W.fnOf "_law_has_rows" "_law_has_rows" (defArgs s_law_has_rows) (defBody s_law_has_rows) (defScope s_law_has_rows) .none kV55 dc55 pm55 an55 cd55 ct55), sl55⟩)
    (c55 : PySem.W.codeIn K cd55 "_law_has_rows" = true)
    (k55 : PySem.W.keepIn K (.ref f55) = true)
    (a56 : PySem.W.nsIn K mainGlobals "_law_is_bond" = some (some (.ref f56)))
    (l56 : K.lookup f56 = some ⟨oc56, od56, .func (PySem.W.fnOf "_law_is_bond" "_law_is_bond" (defArgs s_law_is_bond) (defBody s_law_is_bond) (defScope s_law_is_bond) .none kV56 dc56 pm56 an56 cd56 ct56), sl56⟩)
    (c56 : PySem.W.codeIn K cd56 "_law_is_bond" = true)
    (k56 : PySem.W.keepIn K (.ref f56) = true)
    (a57 : PySem.W.nsIn K mainGlobals "_law_is_web" = some (some (.ref f57)))
    (l57 : K.lookup f57 = some ⟨oc57, od57, .func (PySem.W.fnOf "_law_is_web" "_law_is_web" (defArgs s_law_is_web) (defBody s_law_is_web) (defScope s_law_is_web) .none kV57 dc57 pm57 an57 cd57 ct57), sl57⟩)
    (c57 : PySem.W.codeIn K cd57 "_law_is_web" = true)
    (k57 : PySem.W.keepIn K (.ref f57) = true)
    (a58 : PySem.W.nsIn K mainGlobals "_law_asked" = some (some (.ref f58)))
    (l58 : K.lookup f58 = some ⟨oc58, od58, .func (PySem.W.fnOf "_law_asked" "_law_asked" (defArgs s_law_asked) (defBody s_law_asked) (defScope s_law_asked) .none kV58 dc58 pm58 an58 cd58 ct58), sl58⟩)
    (c58 : PySem.W.codeIn K cd58 "_law_asked" = true)
    (k58 : PySem.W.keepIn K (.ref f58) = true)
    (a59 : PySem.W.nsIn K mainGlobals "_law_odd" = some (some (.ref f59)))
    (l59 : K.lookup f59 = some ⟨oc59, od59, .func (PySem.W.fnOf "_law_odd" "_law_odd" (defArgs s_law_odd) (defBody s_law_odd) (defScope s_law_odd) .none kV59 dc59 pm59 an59 cd59 ct59), sl59⟩)
    (c59 : PySem.W.codeIn K cd59 "_law_odd" = true)
    (k59 : PySem.W.keepIn K (.ref f59) = true)
    (a60 : PySem.W.nsIn K mainGlobals "_law_changes" = some (some (.ref f60)))
    (l60 : K.lookup f60 = some ⟨oc60, od60, .func (PySem.W.fnOf "_law_changes" "_law_changes" (defArgs s_law_changes) (defBody s_law_changes) (defScope s_law_changes) .none kV60 dc60 pm60 an60 cd60 ct60), sl60⟩)
    (c60 : PySem.W.codeIn K cd60 "_law_changes" = true)
    (k60 : PySem.W.keepIn K (.ref f60) = true)
    (a61 : PySem.W.nsIn K mainGlobals "_law_refuses" = some (some (.ref f61)))
    (l61 : K.lookup f61 = some ⟨oc61, od61, .func (PySem.W.fnOf "_law_refuses" "_law_refuses" (defArgs s_law_refuses) (defBody s_law_refuses) (defScope s_law_refuses) .none kV61 dc61 pm61 an61 cd61 ct61), sl61⟩)
    (c61 : PySem.W.codeIn K cd61 "_law_refuses" = true)
    (k61 : PySem.W.keepIn K (.ref f61) = true)
    (a62 : PySem.W.nsIn K mainGlobals "law" = some (some (.ref f62)))
    (l62 : K.lookup f62 = some ⟨oc62, od62, .func (PySem.W.fnOf "law" "law" (defArgs slaw) (defBody slaw) (defScope slaw) .none kV62 dc62 pm62 an62 cd62 ct62), sl62⟩)
    (c62 : PySem.W.codeIn K cd62 "law" = true)
    (k62 : PySem.W.keepIn K (.ref f62) = true)
    (z_ValueError : PySem.W.nsIn K mainGlobals "ValueError" = some none)
    (z_all : PySem.W.nsIn K mainGlobals "all" = some none)
    (z_bool : PySem.W.nsIn K mainGlobals "bool" = some none)
    (z_dict : PySem.W.nsIn K mainGlobals "dict" = some none)
    (z_int : PySem.W.nsIn K mainGlobals "int" = some none)
    (z_isinstance : PySem.W.nsIn K mainGlobals "isinstance" = some none)
    (z_iter : PySem.W.nsIn K mainGlobals "iter" = some none)
    (z_len : PySem.W.nsIn K mainGlobals "len" = some none)
    (z_list : PySem.W.nsIn K mainGlobals "list" = some none)
    (z_max : PySem.W.nsIn K mainGlobals "max" = some none)
    (z_min : PySem.W.nsIn K mainGlobals "min" = some none)
    (z_range : PySem.W.nsIn K mainGlobals "range" = some none)
    (z_set : PySem.W.nsIn K mainGlobals "set" = some none)
    (z_sorted : PySem.W.nsIn K mainGlobals "sorted" = some none)
    (z_str : PySem.W.nsIn K mainGlobals "str" = some none)
    (z_tuple : PySem.W.nsIn K mainGlobals "tuple" = some none)
    (zc_LIMIT : ∃ t, PySem.W.nsIn K mainGlobals "LIMIT" = some (some (.int 1000000000000 t)))
    (zc_LETTERS : ∃ t, PySem.W.nsIn K mainGlobals "LETTERS" = some (some (.str "abcdefghijklmnopqrstuvwxyz" t)))
    (zc_LETTERS_AND_DIGITS : ∃ t, PySem.W.nsIn K mainGlobals "LETTERS_AND_DIGITS" = some (some (.str "abcdefghijklmnopqrstuvwxyz0123456789" t)))
    (zc_LONGEST_NAME : ∃ t, PySem.W.nsIn K mainGlobals "LONGEST_NAME" = some (some (.int 8 t)))
    (zc_MOST_LAMPS : ∃ t, PySem.W.nsIn K mainGlobals "MOST_LAMPS" = some (some (.int 10 t)))
    (zc_MOST_BONDS : ∃ t, PySem.W.nsIn K mainGlobals "MOST_BONDS" = some (some (.int 16 t)))
    : ∃ fd : FuncData, (∀ (s : Shared) (v : Value), BindsTo s fd ⟨[v], []⟩ [("script", v)]) ∧ ∀ base : Heap, K.In base → base.Ns mainGlobals mg → FnOk l.prog w K mg base CX0 12 fa fd ["script"] (spLaw K) := by
  have e := hfa.symm.trans (PySem.W.mg_of X G a62)
  cases e
  have T : Blt mg := { ValueError := PySem.W.mg_none_of X G z_ValueError, all := PySem.W.mg_none_of X G z_all, bool := PySem.W.mg_none_of X G z_bool, dict := PySem.W.mg_none_of X G z_dict, int := PySem.W.mg_none_of X G z_int, isinstance := PySem.W.mg_none_of X G z_isinstance, iter := PySem.W.mg_none_of X G z_iter, len := PySem.W.mg_none_of X G z_len, list' := PySem.W.mg_none_of X G z_list, max := PySem.W.mg_none_of X G z_max, min := PySem.W.mg_none_of X G z_min, range := PySem.W.mg_none_of X G z_range, set := PySem.W.mg_none_of X G z_set, sorted := PySem.W.mg_none_of X G z_sorted, str := PySem.W.mg_none_of X G z_str, tuple := PySem.W.mg_none_of X G z_tuple, g_LIMIT := by obtain ⟨t, e⟩ := zc_LIMIT; exact ⟨t, PySem.W.mg_of X G e⟩, g_LETTERS := by obtain ⟨t, e⟩ := zc_LETTERS; exact ⟨t, PySem.W.mg_of X G e⟩, g_LETTERS_AND_DIGITS := by obtain ⟨t, e⟩ := zc_LETTERS_AND_DIGITS; exact ⟨t, PySem.W.mg_of X G e⟩, g_LONGEST_NAME := by obtain ⟨t, e⟩ := zc_LONGEST_NAME; exact ⟨t, PySem.W.mg_of X G e⟩, g_MOST_LAMPS := by obtain ⟨t, e⟩ := zc_MOST_LAMPS; exact ⟨t, PySem.W.mg_of X G e⟩, g_MOST_BONDS := by obtain ⟨t, e⟩ := zc_MOST_BONDS; exact ⟨t, PySem.W.mg_of X G e⟩ }
  have oxCN : OexC K CN := ⟨⟨nmCN, qCN, NCN, bsCN, bmCN, snCN, subCN, abCN, colCN, ddCN, m0CN, m1CN, m2CN, m3CN, m5CN, xCN, rCN⟩, saCN, exCN, tyCN, kpCN⟩
  have E_BadName : ErrC K mg "BadName" CN := ⟨PySem.W.mg_of X G gCN, oxCN, ⟨gaCN, ggCN, exCN, hdCN⟩, ⟨gaCN, ggCN, exCN, hdCN, haCN, hnCN, htCN, hmCN⟩, PySem.W.exm_ref exCN hdCN tyCN suCN⟩
  have FICN := fun_mk (st := sBadName___init__) lCN cCN kCN
  have bICN := FICN.binds (ps := ["self", "name"]) fun _ _ _ _ _ _ us hl => match us, hl with | [_, _], _ => rfl
  have N_BadName_name := nfCNname
  have oxCE : OexC K CE := ⟨⟨nmCE, qCE, NCE, bsCE, bmCE, snCE, subCE, abCE, colCE, ddCE, m0CE, m1CE, m2CE, m3CE, m5CE, xCE, rCE⟩, saCE, exCE, tyCE, kpCE⟩
  have E_BadNumber : ErrC K mg "BadNumber" CE := ⟨PySem.W.mg_of X G gCE, oxCE, ⟨gaCE, ggCE, exCE, hdCE⟩, ⟨gaCE, ggCE, exCE, hdCE, haCE, hnCE, htCE, hmCE⟩, PySem.W.exm_ref exCE hdCE tyCE suCE⟩
  have FICE := fun_mk (st := sBadNumber___init__) lCE cCE kCE
  have bICE := FICE.binds (ps := ["self", "number"]) fun _ _ _ _ _ _ us hl => match us, hl with | [_, _], _ => rfl
  have N_BadNumber_number := nfCEnumber
  have oxCB : OexC K CB := ⟨⟨nmCB, qCB, NCB, bsCB, bmCB, snCB, subCB, abCB, colCB, ddCB, m0CB, m1CB, m2CB, m3CB, m5CB, xCB, rCB⟩, saCB, exCB, tyCB, kpCB⟩
  have E_BadSpan : ErrC K mg "BadSpan" CB := ⟨PySem.W.mg_of X G gCB, oxCB, ⟨gaCB, ggCB, exCB, hdCB⟩, ⟨gaCB, ggCB, exCB, hdCB, haCB, hnCB, htCB, hmCB⟩, PySem.W.exm_ref exCB hdCB tyCB suCB⟩
  have FICB := fun_mk (st := sBadSpan___init__) lCB cCB kCB
  have bICB := FICB.binds (ps := ["self", "low", "high"]) fun _ _ _ _ _ _ us hl => match us, hl with | [_, _, _], _ => rfl
  have N_BadSpan_low := nfCBlow
  have N_BadSpan_high := nfCBhigh
  have oxCD : OexC K CD := ⟨⟨nmCD, qCD, NCD, bsCD, bmCD, snCD, subCD, abCD, colCD, ddCD, m0CD, m1CD, m2CD, m3CD, m5CD, xCD, rCD⟩, saCD, exCD, tyCD, kpCD⟩
  have E_Doubled : ErrC K mg "Doubled" CD := ⟨PySem.W.mg_of X G gCD, oxCD, ⟨gaCD, ggCD, exCD, hdCD⟩, ⟨gaCD, ggCD, exCD, hdCD, haCD, hnCD, htCD, hmCD⟩, PySem.W.exm_ref exCD hdCD tyCD suCD⟩
  have FICD := fun_mk (st := sDoubled___init__) lCD cCD kCD
  have bICD := FICD.binds (ps := ["self", "name"]) fun _ _ _ _ _ _ us hl => match us, hl with | [_, _], _ => rfl
  have N_Doubled_name := nfCDname
  have oxCF : OexC K CF := ⟨⟨nmCF, qCF, NCF, bsCF, bmCF, snCF, subCF, abCF, colCF, ddCF, m0CF, m1CF, m2CF, m3CF, m5CF, xCF, rCF⟩, saCF, exCF, tyCF, kpCF⟩
  have E_SelfBond : ErrC K mg "SelfBond" CF := ⟨PySem.W.mg_of X G gCF, oxCF, ⟨gaCF, ggCF, exCF, hdCF⟩, ⟨gaCF, ggCF, exCF, hdCF, haCF, hnCF, htCF, hmCF⟩, PySem.W.exm_ref exCF hdCF tyCF suCF⟩
  have FICF := fun_mk (st := sSelfBond___init__) lCF cCF kCF
  have bICF := FICF.binds (ps := ["self", "bond"]) fun _ _ _ _ _ _ us hl => match us, hl with | [_, _], _ => rfl
  have N_SelfBond_bond := nfCFbond
  have oxCU : OexC K CU := ⟨⟨nmCU, qCU, NCU, bsCU, bmCU, snCU, subCU, abCU, colCU, ddCU, m0CU, m1CU, m2CU, m3CU, m5CU, xCU, rCU⟩, saCU, exCU, tyCU, kpCU⟩
  have E_Unknown : ErrC K mg "Unknown" CU := ⟨PySem.W.mg_of X G gCU, oxCU, ⟨gaCU, ggCU, exCU, hdCU⟩, ⟨gaCU, ggCU, exCU, hdCU, haCU, hnCU, htCU, hmCU⟩, PySem.W.exm_ref exCU hdCU tyCU suCU⟩
  have FICU := fun_mk (st := sUnknown___init__) lCU cCU kCU
  have bICU := FICU.binds (ps := ["self", "name"]) fun _ _ _ _ _ _ us hl => match us, hl with | [_, _], _ => rfl
  have N_Unknown_name := nfCUname
  have oxCR : OexC K CR := ⟨⟨nmCR, qCR, NCR, bsCR, bmCR, snCR, subCR, abCR, colCR, ddCR, m0CR, m1CR, m2CR, m3CR, m5CR, xCR, rCR⟩, saCR, exCR, tyCR, kpCR⟩
  have E_OutOfRange : ErrC K mg "OutOfRange" CR := ⟨PySem.W.mg_of X G gCR, oxCR, ⟨gaCR, ggCR, exCR, hdCR⟩, ⟨gaCR, ggCR, exCR, hdCR, haCR, hnCR, htCR, hmCR⟩, PySem.W.exm_ref exCR hdCR tyCR suCR⟩
  have FICR := fun_mk (st := sOutOfRange___init__) lCR cCR kCR
  have bICR := FICR.binds (ps := ["self", "number", "low", "high"]) fun _ _ _ _ _ _ us hl => match us, hl with | [_, _, _, _], _ => rfl
  have N_OutOfRange_number := nfCRnumber
  have N_OutOfRange_low := nfCRlow
  have N_OutOfRange_high := nfCRhigh
  have G_OutshinerError := PySem.W.mg_of X G gcO
  have TE : Errs K mg CU CE CB CD cO := ⟨G_OutshinerError, PySem.W.mg_of X G gCD, PySem.W.mg_of X G gCE, PySem.W.mg_of X G gCU, euO, enO, ebO, euN, euD, enU, enD, ebU, ebN, PySem.W.exm_ref exCU hdCU tyCU sbnu, PySem.W.exm_ref exCU hdCU tyCU sbbu, PySem.W.exm_ref exCE hdCE tyCE sbbn⟩
  have F0 := fun_mk (st := sis_number) l0 c0 k0
  have b0 := F0.binds (ps := ["value"]) fun _ _ _ _ _ _ us hl => match us, hl with | [_], _ => rfl
  have F1 := fun_mk (st := scheck_number) l1 c1 k1
  have b1 := F1.binds (ps := ["value"]) fun _ _ _ _ _ _ us hl => match us, hl with | [_], _ => rfl
  have F2 := fun_mk (st := scheck_open_number) l2 c2 k2
  have b2 := F2.binds (ps := ["value"]) fun _ _ _ _ _ _ us hl => match us, hl with | [_], _ => rfl
  have F3 := fun_mk (st := sare_crossed) l3 c3 k3
  have b3 := F3.binds (ps := ["low", "high"]) fun _ _ _ _ _ _ us hl => match us, hl with | [_, _], _ => rfl
  have F4 := fun_mk (st := scheck_low_high) l4 c4 k4
  have b4 := F4.binds (ps := ["low", "high"]) fun _ _ _ _ _ _ us hl => match us, hl with | [_, _], _ => rfl
  have G_Span := PySem.W.mg_of X G gCS
  have cl_Span : Cls K CS := ⟨pgCS, hdCS, poCS, saCS⟩
  have SS : SpC K CS := ⟨cl_Span, naCS_low, naCS_high⟩
  have SIS : SpI K CS := ⟨cl_Span, haCS, hnCE, htCE, hmCS, ksCS, kCSint, kCSstr, kCStuple, kCSNoneType⟩
  have MKCS : Mk K CS f5 := ⟨mkCS, q5, n5, kpCS⟩
  have F5 := fund_mk (st := sSpan___init__) (dvs := [.non, .non]) (by simp) l5 c5 k5 t5 (.cons rfl (.cons rfl .nil))
  let cE : ECs := ⟨CN, CE, CB, CD, CF, CU, CR⟩
  have F6 := fun_mk (st := sis_name) l6 c6 k6
  have b6 := F6.binds (ps := ["text"]) fun _ _ _ _ _ _ us hl => match us, hl with | [_], _ => rfl
  have F7 := fun_mk (st := scheck_name) l7 c7 k7
  have b7 := F7.binds (ps := ["text"]) fun _ _ _ _ _ _ us hl => match us, hl with | [_], _ => rfl
  have F8 := fun_mk (st := scheck_unlike) l8 c8 k8
  have b8 := F8.binds (ps := ["items"]) fun _ _ _ _ _ _ us hl => match us, hl with | [_], _ => rfl
  have F9 := fun_mk (st := scheck_between) l9 c9 k9
  have b9 := F9.binds (ps := ["number", "low", "high"]) fun _ _ _ _ _ _ us hl => match us, hl with | [_, _, _], _ => rfl
  have F10 := fun_mk (st := slook_up) l10 c10 k10
  have b10 := F10.binds (ps := ["table", "name"]) fun _ _ _ _ _ _ us hl => match us, hl with | [_, _], _ => rfl
  have F11 := fun_mk (st := scheck_row_numbers) l11 c11 k11
  have b11 := F11.binds (ps := ["lamps", "bonds"]) fun _ _ _ _ _ _ us hl => match us, hl with | [_, _], _ => rfl
  have F12 := fun_mk (st := scheck_row_ends) l12 c12 k12
  have b12 := F12.binds (ps := ["lamp_names", "bonds"]) fun _ _ _ _ _ _ us hl => match us, hl with | [_, _], _ => rfl
  have F13 := fun_mk (st := scheck_rows) l13 c13 k13
  have b13 := F13.binds (ps := ["lamps", "bonds"]) fun _ _ _ _ _ _ us hl => match us, hl with | [_, _], _ => rfl
  have F14 := fun_mk (st := skept_bond_row) l14 c14 k14
  have b14 := F14.binds (ps := ["row"]) fun _ _ _ _ _ _ us hl => match us, hl with | [_], _ => rfl
  have G_Web := PySem.W.mg_of X G gCW
  have cl_Web : Cls K CW := ⟨pgCW, hdCW, poCW, saCW⟩
  have SW : SpW K CW := ⟨cl_Web, naCW_ceilings, naCW_bond_rows, naCW_ends, naCW_spans⟩
  have SIW : SpI K CW := ⟨cl_Web, haCW, hnCE, htCE, hmCW, ksCW, kCWint, kCWstr, kCWtuple, kCWNoneType⟩
  have MKCW : Mk K CW f15 := ⟨mkCW, q15, n15, kpCW⟩
  have F15 := fund_mk (st := sWeb___init__) (dvs := [.ref te]) (by simp) l15 c15 k15 t15 (.cons rfl .nil)
  have em : EmpK K te := ⟨_, _, empt, rfl, rfl⟩
  have F16 := fun_mk (st := sWeb_lamps) l16 c16 k16
  have b16 := F16.binds (ps := ["self"]) fun _ _ _ _ _ _ us hl => match us, hl with | [_], _ => rfl
  have F17 := fun_mk (st := sWeb_bonds) l17 c17 k17
  have b17 := F17.binds (ps := ["self"]) fun _ _ _ _ _ _ us hl => match us, hl with | [_], _ => rfl
  have F18 := fun_mk (st := sWeb_lamp_rows) l18 c18 k18
  have b18 := F18.binds (ps := ["self"]) fun _ _ _ _ _ _ us hl => match us, hl with | [_], _ => rfl
  have F19 := fun_mk (st := sWeb_bond_rows) l19 c19 k19
  have b19 := F19.binds (ps := ["self"]) fun _ _ _ _ _ _ us hl => match us, hl with | [_], _ => rfl
  have F20 := fun_mk (st := sWeb_ceiling) l20 c20 k20
  have b20 := F20.binds (ps := ["self", "lamp"]) fun _ _ _ _ _ _ us hl => match us, hl with | [_, _], _ => rfl
  have M20 : Meth K CW "ceiling" f20 := ⟨q20, n20, k20⟩
  have F21 := fun_mk (st := sWeb_ends) l21 c21 k21
  have b21 := F21.binds (ps := ["self", "bond"]) fun _ _ _ _ _ _ us hl => match us, hl with | [_, _], _ => rfl
  have M21 : Meth K CW "ends" f21 := ⟨q21, n21, k21⟩
  have F22 := fun_mk (st := sWeb_span) l22 c22 k22
  have b22 := F22.binds (ps := ["self", "bond"]) fun _ _ _ _ _ _ us hl => match us, hl with | [_, _], _ => rfl
  have M22 : Meth K CW "span" f22 := ⟨q22, n22, k22⟩
  have F23 := fun_mk (st := sSpan___contains__) l23 c23 k23
  have b23 := F23.binds (ps := ["self", "light"]) fun _ _ _ _ _ _ us hl => match us, hl with | [_, _], _ => rfl
  have M23 : Meth K CS "__contains__" f23 := ⟨q23, n23, k23⟩
  have F24 := fun_mk (st := sWeb_lets) l24 c24 k24
  have b24 := F24.binds (ps := ["self", "bond", "light"]) fun _ _ _ _ _ _ us hl => match us, hl with | [_, _, _], _ => rfl
  have M24 : Meth K CW "lets" f24 := ⟨q24, n24, k24⟩
  have F25 := fun_mk (st := sWeb_across) l25 c25 k25
  have b25 := F25.binds (ps := ["self", "bond", "lamp"]) fun _ _ _ _ _ _ us hl => match us, hl with | [_, _, _], _ => rfl
  have M25 : Meth K CW "across" f25 := ⟨q25, n25, k25⟩
  have F26 := fun_mk (st := sWeb___contains__) l26 c26 k26
  have b26 := F26.binds (ps := ["self", "lamp"]) fun _ _ _ _ _ _ us hl => match us, hl with | [_, _], _ => rfl
  have M26 : Meth K CW "__contains__" f26 := ⟨q26, n26, k26⟩
  have F27 := fun_mk (st := scheck_lamp) l27 c27 k27
  have b27 := F27.binds (ps := ["web", "lamp"]) fun _ _ _ _ _ _ us hl => match us, hl with | [_, _], _ => rfl
  have F28 := fun_mk (st := sWeb_bonds_of) l28 c28 k28
  have b28 := F28.binds (ps := ["self", "lamp"]) fun _ _ _ _ _ _ us hl => match us, hl with | [_, _], _ => rfl
  have M28 : Meth K CW "bonds_of" f28 := ⟨q28, n28, k28⟩
  have F29 := fun_mk (st := sWeb_other_bond_rows) l29 c29 k29
  have b29 := F29.binds (ps := ["self", "bond"]) fun _ _ _ _ _ _ us hl => match us, hl with | [_, _], _ => rfl
  have M29 : Meth K CW "other_bond_rows" f29 := ⟨q29, n29, k29⟩
  have F30 := fun_mk (st := sWeb_with_ceiling) l30 c30 k30
  have b30 := F30.binds (ps := ["self", "lamp", "ceiling"]) fun _ _ _ _ _ _ us hl => match us, hl with | [_, _, _], _ => rfl
  have M30 : Meth K CW "with_ceiling" f30 := ⟨q30, n30, k30⟩
  have F31 := fun_mk (st := sWeb_without_bond) l31 c31 k31
  have b31 := F31.binds (ps := ["self", "bond"]) fun _ _ _ _ _ _ us hl => match us, hl with | [_, _], _ => rfl
  have M31 : Meth K CW "without_bond" f31 := ⟨q31, n31, k31⟩
  have F32 := fun_mk (st := sWeb_with_span) l32 c32 k32
  have b32 := F32.binds (ps := ["self", "bond", "low", "high"]) fun _ _ _ _ _ _ us hl => match us, hl with | [_, _, _, _], _ => rfl
  have M32 : Meth K CW "with_span" f32 := ⟨q32, n32, k32⟩
  have F33 := fund_kw (st := sWeb_with_bond) (kws := [("low", .non), ("high", .non)]) (by simp) l33 c33 k33 (by intro q hq; simp at hq; rcases hq with rfl | rfl <;> first | exact ⟨_, w33_low, rfl⟩ | exact ⟨_, w33_high, rfl⟩)
  have M33 : Meth K CW "with_bond" f33 := ⟨q33, n33, k33⟩
  have F34 := fun_mk (st := sWeb___iter__) l34 c34 k34
  have b34 := F34.binds (ps := ["self"]) fun _ _ _ _ _ _ us hl => match us, hl with | [_], _ => rfl
  have F35 := fun_mk (st := sWeb___eq__) l35 c35 k35
  have b35 := F35.binds (ps := ["self", "other"]) fun _ _ _ _ _ _ us hl => match us, hl with | [_, _], _ => rfl
  have M35 : Meth K CW "__eq__" f35 := ⟨q35, n35, k35⟩
  have F36 := fun_mk (st := s_law_store) l36 c36 k36
  have b36 := F36.binds (ps := ["script"]) fun _ _ _ _ _ _ us hl => match us, hl with | [_], _ => rfl
  have F37 := fun_mk (st := s_law_stir) l37 c37 k37
  have b37 := F37.binds (ps := ["store", "cell"]) fun _ _ _ _ _ _ us hl => match us, hl with | [_, _], _ => rfl
  have F38 := fun_mk (st := s_law_take) l38 c38 k38
  have b38 := F38.binds (ps := ["store", "many"]) fun _ _ _ _ _ _ us hl => match us, hl with | [_, _], _ => rfl
  have F39 := fun_mk (st := s_law_pick) l39 c39 k39
  have b39 := F39.binds (ps := ["store", "items"]) fun _ _ _ _ _ _ us hl => match us, hl with | [_, _], _ => rfl
  have F40 := fun_mk (st := s_law_shuffled) l40 c40 k40
  have b40 := F40.binds (ps := ["store", "items"]) fun _ _ _ _ _ _ us hl => match us, hl with | [_, _], _ => rfl
  have F41 := fun_mk (st := s_law_pool) l41 c41 k41
  have b41 := F41.binds (ps := ["store"]) fun _ _ _ _ _ _ us hl => match us, hl with | [_], _ => rfl
  have F42 := fun_mk (st := s_law_name) l42 c42 k42
  have b42 := F42.binds (ps := ["store"]) fun _ _ _ _ _ _ us hl => match us, hl with | [_], _ => rfl
  have F43 := fun_mk (st := s_law_unused) l43 c43 k43
  have b43 := F43.binds (ps := ["used"]) fun _ _ _ _ _ _ us hl => match us, hl with | [_], _ => rfl
  have F44 := fun_mk (st := s_law_fresh_names) l44 c44 k44
  have b44 := F44.binds (ps := ["store", "many", "used"]) fun _ _ _ _ _ _ us hl => match us, hl with | [_, _, _], _ => rfl
  have F45 := fun_mk (st := s_law_names) l45 c45 k45
  have b45 := F45.binds (ps := ["store", "many"]) fun _ _ _ _ _ _ us hl => match us, hl with | [_, _], _ => rfl
  have F46 := fun_mk (st := s_law_near) l46 c46 k46
  have b46 := F46.binds (ps := ["store", "pool"]) fun _ _ _ _ _ _ us hl => match us, hl with | [_, _], _ => rfl
  have F47 := fun_mk (st := s_law_bar) l47 c47 k47
  have b47 := F47.binds (ps := ["store", "pool"]) fun _ _ _ _ _ _ us hl => match us, hl with | [_, _], _ => rfl
  have F48 := fun_mk (st := s_law_ends) l48 c48 k48
  have b48 := F48.binds (ps := ["store", "pool"]) fun _ _ _ _ _ _ us hl => match us, hl with | [_, _], _ => rfl
  have F49 := fun_mk (st := s_law_edges) l49 c49 k49
  have b49 := F49.binds (ps := ["store", "posts", "labels", "pool"]) fun _ _ _ _ _ _ us hl => match us, hl with | [_, _, _, _], _ => rfl
  have F50 := fun_mk (st := s_law_plan) l50 c50 k50
  have b50 := F50.binds (ps := ["store", "lamps_top", "bonds_top"]) fun _ _ _ _ _ _ us hl => match us, hl with | [_, _, _], _ => rfl
  have F51 := fun_mk (st := s_law_alike) l51 c51 k51
  have b51 := F51.binds (ps := ["left", "right"]) fun _ _ _ _ _ _ us hl => match us, hl with | [_, _], _ => rfl
  have F52 := fun_mk (st := s_law_posts) l52 c52 k52
  have b52 := F52.binds (ps := ["plan"]) fun _ _ _ _ _ _ us hl => match us, hl with | [_], _ => rfl
  have F53 := fun_mk (st := s_law_labels) l53 c53 k53
  have b53 := F53.binds (ps := ["plan"]) fun _ _ _ _ _ _ us hl => match us, hl with | [_], _ => rfl
  have F54 := fun_mk (st := s_law_kept_rows) l54 c54 k54
  have b54 := F54.binds (ps := ["plan"]) fun _ _ _ _ _ _ us hl => match us, hl with | [_], _ => rfl
  have F55 := fun_mk (st := s_law_has_rows) l55 c55 k55
  have b55 := F55.binds (ps := ["web", "plan"]) fun _ _ _ _ _ _ us hl => match us, hl with | [_, _], _ => rfl
  have F56 := fun_mk (st := s_law_is_bond) l56 c56 k56
  have b56 := F56.binds (ps := ["web", "edge", "lights"]) fun _ _ _ _ _ _ us hl => match us, hl with | [_, _, _], _ => rfl
  have F57 := fun_mk (st := s_law_is_web) l57 c57 k57
  have b57 := F57.binds (ps := ["web", "plan", "lights"]) fun _ _ _ _ _ _ us hl => match us, hl with | [_, _, _], _ => rfl
  have F58 := fun_mk (st := s_law_asked) l58 c58 k58
  have b58 := F58.binds (ps := ["web", "k", "one", "two", "value"]) fun _ _ _ _ _ _ us hl => match us, hl with | [_, _, _, _, _], _ => rfl
  have F59 := fun_mk (st := s_law_odd) l59 c59 k59
  have b59 := F59.binds (ps := ["store", "plan"]) fun _ _ _ _ _ _ us hl => match us, hl with | [_, _], _ => rfl
  have F60 := fun_mk (st := s_law_changes) l60 c60 k60
  have b60 := F60.binds (ps := ["store", "web", "plan"]) fun _ _ _ _ _ _ us hl => match us, hl with | [_, _, _], _ => rfl
  have F61 := fun_mk (st := s_law_refuses) l61 c61 k61
  have b61 := F61.binds (ps := ["store", "web", "plan"]) fun _ _ _ _ _ _ us hl => match us, hl with | [_, _, _], _ => rfl
  have F62 := fun_mk (st := slaw) l62 c62 k62
  have b62 := F62.binds (ps := ["script"]) fun _ _ _ _ _ _ us hl => match us, hl with | [_], _ => rfl
  refine ⟨PySem.W.fnOf "law" "law" (defArgs slaw) (defBody slaw) (defScope slaw) .none kV62 dc62 pm62 an62 cd62 ct62, fun s v => .of_eq rfl, fun base _ _ => ?_⟩
  have I_BadName : HasI l.prog w K mg base CN 1 ["self", "name"] (spInit1 K "name") := ⟨fCN, _, ok_BadName_init FICN, iCN, tiCN, bICN⟩
  have I_BadNumber : HasI l.prog w K mg base CE 1 ["self", "number"] (spInit1 K "number") := ⟨fCE, _, ok_BadNumber_init FICE, iCE, tiCE, bICE⟩
  have I_BadSpan : HasI l.prog w K mg base CB 1 ["self", "low", "high"] (spInit2 K "low" "high") := ⟨fCB, _, ok_BadSpan_init FICB, iCB, tiCB, bICB⟩
  have I_Doubled : HasI l.prog w K mg base CD 1 ["self", "name"] (spInit1 K "name") := ⟨fCD, _, ok_Doubled_init FICD, iCD, tiCD, bICD⟩
  have I_SelfBond : HasI l.prog w K mg base CF 1 ["self", "bond"] (spInit1 K "bond") := ⟨fCF, _, ok_SelfBond_init FICF, iCF, tiCF, bICF⟩
  have I_Unknown : HasI l.prog w K mg base CU 1 ["self", "name"] (spInit1 K "name") := ⟨fCU, _, ok_Unknown_init FICU, iCU, tiCU, bICU⟩
  have I_OutOfRange : HasI l.prog w K mg base CR 1 ["self", "number", "low", "high"] (spInit3 K "number" "low" "high") := ⟨fCR, _, ok_OutOfRange_init FICR, iCR, tiCR, bICR⟩
  have Hp_is_number : Has l.prog w K mg base "is_number" 2 ["value"] (spIsNum) := ⟨f0, _, ok_p_is_number (k := 1) F0 T, PySem.W.mg_of X G a0, k0, b0⟩
  have Hcheck_number : HasX l.prog w K mg base "check_number" 3 ["value"] (spCheck CE) := ⟨f1, _, ok_check_number (k := 2) F1 T E_BadNumber I_BadNumber N_BadNumber_number (Hp_is_number.mono (by decide)) (by decide), PySem.W.mg_of X G a1, k1, b1⟩
  have Hcheck_open_number : HasX l.prog w K mg base "check_open_number" 4 ["value"] (spCheckO CE) := ⟨f2, _, ok_check_open_number (k := 3) F2 T (Hcheck_number.mono (by decide)), PySem.W.mg_of X G a2, k2, b2⟩
  have Hare_crossed : Has l.prog w K mg base "are_crossed" 2 ["low", "high"] (spCrossed) := ⟨f3, _, ok_are_crossed (k := 1) F3 T, PySem.W.mg_of X G a3, k3, b3⟩
  have Hcheck_low_high : HasX l.prog w K mg base "check_low_high" 3 ["low", "high"] (spLowHigh CB) := ⟨f4, _, ok_check_low_high (k := 2) F4 T E_BadSpan I_BadSpan N_BadSpan_low N_BadSpan_high (Hare_crossed.mono (by decide)) (by decide), PySem.W.mg_of X G a4, k4, b4⟩
  have O5 := ok_span_init (k := 4) (P := l.prog) (w := w) (base := base) F5 T SS (Hcheck_open_number.mono (by decide)) (Hcheck_low_high.mono (by decide))
  have HM_Span_2 : HasMk l.prog w K mg base (L2.CX l.prog w) CS "Span" 5 ["self", "low", "high"] [] (spSpanI CS CE CB) := by
    obtain ⟨ds, hd, hb⟩ := F5.binds1 (ps := ["self", "low", "high"]) 3 2 (by simp) rfl (fun T kV doc pm an cdv ct us its l1 l2 => match us, l1, its, l2 with | [_, _, _], _, [_, _], _ => ⟨_, rfl, rfl⟩)
    exact ⟨f5, _, ds, O5, MKCS, G_Span, hd, hb⟩
  have Hp_is_name : Has l.prog w K mg base "is_name" 2 ["text"] (spIsName) := ⟨f6, _, ok_p_is_name (k := 1) F6 T, PySem.W.mg_of X G a6, k6, b6⟩
  have Hcheck_name : HasX l.prog w K mg base "check_name" 3 ["text"] (spCheckName CN) := ⟨f7, _, ok_check_name (k := 2) F7 T E_BadName I_BadName N_BadName_name (Hp_is_name.mono (by decide)) (by decide), PySem.W.mg_of X G a7, k7, b7⟩
  have Hcheck_unlike : HasX l.prog w K mg base "check_unlike" 3 ["items"] (spCheckUnlike CD) := ⟨f8, _, ok_check_unlike (k := 2) F8 T E_Doubled I_Doubled N_Doubled_name (by decide), PySem.W.mg_of X G a8, k8, b8⟩
  have Hcheck_between : HasX l.prog w K mg base "check_between" 3 ["number", "low", "high"] (spBetween CR) := ⟨f9, _, ok_check_between (k := 2) F9 T E_OutOfRange I_OutOfRange N_OutOfRange_number N_OutOfRange_low N_OutOfRange_high (by decide), PySem.W.mg_of X G a9, k9, b9⟩
  have Hlook_up : HasX l.prog w K mg base "look_up" 3 ["table", "name"] (spLookUp CU) := ⟨f10, _, ok_look_up (k := 2) F10 T E_Unknown I_Unknown N_Unknown_name (by decide), PySem.W.mg_of X G a10, k10, b10⟩
  have Hcheck_row_numbers : HasX l.prog w K mg base "check_row_numbers" 5 ["lamps", "bonds"] (spRowNums K CE CB) := ⟨f11, _, ok_check_row_numbers (k := 4) F11 T (Hcheck_open_number.mono (by decide)) (Hcheck_low_high.mono (by decide)), PySem.W.mg_of X G a11, k11, b11⟩
  have Hcheck_row_ends : HasX l.prog w K mg base "check_row_ends" 3 ["lamp_names", "bonds"] (spRowEnds K CF CU) := ⟨f12, _, ok_check_row_ends (k := 2) F12 T E_SelfBond I_SelfBond N_SelfBond_bond E_Unknown I_Unknown N_Unknown_name (by decide), PySem.W.mg_of X G a12, k12, b12⟩
  have Hcheck_rows : HasX l.prog w K mg base "check_rows" 6 ["lamps", "bonds"] (spCheckRows K (⟨CN, CE, CB, CD, CF, CU, CR⟩ : ECs)) := ⟨f13, _, ok_check_rows (k := 5) F13 T (Hcheck_name.mono (by decide)) (Hcheck_row_numbers.mono (by decide)) (Hcheck_unlike.mono (by decide)) (Hcheck_row_ends.mono (by decide)) (Hcheck_between.mono (by decide)), PySem.W.mg_of X G a13, k13, b13⟩
  have Hkept_bond_row : Has l.prog w K mg base "kept_bond_row" 2 ["row"] (spKept) := ⟨f14, _, ok_kept_bond_row (k := 1) F14 T, PySem.W.mg_of X G a14, k14, b14⟩
  have O15 := ok_web_init (k := 6) (j := 5) (P := l.prog) (w := w) (base := base) (C := CW) (CS := CS) F15 T SW (Hcheck_rows.mono (by decide)) (Hkept_bond_row.mono (by decide)) (HM_Span_2.mono (by decide)) (by decide)
  have HM_Web_2 : HasMk l.prog w K mg base (L2.CX l.prog w) CW "Web" 7 ["self", "lamps", "bonds"] [] (spWebI K CW CS (⟨CN, CE, CB, CD, CF, CU, CR⟩ : ECs)) := by
    obtain ⟨ds, hd, hb⟩ := F15.binds1 (ps := ["self", "lamps", "bonds"]) 3 1 (by simp) rfl (fun T kV doc pm an cdv ct us its l1 l2 => match us, l1, its, l2 with | [_, _, _], _, [_], _ => ⟨_, rfl, rfl⟩)
    exact ⟨f15, _, ds, O15, MKCW, G_Web, hd, hb⟩
  have HM_Web_1 : HasMk l.prog w K mg base (L2.CX l.prog w) CW "Web" 7 ["self", "lamps", "bonds"] [.ref te] (spWebI K CW CS (⟨CN, CE, CB, CD, CF, CU, CR⟩ : ECs)) := by
    obtain ⟨ds, hd, hb⟩ := F15.binds1 (ps := ["self", "lamps", "bonds"]) 2 0 (by simp) rfl (fun T kV doc pm an cdv ct us its l1 l2 => match us, l1, its, l2 with | [_, _], _, [_], _ => ⟨_, rfl, rfl⟩)
    exact ⟨f15, _, ds, O15, MKCW, G_Web, hd, hb⟩
  have HM_Web_bonds_lamps : HasMkN l.prog w K mg base (L2.CX l.prog w) CW "Web" 7 ["self", "lamps", "bonds"] ["bonds", "lamps"] gRev (spWebI K CW CS (⟨CN, CE, CB, CD, CF, CU, CR⟩ : ECs)) := by
    obtain ⟨its, kb⟩ := F15.kbindsD (ps := ["self", "lamps", "bonds"]) 1 ["bonds", "lamps"] (fun us its ws => us ++ ws.reverse) (by simp) (fun r1 _ r3 => r1.append (vals_rev r3)) (fun T kV doc pm an cdv ct us its ws l1 l2 l3 => match us, l1, its, l2, ws, l3 with | [_], _, [_], _, [_, _], _ => ⟨_, rfl, rfl⟩)
    exact ⟨f15, _, _, O15, MKCW, G_Web, kb⟩
  have HP_Web_lamps : HasPr l.prog w K mg base CX0 CW "lamps" 2 ["self"] (spWLamps CW CS) := ⟨pq16, f16, _, ⟨q16, g16, t16, _, r16⟩, ok_web_lamps (k := 1) F16 T SW, b16⟩
  have HP_Web_bonds : HasPr l.prog w K mg base CX0 CW "bonds" 2 ["self"] (spWBonds CW CS) := ⟨pq17, f17, _, ⟨q17, g17, t17, _, r17⟩, ok_web_bonds (k := 1) F17 T SW, b17⟩
  have HP_Web_lamp_rows : HasPr l.prog w K mg base CX0 CW "lamp_rows" 2 ["self"] (spWLampRows CW CS) := ⟨pq18, f18, _, ⟨q18, g18, t18, _, r18⟩, ok_web_lamp_rows (k := 1) F18 T SW, b18⟩
  have HP_Web_bond_rows : HasPr l.prog w K mg base CX0 CW "bond_rows" 2 ["self"] (spWBondRows CW CS) := ⟨pq19, f19, _, ⟨q19, g19, t19, _, r19⟩, ok_web_bond_rows (k := 1) F19 T SW, b19⟩
  have O20 : FnOk l.prog w K mg base (L2.CX l.prog w) 4 f20 _ ["self", "lamp"] (spWCeil CW CS CU) := ok_web_ceiling (k := 3) F20 T SW (Hlook_up.mono (by decide))
  have HT_Web_ceiling : HasMt l.prog w K mg base (L2.CX l.prog w) CW "ceiling" 4 ["self", "lamp"] (spWCeil CW CS CU) := ⟨f20, _, O20, M20, b20⟩
  have HT_Web_ceiling_lamp : HasMtN l.prog w K mg base (L2.CX l.prog w) CW "ceiling" 4 0 ["self", "lamp"] ["lamp"] gApp (spWCeil CW CS CU) := ⟨f20, _, O20, M20, (fun us ws => us ++ ws), kbn_of F20 (fun r1 r3 => r1.append r3) fun _ _ _ _ _ _ us ws l1 l2 => match us, l1, ws, l2 with | [_], _, [_], _ => rfl⟩
  have O21 : FnOk l.prog w K mg base (L2.CX l.prog w) 4 f21 _ ["self", "bond"] (spWEnds CW CS CU) := ok_web_ends (k := 3) F21 T SW (Hlook_up.mono (by decide))
  have HT_Web_ends : HasMt l.prog w K mg base (L2.CX l.prog w) CW "ends" 4 ["self", "bond"] (spWEnds CW CS CU) := ⟨f21, _, O21, M21, b21⟩
  have HT_Web_ends_bond : HasMtN l.prog w K mg base (L2.CX l.prog w) CW "ends" 4 0 ["self", "bond"] ["bond"] gApp (spWEnds CW CS CU) := ⟨f21, _, O21, M21, (fun us ws => us ++ ws), kbn_of F21 (fun r1 r3 => r1.append r3) fun _ _ _ _ _ _ us ws l1 l2 => match us, l1, ws, l2 with | [_], _, [_], _ => rfl⟩
  have O22 : FnOk l.prog w K mg base (L2.CX l.prog w) 4 f22 _ ["self", "bond"] (spWSpan CW CS CU) := ok_web_span (k := 3) F22 T SW (Hlook_up.mono (by decide))
  have HT_Web_span : HasMt l.prog w K mg base (L2.CX l.prog w) CW "span" 4 ["self", "bond"] (spWSpan CW CS CU) := ⟨f22, _, O22, M22, b22⟩
  have HT_Web_span_bond : HasMtN l.prog w K mg base (L2.CX l.prog w) CW "span" 4 0 ["self", "bond"] ["bond"] gApp (spWSpan CW CS CU) := ⟨f22, _, O22, M22, (fun us ws => us ++ ws), kbn_of F22 (fun r1 r3 => r1.append r3) fun _ _ _ _ _ _ us ws l1 l2 => match us, l1, ws, l2 with | [_], _, [_], _ => rfl⟩
  have O23 : FnOk l.prog w K mg base CX0 2 f23 _ ["self", "light"] (spContains CS) := ok_contains (k := 1) F23 T SS
  have HM_Span_contains : HasM l.prog w K mg base CX0 CS "__contains__" 2 ["self", "light"] (spContains CS) := ⟨f23, _, O23, q23, n23, b23⟩
  have O24 : FnOk l.prog w K mg base (L2.CX l.prog w) 5 f24 _ ["self", "bond", "light"] (spWLets CW CS CE CU) := ok_web_lets (k := 4) F24 T cl_Web (Hcheck_number.mono (by decide)) (HT_Web_span.mono (by decide)) (HM_Span_contains.mono (by decide))
  have HT_Web_lets : HasMt l.prog w K mg base (L2.CX l.prog w) CW "lets" 5 ["self", "bond", "light"] (spWLets CW CS CE CU) := ⟨f24, _, O24, M24, b24⟩
  have HT_Web_lets_light_bond : HasMtN l.prog w K mg base (L2.CX l.prog w) CW "lets" 5 0 ["self", "bond", "light"] ["light", "bond"] gRev (spWLets CW CS CE CU) := ⟨f24, _, O24, M24, (fun us ws => us ++ ws.reverse), kbn_of F24 (fun r1 r3 => r1.append (vals_rev r3)) fun _ _ _ _ _ _ us ws l1 l2 => match us, l1, ws, l2 with | [_], _, [_, _], _ => rfl⟩
  have O25 : FnOk l.prog w K mg base (L2.CX l.prog w) 5 f25 _ ["self", "bond", "lamp"] (spWAcross CW CS CU) := ok_web_across (k := 4) F25 T cl_Web E_Unknown I_Unknown N_Unknown_name (HT_Web_ends.mono (by decide)) (by decide)
  have HT_Web_across : HasMt l.prog w K mg base (L2.CX l.prog w) CW "across" 5 ["self", "bond", "lamp"] (spWAcross CW CS CU) := ⟨f25, _, O25, M25, b25⟩
  have HT_Web_across_lamp_bond : HasMtN l.prog w K mg base (L2.CX l.prog w) CW "across" 5 0 ["self", "bond", "lamp"] ["lamp", "bond"] gRev (spWAcross CW CS CU) := ⟨f25, _, O25, M25, (fun us ws => us ++ ws.reverse), kbn_of F25 (fun r1 r3 => r1.append (vals_rev r3)) fun _ _ _ _ _ _ us ws l1 l2 => match us, l1, ws, l2 with | [_], _, [_, _], _ => rfl⟩
  have O26 : FnOk l.prog w K mg base CX0 2 f26 _ ["self", "lamp"] (spWHas CW CS) := ok_web_contains (k := 1) F26 T SW
  have HM_Web_contains : HasM l.prog w K mg base CX0 CW "__contains__" 2 ["self", "lamp"] (spWHas CW CS) := ⟨f26, _, O26, q26, n26, b26⟩
  have Hcheck_lamp : HasX l.prog w K mg base "check_lamp" 3 ["web", "lamp"] (spCheckLamp CW CS CU) := ⟨f27, _, ok_check_lamp (k := 2) F27 T E_Unknown I_Unknown N_Unknown_name (HM_Web_contains.mono (by decide)) (by decide), PySem.W.mg_of X G a27, k27, b27⟩
  have O28 : FnOk l.prog w K mg base (L2.CX l.prog w) 4 f28 _ ["self", "lamp"] (spWBondsOf CW CS CU) := ok_web_bonds_of (k := 3) F28 T SW (Hcheck_lamp.mono (by decide))
  have HT_Web_bonds_of : HasMt l.prog w K mg base (L2.CX l.prog w) CW "bonds_of" 4 ["self", "lamp"] (spWBondsOf CW CS CU) := ⟨f28, _, O28, M28, b28⟩
  have HT_Web_bonds_of_lamp : HasMtN l.prog w K mg base (L2.CX l.prog w) CW "bonds_of" 4 0 ["self", "lamp"] ["lamp"] gApp (spWBondsOf CW CS CU) := ⟨f28, _, O28, M28, (fun us ws => us ++ ws), kbn_of F28 (fun r1 r3 => r1.append r3) fun _ _ _ _ _ _ us ws l1 l2 => match us, l1, ws, l2 with | [_], _, [_], _ => rfl⟩
  have O29 : FnOk l.prog w K mg base CX0 4 f29 _ ["self", "bond"] (spWOther CW CS) := ok_web_other (k := 3) (j := 2) F29 T cl_Web (HP_Web_bond_rows.mono (by decide)) (by decide)
  have HT_Web_other_bond_rows : HasMt l.prog w K mg base CX0 CW "other_bond_rows" 4 ["self", "bond"] (spWOther CW CS) := ⟨f29, _, O29, M29, b29⟩
  have O30 : FnOk l.prog w K mg base (L2.CX l.prog w) 9 f30 _ ["self", "lamp", "ceiling"] (spWithCeil CW CS CE CU) := ok_web_with_ceiling (k := 8) (j := 7) F30 T SW cl_Web (Hcheck_open_number.mono (by decide)) (Hcheck_lamp.mono (by decide)) (HP_Web_bond_rows.mono (by decide)) (HM_Web_2.mono (by decide)) (by decide)
  have HT_Web_with_ceiling : HasMt l.prog w K mg base (L2.CX l.prog w) CW "with_ceiling" 9 ["self", "lamp", "ceiling"] (spWithCeil CW CS CE CU) := ⟨f30, _, O30, M30, b30⟩
  have HT_Web_with_ceiling_ceiling_lamp : HasMtN l.prog w K mg base (L2.CX l.prog w) CW "with_ceiling" 9 0 ["self", "lamp", "ceiling"] ["ceiling", "lamp"] gRev (spWithCeil CW CS CE CU) := ⟨f30, _, O30, M30, (fun us ws => us ++ ws.reverse), kbn_of F30 (fun r1 r3 => r1.append (vals_rev r3)) fun _ _ _ _ _ _ us ws l1 l2 => match us, l1, ws, l2 with | [_], _, [_, _], _ => rfl⟩
  have O31 : FnOk l.prog w K mg base (L2.CX l.prog w) 9 f31 _ ["self", "bond"] (spWithout CW CS CU) := ok_web_without_bond (k := 8) (j := 7) F31 T SW cl_Web (Hlook_up.mono (by decide)) (HT_Web_other_bond_rows.mono (by decide)) (HP_Web_lamp_rows.mono (by decide)) (HM_Web_2.mono (by decide)) (by decide)
  have HT_Web_without_bond : HasMt l.prog w K mg base (L2.CX l.prog w) CW "without_bond" 9 ["self", "bond"] (spWithout CW CS CU) := ⟨f31, _, O31, M31, b31⟩
  have HT_Web_without_bond_bond : HasMtN l.prog w K mg base (L2.CX l.prog w) CW "without_bond" 9 0 ["self", "bond"] ["bond"] gApp (spWithout CW CS CU) := ⟨f31, _, O31, M31, (fun us ws => us ++ ws), kbn_of F31 (fun r1 r3 => r1.append r3) fun _ _ _ _ _ _ us ws l1 l2 => match us, l1, ws, l2 with | [_], _, [_], _ => rfl⟩
  have O32 : FnOk l.prog w K mg base (L2.CX l.prog w) 9 f32 _ ["self", "bond", "low", "high"] (spWithSpan CW CS CE CB CU) := ok_web_with_span (k := 8) (j := 7) F32 T SW SS cl_Web (HM_Span_2.mono (by decide)) (HT_Web_ends.mono (by decide)) (HT_Web_other_bond_rows.mono (by decide)) (HP_Web_lamp_rows.mono (by decide)) (HM_Web_2.mono (by decide)) (by decide)
  have HT_Web_with_span : HasMt l.prog w K mg base (L2.CX l.prog w) CW "with_span" 9 ["self", "bond", "low", "high"] (spWithSpan CW CS CE CB CU) := ⟨f32, _, O32, M32, b32⟩
  have HT_Web_with_span_high_low_bond : HasMtN l.prog w K mg base (L2.CX l.prog w) CW "with_span" 9 0 ["self", "bond", "low", "high"] ["high", "low", "bond"] gRev (spWithSpan CW CS CE CB CU) := ⟨f32, _, O32, M32, (fun us ws => us ++ ws.reverse), kbn_of F32 (fun r1 r3 => r1.append (vals_rev r3)) fun _ _ _ _ _ _ us ws l1 l2 => match us, l1, ws, l2 with | [_], _, [_, _, _], _ => rfl⟩
  have O33 : FnOk l.prog w K mg base (L2.CX l.prog w) 9 f33 _ ["self", "name", "first", "second", "low", "high"] (spWithBond CW CS (⟨CN, CE, CB, CD, CF, CU, CR⟩ : ECs)) := ok_web_with_bond (k := 8) (j := 7) F33 T SW cl_Web (HP_Web_lamp_rows.mono (by decide)) (HP_Web_bond_rows.mono (by decide)) (HM_Web_2.mono (by decide)) (by decide)
  have HT_Web_with_bond_high_low : HasMtN l.prog w K mg base (L2.CX l.prog w) CW "with_bond" 9 3 ["self", "name", "first", "second", "low", "high"] ["high", "low"] gRev (spWithBond CW CS (⟨CN, CE, CB, CD, CF, CU, CR⟩ : ECs)) := by
    obtain ⟨mv, kb⟩ := F33.kbinds0 (ps := ["self", "name", "first", "second", "low", "high"]) 4 ["high", "low"] [] (fun us mv ws => us ++ ws.reverse) (by simp) (fun q hq => (by cases hq)) (fun r1 _ r3 => r1.append (vals_rev r3)) (fun D doc pm an cdv ct us mv ws l1 l2 l3 => match us, l1, mv, l2, ws, l3 with | [_, _, _, _], _, [], _, [_, _], _ => rfl)
    exact ⟨f33, _, O33, M33, _, kb⟩
  have HT_Web_with_bond_low_high : HasMtN l.prog w K mg base (L2.CX l.prog w) CW "with_bond" 9 3 ["self", "name", "first", "second", "low", "high"] ["low", "high"] gApp (spWithBond CW CS (⟨CN, CE, CB, CD, CF, CU, CR⟩ : ECs)) := by
    obtain ⟨mv, kb⟩ := F33.kbinds0 (ps := ["self", "name", "first", "second", "low", "high"]) 4 ["low", "high"] [] (fun us mv ws => us ++ ws) (by simp) (fun q hq => (by cases hq)) (fun r1 _ r3 => r1.append r3) (fun D doc pm an cdv ct us mv ws l1 l2 l3 => match us, l1, mv, l2, ws, l3 with | [_, _, _, _], _, [], _, [_, _], _ => rfl)
    exact ⟨f33, _, O33, M33, _, kb⟩
  have HT_Web_with_bond_second_first_name : HasMtN l.prog w K mg base (L2.CX l.prog w) CW "with_bond" 9 0 ["self", "name", "first", "second", "low", "high"] ["second", "first", "name"] gRevN (spWithBond CW CS (⟨CN, CE, CB, CD, CF, CU, CR⟩ : ECs)) := by
    obtain ⟨mv, kb⟩ := F33.kbinds0 (ps := ["self", "name", "first", "second", "low", "high"]) 1 ["second", "first", "name"] [("low", .non), ("high", .non)] (fun us mv ws => us ++ ws.reverse ++ mv) (by simp) (fun q hq => hq) (fun r1 r2 r3 => (r1.append (vals_rev r3)).append r2) (fun D doc pm an cdv ct us mv ws l1 l2 l3 => match us, l1, mv, l2, ws, l3 with | [_], _, [_, _], _, [_, _, _], _ => ⟨_, _, _, _, _, _, rfl, rfl, ⟨_, _, _, _, _, _, rfl, rfl, rfl⟩⟩)
    exact ⟨f33, _, O33, M33, _, kb⟩
  have HI_Web : HasIt l.prog w K mg base CW "_ceilings" 2 := ⟨⟨f34, _, ok_web_iter (k := 1) F34 T SW, q34, n34, b34⟩, ilen, ihint⟩
  have O35 : FnOk l.prog w K mg base CX0 2 f35 _ ["self", "other"] (spWEq CW CS) := ok_web_eq (k := 1) F35 T SW SIW G_Web
  have HM_Web_eq : HasM l.prog w K mg base CX0 CW "__eq__" 2 ["self", "other"] (spWEq CW CS) := ⟨f35, _, O35, q35, n35, b35⟩
  have H_law_store : Has l.prog w K mg base "_law_store" 2 ["script"] (spStore K) := ⟨f36, _, ok_store (k := 1) F36 T, PySem.W.mg_of X G a36, k36, b36⟩
  have H_law_stir : Has l.prog w K mg base "_law_stir" 2 ["store", "cell"] (spStir) := ⟨f37, _, ok_stir (k := 1) F37 T, PySem.W.mg_of X G a37, k37, b37⟩
  have H_law_take : Has l.prog w K mg base "_law_take" 3 ["store", "many"] (spTake) := ⟨f38, _, ok_take (k := 2) F38 T (H_law_stir.mono (by decide)), PySem.W.mg_of X G a38, k38, b38⟩
  have H_law_pick : Has l.prog w K mg base "_law_pick" 4 ["store", "items"] (spPick) := ⟨f39, _, ok_pick (k := 3) F39 T (H_law_take.mono (by decide)), PySem.W.mg_of X G a39, k39, b39⟩
  have H_law_shuffled : Has l.prog w K mg base "_law_shuffled" 4 ["store", "items"] (spShuffled) := ⟨f40, _, ok_shuffled (k := 3) F40 T (H_law_take.mono (by decide)), PySem.W.mg_of X G a40, k40, b40⟩
  have H_law_pool : Has l.prog w K mg base "_law_pool" 5 ["store"] (spPool) := ⟨f41, _, ok_pool (k := 4) F41 T (H_law_take.mono (by decide)) (H_law_shuffled.mono (by decide)), PySem.W.mg_of X G a41, k41, b41⟩
  have H_law_name : Has l.prog w K mg base "_law_name" 4 ["store"] (spName) := ⟨f42, _, ok_name (k := 3) F42 T (H_law_take.mono (by decide)), PySem.W.mg_of X G a42, k42, b42⟩
  have H_law_unused : Has l.prog w K mg base "_law_unused" 2 ["used"] (spUnused) := ⟨f43, _, ok_unused (k := 1) F43 T, PySem.W.mg_of X G a43, k43, b43⟩
  have H_law_fresh_names : Has l.prog w K mg base "_law_fresh_names" 5 ["store", "many", "used"] (spFreshNames) := ⟨f44, _, ok_fresh_names (k := 4) F44 T (H_law_name.mono (by decide)) (H_law_unused.mono (by decide)), PySem.W.mg_of X G a44, k44, b44⟩
  have H_law_names : Has l.prog w K mg base "_law_names" 6 ["store", "many"] (spNames) := ⟨f45, _, ok_names (k := 5) F45 T (H_law_take.mono (by decide)) (H_law_fresh_names.mono (by decide)) (H_law_name.mono (by decide)) (H_law_shuffled.mono (by decide)), PySem.W.mg_of X G a45, k45, b45⟩
  have H_law_near : Has l.prog w K mg base "_law_near" 5 ["store", "pool"] (spNear) := ⟨f46, _, ok_near (k := 4) F46 T (H_law_take.mono (by decide)) (H_law_pick.mono (by decide)), PySem.W.mg_of X G a46, k46, b46⟩
  have H_law_bar : Has l.prog w K mg base "_law_bar" 6 ["store", "pool"] (spBar) := ⟨f47, _, ok_bar (k := 5) F47 T (H_law_take.mono (by decide)) (H_law_near.mono (by decide)) (H_law_pick.mono (by decide)), PySem.W.mg_of X G a47, k47, b47⟩
  have H_law_ends : Has l.prog w K mg base "_law_ends" 6 ["store", "pool"] (spEnds) := ⟨f48, _, ok_ends (k := 5) F48 T (H_law_take.mono (by decide)) (H_law_near.mono (by decide)), PySem.W.mg_of X G a48, k48, b48⟩
  have H_law_edges : Has l.prog w K mg base "_law_edges" 7 ["store", "posts", "labels", "pool"] (spEdges) := ⟨f49, _, ok_edges (k := 6) F49 T (H_law_take.mono (by decide)) (H_law_pick.mono (by decide)) (H_law_ends.mono (by decide)), PySem.W.mg_of X G a49, k49, b49⟩
  have H_law_plan : Has l.prog w K mg base "_law_plan" 8 ["store", "lamps_top", "bonds_top"] (spPlan) := ⟨f50, _, ok_plan (k := 7) F50 T (H_law_take.mono (by decide)) (H_law_pool.mono (by decide)) (H_law_names.mono (by decide)) (H_law_bar.mono (by decide)) (H_law_edges.mono (by decide)), PySem.W.mg_of X G a50, k50, b50⟩
  have H_alike0 : Has l.prog w K mg base "_law_alike" 2 ["left", "right"] (spAlike 0) := ⟨f51, _, ok_alike0 (k := 1) F51 T, PySem.W.mg_of X G a51, k51, b51⟩
  have H_alike1 : Has l.prog w K mg base "_law_alike" 3 ["left", "right"] (spAlike 1) := ⟨f51, _, ok_alikeS (k := 2) F51 T H_alike0, PySem.W.mg_of X G a51, k51, b51⟩
  have H_alike2 : Has l.prog w K mg base "_law_alike" 4 ["left", "right"] (spAlike 2) := ⟨f51, _, ok_alikeS (k := 3) F51 T H_alike1, PySem.W.mg_of X G a51, k51, b51⟩
  have H_alike3 : Has l.prog w K mg base "_law_alike" 5 ["left", "right"] (spAlike 3) := ⟨f51, _, ok_alikeS (k := 4) F51 T H_alike2, PySem.W.mg_of X G a51, k51, b51⟩
  have H_law_posts : Has l.prog w K mg base "_law_posts" 2 ["plan"] (spPosts) := ⟨f52, _, ok_posts (k := 1) F52 T, PySem.W.mg_of X G a52, k52, b52⟩
  have H_law_labels : Has l.prog w K mg base "_law_labels" 2 ["plan"] (spLabels) := ⟨f53, _, ok_labels (k := 1) F53 T, PySem.W.mg_of X G a53, k53, b53⟩
  have H_law_kept_rows : Has l.prog w K mg base "_law_kept_rows" 2 ["plan"] (spKeptRows) := ⟨f54, _, ok_kept_rows (k := 1) F54 T, PySem.W.mg_of X G a54, k54, b54⟩
  have H_law_has_rows : Has l.prog w K mg base "_law_has_rows" 6 ["web", "plan"] (spHasRows CW CS) := ⟨f55, _, ok_has_rows (k := 5) (j := 2) F55 T SIW G_Web cl_Web (H_alike3.mono (by decide)) (H_law_kept_rows.mono (by decide)) (HP_Web_lamp_rows.mono (by decide)) (HP_Web_bond_rows.mono (by decide)) (by decide), PySem.W.mg_of X G a55, k55, b55⟩
  have H_law_is_bond : Has l.prog w K mg base "_law_is_bond" 6 ["web", "edge", "lights"] (spIsBond CW CS) := ⟨f56, _, ok_is_bond (k := 5) F56 T SIS SS G_Span cl_Web (H_alike3.mono (by decide)) (HT_Web_span.mono (by decide)) (HT_Web_span_bond.mono (by decide)) (HT_Web_lets.mono (by decide)) (HT_Web_lets_light_bond.mono (by decide)) (HT_Web_ends.mono (by decide)) (HT_Web_ends_bond.mono (by decide)) (HT_Web_across.mono (by decide)) (HT_Web_across_lamp_bond.mono (by decide)), PySem.W.mg_of X G a56, k56, b56⟩
  have H_law_is_web : Has l.prog w K mg base "_law_is_web" 7 ["web", "plan", "lights"] (spIsWeb CW CS) := ⟨f57, _, ok_is_web (k := 6) (j := 2) F57 T cl_Web (HI_Web.mono (by decide)) (H_alike3.mono (by decide)) (H_law_has_rows.mono (by decide)) (H_law_kept_rows.mono (by decide)) (H_law_posts.mono (by decide)) (H_law_is_bond.mono (by decide)) (HP_Web_lamps.mono (by decide)) (HP_Web_bonds.mono (by decide)) (HM_Web_contains.mono (by decide)) (HT_Web_ceiling.mono (by decide)) (HT_Web_ceiling_lamp.mono (by decide)) (HT_Web_bonds_of.mono (by decide)) (HT_Web_bonds_of_lamp.mono (by decide)) (by decide), PySem.W.mg_of X G a57, k57, b57⟩
  have H_law_asked : Has l.prog w K mg base "_law_asked" 10 ["web", "k", "one", "two", "value"] (spAsked CW CS) := ⟨f58, _, ok_asked (c := (⟨CN, CE, CB, CD, CF, CU, CR⟩ : ECs)) (cn := rfl) (k := 9) F58 T TE cl_Web E_Unknown E_BadNumber E_BadSpan N_Unknown_name N_BadNumber_number N_BadSpan_low N_BadSpan_high (HT_Web_ceiling.mono (by decide)) (HT_Web_bonds_of.mono (by decide)) (HT_Web_with_ceiling.mono (by decide)) (HT_Web_ends.mono (by decide)) (HT_Web_span.mono (by decide)) (HT_Web_lets.mono (by decide)) (HT_Web_with_span.mono (by decide)) (HT_Web_without_bond.mono (by decide)) (HT_Web_across.mono (by decide)) (HT_Web_with_bond_low_high.mono (by decide)), PySem.W.mg_of X G a58, k58, b58⟩
  have H_law_odd : Has l.prog w K mg base "_law_odd" 5 ["store", "plan"] (spOdd) := ⟨f59, _, ok_odd (k := 4) F59 T (H_law_posts.mono (by decide)) (H_law_labels.mono (by decide)) (H_law_name.mono (by decide)) (H_law_pick.mono (by decide)), PySem.W.mg_of X G a59, k59, b59⟩
  have H_law_changes : Has l.prog w K mg base "_law_changes" 10 ["store", "web", "plan"] (spChanges CW CS) := ⟨f60, _, ok_changes (k := 9) F60 T cl_Web (H_law_take.mono (by decide)) (H_law_bar.mono (by decide)) (H_law_ends.mono (by decide)) (H_law_fresh_names.mono (by decide)) (HT_Web_with_ceiling.mono (by decide)) (HT_Web_with_ceiling_ceiling_lamp.mono (by decide)) (HT_Web_with_span.mono (by decide)) (HT_Web_with_span_high_low_bond.mono (by decide)) (HT_Web_without_bond.mono (by decide)) (HT_Web_without_bond_bond.mono (by decide)) (HT_Web_with_bond_high_low.mono (by decide)) (HT_Web_with_bond_second_first_name.mono (by decide)), PySem.W.mg_of X G a60, k60, b60⟩
  have H_law_refuses : Has l.prog w K mg base "_law_refuses" 11 ["store", "web", "plan"] (spRefuses CW CS) := ⟨f61, _, ok_refuses (k := 10) F61 T (H_law_pick.mono (by decide)) (H_law_odd.mono (by decide)) (H_law_posts.mono (by decide)) (H_law_labels.mono (by decide)) (H_alike3.mono (by decide)) (H_law_asked.mono (by decide)) (HM_Web_contains.mono (by decide)), PySem.W.mg_of X G a61, k61, b61⟩
  exact ok_law (k := 11) (j := 7) F62 T cl_Web em (H_law_store.mono (by decide)) (H_law_plan.mono (by decide)) (H_law_near.mono (by decide)) (H_law_shuffled.mono (by decide)) (H_law_is_web.mono (by decide)) (H_alike3.mono (by decide)) (H_law_has_rows.mono (by decide)) (H_law_kept_rows.mono (by decide)) (H_law_changes.mono (by decide)) (H_law_refuses.mono (by decide)) (HP_Web_lamps.mono (by decide)) (HP_Web_bonds.mono (by decide)) (HP_Web_lamp_rows.mono (by decide)) (HP_Web_bond_rows.mono (by decide)) (HT_Web_bonds_of.mono (by decide)) (HM_Web_eq.mono (by decide)) (HM_Web_2.mono (by decide)) (HM_Web_1.mono (by decide)) (HM_Web_bonds_lamps.mono (by decide)) (by decide)
end Z
open PySem PySem.W PyProof.Rows
set_option maxRecDepth 100000 in
set_option maxHeartbeats 0 in
theorem PySem.Challenge.cw_outshiners_k06_webs_keep_name_order_holds : PySem.Challenge.rw_outshiners_k06_webs_keep_name_order.Holds := by
  w_on; o_law; k_head; (case hw => w_witness2)
  k_fill
  refine L2.walk_of (l := PySem.Challenge.rw_outshiners_k06_webs_keep_name_order) (n := 63) (k := 12) (x := "script") (CX := fun _ => L2.CX0) (sp := fun w => Z.spLaw _) rfl (by decide) rfl ⟨rfl, by decide, by decide⟩ (fun w h Y => PySem.W.kIn_of Y) ?F (fun _ _ a ns hl _ hS => ⟨a, ns, rfl, hS, fun _ => rfl⟩) (fun _ _ _ _ _ h => h)
  case F =>
    intro w mg fa h KX G hmg
    refine' Z.all_mk KX G hmg ?gCN ?xCN ?rCN ?saCN ?gaCN ?ggCN ?nfCNname ?kpCN ?exCN ?tyCN ?hdCN ?haCN ?hnCN ?htCN ?hmCN ?suCN ?iCN ?tiCN ?lCN ?cCN ?kCN ?gCE ?xCE ?rCE ?saCE ?gaCE ?ggCE ?nfCEnumber ?kpCE ?exCE ?tyCE ?hdCE ?haCE ?hnCE ?htCE ?hmCE ?suCE ?iCE ?tiCE ?lCE ?cCE ?kCE ?gCB ?xCB ?rCB ?saCB ?gaCB ?ggCB ?nfCBlow ?nfCBhigh ?kpCB ?exCB ?tyCB ?hdCB ?haCB ?hnCB ?htCB ?hmCB ?suCB ?iCB ?tiCB ?lCB ?cCB ?kCB ?gCD ?xCD ?rCD ?saCD ?gaCD ?ggCD ?nfCDname ?kpCD ?exCD ?tyCD ?hdCD ?haCD ?hnCD ?htCD ?hmCD ?suCD ?iCD ?tiCD ?lCD ?cCD ?kCD ?gCF ?xCF ?rCF ?saCF ?gaCF ?ggCF ?nfCFbond ?kpCF ?exCF ?tyCF ?hdCF ?haCF ?hnCF ?htCF ?hmCF ?suCF ?iCF ?tiCF ?lCF ?cCF ?kCF ?gCU ?xCU ?rCU ?saCU ?gaCU ?ggCU ?nfCUname ?kpCU ?exCU ?tyCU ?hdCU ?haCU ?hnCU ?htCU ?hmCU ?suCU ?iCU ?tiCU ?lCU ?cCU ?kCU ?gCR ?xCR ?rCR ?saCR ?gaCR ?ggCR ?nfCRnumber ?nfCRlow ?nfCRhigh ?kpCR ?exCR ?tyCR ?hdCR ?haCR ?hnCR ?htCR ?hmCR ?suCR ?iCR ?tiCR ?lCR ?cCR ?kCR ?gcO ?euO ?enO ?ebO ?euN ?euD ?enU ?enD ?ebU ?ebN ?sbnu ?sbbu ?sbbn ?a0 ?l0 ?c0 ?k0 ?a1 ?l1 ?c1 ?k1 ?a2 ?l2 ?c2 ?k2 ?a3 ?l3 ?c3 ?k3 ?a4 ?l4 ?c4 ?k4 ?gCS ?pgCS ?hdCS ?poCS ?saCS ?naCS_low ?naCS_high ?haCS ?hmCS ?ksCS ?mkCS ?kpCS ?kCSint ?kCSstr ?kCStuple ?kCSNoneType ?q5 ?l5 ?c5 ?k5 ?t5 ?n5 ?a6 ?l6 ?c6 ?k6 ?a7 ?l7 ?c7 ?k7 ?a8 ?l8 ?c8 ?k8 ?a9 ?l9 ?c9 ?k9 ?a10 ?l10 ?c10 ?k10 ?a11 ?l11 ?c11 ?k11 ?a12 ?l12 ?c12 ?k12 ?a13 ?l13 ?c13 ?k13 ?a14 ?l14 ?c14 ?k14 ?gCW ?pgCW ?hdCW ?poCW ?saCW ?naCW_ceilings ?naCW_bond_rows ?naCW_ends ?naCW_spans ?haCW ?hmCW ?ksCW ?mkCW ?kpCW ?kCWint ?kCWstr ?kCWtuple ?kCWNoneType ?q15 ?l15 ?c15 ?k15 ?t15 ?n15 ?empt ?q16 ?r16 ?l16 ?c16 ?k16 ?g16 ?t16 ?q17 ?r17 ?l17 ?c17 ?k17 ?g17 ?t17 ?q18 ?r18 ?l18 ?c18 ?k18 ?g18 ?t18 ?q19 ?r19 ?l19 ?c19 ?k19 ?g19 ?t19 ?q20 ?l20 ?c20 ?k20 ?n20 ?q21 ?l21 ?c21 ?k21 ?n21 ?q22 ?l22 ?c22 ?k22 ?n22 ?q23 ?l23 ?c23 ?k23 ?n23 ?q24 ?l24 ?c24 ?k24 ?n24 ?q25 ?l25 ?c25 ?k25 ?n25 ?q26 ?l26 ?c26 ?k26 ?n26 ?a27 ?l27 ?c27 ?k27 ?q28 ?l28 ?c28 ?k28 ?n28 ?q29 ?l29 ?c29 ?k29 ?n29 ?q30 ?l30 ?c30 ?k30 ?n30 ?q31 ?l31 ?c31 ?k31 ?n31 ?q32 ?l32 ?c32 ?k32 ?n32 ?q33 ?l33 ?c33 ?k33 ?w33_low ?w33_high ?n33 ?q34 ?l34 ?c34 ?k34 ?n34 ?ilen ?ihint ?q35 ?l35 ?c35 ?k35 ?n35 ?a36 ?l36 ?c36 ?k36 ?a37 ?l37 ?c37 ?k37 ?a38 ?l38 ?c38 ?k38 ?a39 ?l39 ?c39 ?k39 ?a40 ?l40 ?c40 ?k40 ?a41 ?l41 ?c41 ?k41 ?a42 ?l42 ?c42 ?k42 ?a43 ?l43 ?c43 ?k43 ?a44 ?l44 ?c44 ?k44 ?a45 ?l45 ?c45 ?k45 ?a46 ?l46 ?c46 ?k46 ?a47 ?l47 ?c47 ?k47 ?a48 ?l48 ?c48 ?k48 ?a49 ?l49 ?c49 ?k49 ?a50 ?l50 ?c50 ?k50 ?a51 ?l51 ?c51 ?k51 ?a52 ?l52 ?c52 ?k52 ?a53 ?l53 ?c53 ?k53 ?a54 ?l54 ?c54 ?k54 ?a55 ?l55 ?c55 ?k55 ?a56 ?l56 ?c56 ?k56 ?a57 ?l57 ?c57 ?k57 ?a58 ?l58 ?c58 ?k58 ?a59 ?l59 ?c59 ?k59 ?a60 ?l60 ?c60 ?k60 ?a61 ?l61 ?c61 ?k61 ?a62 ?l62 ?c62 ?k62 ?z_ValueError ?z_all ?z_bool ?z_dict ?z_int ?z_isinstance ?z_iter ?z_len ?z_list ?z_max ?z_min ?z_range ?z_set ?z_sorted ?z_str ?z_tuple ?zc_LIMIT ?zc_LETTERS ?zc_LETTERS_AND_DIGITS ?zc_LONGEST_NAME ?zc_MOST_LAMPS ?zc_MOST_BONDS
    case gCN => k_is
    case xCN => k_is
    case rCN => first | rfl | decide +kernel
    case saCN => k_is
    case gaCN => k_is
    case ggCN => k_is
    case nfCNname => k_is
    case kpCN => k_is
    case exCN => k_is
    case tyCN => k_is
    case hdCN => k_is
    case haCN => k_is
    case hnCN => k_is
    case htCN => k_is
    case hmCN => k_is
    case suCN => first | rfl | k_is
    case iCN => k_is
    case tiCN => k_is
    case lCN => k_is
    case cCN => k_is
    case kCN => k_is
    case gCE => k_is
    case xCE => k_is
    case rCE => first | rfl | decide +kernel
    case saCE => k_is
    case gaCE => k_is
    case ggCE => k_is
    case nfCEnumber => k_is
    case kpCE => k_is
    case exCE => k_is
    case tyCE => k_is
    case hdCE => k_is
    case haCE => k_is
    case hnCE => k_is
    case htCE => k_is
    case hmCE => k_is
    case suCE => first | rfl | k_is
    case iCE => k_is
    case tiCE => k_is
    case lCE => k_is
    case cCE => k_is
    case kCE => k_is
    case gCB => k_is
    case xCB => k_is
    case rCB => first | rfl | decide +kernel
    case saCB => k_is
    case gaCB => k_is
    case ggCB => k_is
    case nfCBlow => k_is
    case nfCBhigh => k_is
    case kpCB => k_is
    case exCB => k_is
    case tyCB => k_is
    case hdCB => k_is
    case haCB => k_is
    case hnCB => k_is
    case htCB => k_is
    case hmCB => k_is
    case suCB => first | rfl | k_is
    case iCB => k_is
    case tiCB => k_is
    case lCB => k_is
    case cCB => k_is
    case kCB => k_is
    case gCD => k_is
    case xCD => k_is
    case rCD => first | rfl | decide +kernel
    case saCD => k_is
    case gaCD => k_is
    case ggCD => k_is
    case nfCDname => k_is
    case kpCD => k_is
    case exCD => k_is
    case tyCD => k_is
    case hdCD => k_is
    case haCD => k_is
    case hnCD => k_is
    case htCD => k_is
    case hmCD => k_is
    case suCD => first | rfl | k_is
    case iCD => k_is
    case tiCD => k_is
    case lCD => k_is
    case cCD => k_is
    case kCD => k_is
    case gCF => k_is
    case xCF => k_is
    case rCF => first | rfl | decide +kernel
    case saCF => k_is
    case gaCF => k_is
    case ggCF => k_is
    case nfCFbond => k_is
    case kpCF => k_is
    case exCF => k_is
    case tyCF => k_is
    case hdCF => k_is
    case haCF => k_is
    case hnCF => k_is
    case htCF => k_is
    case hmCF => k_is
    case suCF => first | rfl | k_is
    case iCF => k_is
    case tiCF => k_is
    case lCF => k_is
    case cCF => k_is
    case kCF => k_is
    case gCU => k_is
    case xCU => k_is
    case rCU => first | rfl | decide +kernel
    case saCU => k_is
    case gaCU => k_is
    case ggCU => k_is
    case nfCUname => k_is
    case kpCU => k_is
    case exCU => k_is
    case tyCU => k_is
    case hdCU => k_is
    case haCU => k_is
    case hnCU => k_is
    case htCU => k_is
    case hmCU => k_is
    case suCU => first | rfl | k_is
    case iCU => k_is
    case tiCU => k_is
    case lCU => k_is
    case cCU => k_is
    case kCU => k_is
    case gCR => k_is
    case xCR => k_is
    case rCR => first | rfl | decide +kernel
    case saCR => k_is
    case gaCR => k_is
    case ggCR => k_is
    case nfCRnumber => k_is
    case nfCRlow => k_is
    case nfCRhigh => k_is
    case kpCR => k_is
    case exCR => k_is
    case tyCR => k_is
    case hdCR => k_is
    case haCR => k_is
    case hnCR => k_is
    case htCR => k_is
    case hmCR => k_is
    case suCR => first | rfl | k_is
    case iCR => k_is
    case tiCR => k_is
    case lCR => k_is
    case cCR => k_is
    case kCR => k_is
    case gcO => k_is
    case euO => first | k_is | kit_is
    case enO => first | k_is | kit_is
    case ebO => first | k_is | kit_is
    case euN => first | k_is | kit_is
    case euD => first | k_is | kit_is
    case enU => first | k_is | kit_is
    case enD => first | k_is | kit_is
    case ebU => first | k_is | kit_is
    case ebN => first | k_is | kit_is
    case sbnu => first | rfl | k_is
    case sbbu => first | rfl | k_is
    case sbbn => first | rfl | k_is
    case a0 => k_is
    case l0 => k_is
    case c0 => k_is
    case k0 => k_is
    case a1 => k_is
    case l1 => k_is
    case c1 => k_is
    case k1 => k_is
    case a2 => k_is
    case l2 => k_is
    case c2 => k_is
    case k2 => k_is
    case a3 => k_is
    case l3 => k_is
    case c3 => k_is
    case k3 => k_is
    case a4 => k_is
    case l4 => k_is
    case c4 => k_is
    case k4 => k_is
    case gCS => k_is
    case pgCS => k_is
    case hdCS => k_is
    case poCS => k_is
    case saCS => k_is
    case naCS_low => k_is
    case naCS_high => k_is
    case haCS => k_is
    case hmCS => k_is
    case ksCS => first | k_is | kit_is
    case mkCS => k_is
    case kpCS => k_is
    case kCSint => first | k_is | kit_is
    case kCSstr => first | k_is | kit_is
    case kCStuple => first | k_is | kit_is
    case kCSNoneType => first | k_is | kit_is
    case q5 => k_is
    case l5 => k_is
    case c5 => k_is
    case k5 => k_is
    case t5 => k_is
    case n5 => k_is
    case a6 => k_is
    case l6 => k_is
    case c6 => k_is
    case k6 => k_is
    case a7 => k_is
    case l7 => k_is
    case c7 => k_is
    case k7 => k_is
    case a8 => k_is
    case l8 => k_is
    case c8 => k_is
    case k8 => k_is
    case a9 => k_is
    case l9 => k_is
    case c9 => k_is
    case k9 => k_is
    case a10 => k_is
    case l10 => k_is
    case c10 => k_is
    case k10 => k_is
    case a11 => k_is
    case l11 => k_is
    case c11 => k_is
    case k11 => k_is
    case a12 => k_is
    case l12 => k_is
    case c12 => k_is
    case k12 => k_is
    case a13 => k_is
    case l13 => k_is
    case c13 => k_is
    case k13 => k_is
    case a14 => k_is
    case l14 => k_is
    case c14 => k_is
    case k14 => k_is
    case gCW => k_is
    case pgCW => k_is
    case hdCW => k_is
    case poCW => k_is
    case saCW => k_is
    case naCW_ceilings => k_is
    case naCW_bond_rows => k_is
    case naCW_ends => k_is
    case naCW_spans => k_is
    case haCW => k_is
    case hmCW => k_is
    case ksCW => first | k_is | kit_is
    case mkCW => k_is
    case kpCW => k_is
    case kCWint => first | k_is | kit_is
    case kCWstr => first | k_is | kit_is
    case kCWtuple => first | k_is | kit_is
    case kCWNoneType => first | k_is | kit_is
    case q15 => k_is
    case l15 => k_is
    case c15 => k_is
    case k15 => k_is
    case t15 => k_is
    case n15 => k_is
    case empt => k_is
    case q16 => k_is
    case r16 => k_is
    case l16 => k_is
    case c16 => k_is
    case k16 => k_is
    case g16 => k_is
    case t16 => k_is
    case q17 => k_is
    case r17 => k_is
    case l17 => k_is
    case c17 => k_is
    case k17 => k_is
    case g17 => k_is
    case t17 => k_is
    case q18 => k_is
    case r18 => k_is
    case l18 => k_is
    case c18 => k_is
    case k18 => k_is
    case g18 => k_is
    case t18 => k_is
    case q19 => k_is
    case r19 => k_is
    case l19 => k_is
    case c19 => k_is
    case k19 => k_is
    case g19 => k_is
    case t19 => k_is
    case q20 => k_is
    case l20 => k_is
    case c20 => k_is
    case k20 => k_is
    case n20 => k_is
    case q21 => k_is
    case l21 => k_is
    case c21 => k_is
    case k21 => k_is
    case n21 => k_is
    case q22 => k_is
    case l22 => k_is
    case c22 => k_is
    case k22 => k_is
    case n22 => k_is
    case q23 => k_is
    case l23 => k_is
    case c23 => k_is
    case k23 => k_is
    case n23 => k_is
    case q24 => k_is
    case l24 => k_is
    case c24 => k_is
    case k24 => k_is
    case n24 => k_is
    case q25 => k_is
    case l25 => k_is
    case c25 => k_is
    case k25 => k_is
    case n25 => k_is
    case q26 => k_is
    case l26 => k_is
    case c26 => k_is
    case k26 => k_is
    case n26 => k_is
    case a27 => k_is
    case l27 => k_is
    case c27 => k_is
    case k27 => k_is
    case q28 => k_is
    case l28 => k_is
    case c28 => k_is
    case k28 => k_is
    case n28 => k_is
    case q29 => k_is
    case l29 => k_is
    case c29 => k_is
    case k29 => k_is
    case n29 => k_is
    case q30 => k_is
    case l30 => k_is
    case c30 => k_is
    case k30 => k_is
    case n30 => k_is
    case q31 => k_is
    case l31 => k_is
    case c31 => k_is
    case k31 => k_is
    case n31 => k_is
    case q32 => k_is
    case l32 => k_is
    case c32 => k_is
    case k32 => k_is
    case n32 => k_is
    case q33 => k_is
    case l33 => k_is
    case c33 => k_is
    case k33 => k_is
    case w33_low => k_is
    case w33_high => k_is
    case n33 => k_is
    case q34 => k_is
    case l34 => k_is
    case c34 => k_is
    case k34 => k_is
    case n34 => k_is
    case ilen => k_is
    case ihint => k_is
    case q35 => k_is
    case l35 => k_is
    case c35 => k_is
    case k35 => k_is
    case n35 => k_is
    case a36 => k_is
    case l36 => k_is
    case c36 => k_is
    case k36 => k_is
    case a37 => k_is
    case l37 => k_is
    case c37 => k_is
    case k37 => k_is
    case a38 => k_is
    case l38 => k_is
    case c38 => k_is
    case k38 => k_is
    case a39 => k_is
    case l39 => k_is
    case c39 => k_is
    case k39 => k_is
    case a40 => k_is
    case l40 => k_is
    case c40 => k_is
    case k40 => k_is
    case a41 => k_is
    case l41 => k_is
    case c41 => k_is
    case k41 => k_is
    case a42 => k_is
    case l42 => k_is
    case c42 => k_is
    case k42 => k_is
    case a43 => k_is
    case l43 => k_is
    case c43 => k_is
    case k43 => k_is
    case a44 => k_is
    case l44 => k_is
    case c44 => k_is
    case k44 => k_is
    case a45 => k_is
    case l45 => k_is
    case c45 => k_is
    case k45 => k_is
    case a46 => k_is
    case l46 => k_is
    case c46 => k_is
    case k46 => k_is
    case a47 => k_is
    case l47 => k_is
    case c47 => k_is
    case k47 => k_is
    case a48 => k_is
    case l48 => k_is
    case c48 => k_is
    case k48 => k_is
    case a49 => k_is
    case l49 => k_is
    case c49 => k_is
    case k49 => k_is
    case a50 => k_is
    case l50 => k_is
    case c50 => k_is
    case k50 => k_is
    case a51 => k_is
    case l51 => k_is
    case c51 => k_is
    case k51 => k_is
    case a52 => k_is
    case l52 => k_is
    case c52 => k_is
    case k52 => k_is
    case a53 => k_is
    case l53 => k_is
    case c53 => k_is
    case k53 => k_is
    case a54 => k_is
    case l54 => k_is
    case c54 => k_is
    case k54 => k_is
    case a55 => k_is
    case l55 => k_is
    case c55 => k_is
    case k55 => k_is
    case a56 => k_is
    case l56 => k_is
    case c56 => k_is
    case k56 => k_is
    case a57 => k_is
    case l57 => k_is
    case c57 => k_is
    case k57 => k_is
    case a58 => k_is
    case l58 => k_is
    case c58 => k_is
    case k58 => k_is
    case a59 => k_is
    case l59 => k_is
    case c59 => k_is
    case k59 => k_is
    case a60 => k_is
    case l60 => k_is
    case c60 => k_is
    case k60 => k_is
    case a61 => k_is
    case l61 => k_is
    case c61 => k_is
    case k61 => k_is
    case a62 => k_is
    case l62 => k_is
    case c62 => k_is
    case k62 => k_is
    case z_ValueError => k_is
    case z_all => k_is
    case z_bool => k_is
    case z_dict => k_is
    case z_int => k_is
    case z_isinstance => k_is
    case z_iter => k_is
    case z_len => k_is
    case z_list => k_is
    case z_max => k_is
    case z_min => k_is
    case z_range => k_is
    case z_set => k_is
    case z_sorted => k_is
    case z_str => k_is
    case z_tuple => k_is
    case zc_LIMIT => exact ⟨_, by k_is⟩
    case zc_LETTERS => exact ⟨_, by k_is⟩
    case zc_LETTERS_AND_DIGITS => exact ⟨_, by k_is⟩
    case zc_LONGEST_NAME => exact ⟨_, by k_is⟩
    case zc_MOST_LAMPS => exact ⟨_, by k_is⟩
    case zc_MOST_BONDS => exact ⟨_, by k_is⟩
