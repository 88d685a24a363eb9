import PyProof.Rows.All
import Wide.All
import OpenK.AllK
import Wide.FinOn
import KE.KStateDown
import PyProof.EqAt
import PyProof.EqKinds
import PyProof.TupleCall
import HandS.ForMost
import HandS.Defaults
import HandS.Wide
import HandS.NoneIn
import HandS.IsInst
import HandS.Zip
import HandS.Codes
import HandS.Style
import HandS.Conv
import HandS.Deep
import HandS.Walk
import HandS.Head0
import HandS.Head1
import HandS.Head2
import HandS.HeadEnd
import HandS.HeadHook1
import HandS.HeadHook2
import KE.GoesNew
import HandS.HotCalls
import HandS.ExcIs
import HandS.Comp
import HandS.ExcCtx
import HandS.Text
import HandS.HeadHook3
import HandS.HeadHook4
import HandS.OwnEq
import PySem.Challenge.RW_lifehold_k19_rows_days_and_runs_refused
set_option Elab.async false
set_option linter.all false
set_option maxRecDepth 100000
set_option maxHeartbeats 4000000
/-! own words over the hand layer -/
namespace LH
open PySem PySem.Spec PyProof.Rows L2
abbrev FnP (K : PySem.W.Frag) (x : Str) (st : Stmt) (f : Addr) (fd : FuncData) : Prop := FunD K x x (defArgs st) (defBody st) (defScope st) [] [] f fd
/-- a def of the text that lets nothing out, by its name -/
structure Own (P : Program) (w : World) (K : PySem.W.Frag) (mg : Str → Option Value) (base : Heap) (x : Str) (ps : List Str) (k : Nat) (sp : Sp) : Prop where
  ex : ∃ (f : Addr) (fd : FuncData), FnOk P w K mg base CX0 k f fd ps sp ∧ mg x = some (.ref f) ∧ PySem.W.keepIn K (.ref f) = true ∧ Binds K fd ps []
section
variable {X : Cx}
theorem pe_own {x : Str} {ps : List Str} {k : Nat} {sp : Sp} {e : Expr} {es : List Expr} {p pos : Pos} {t : TA} (C : Own X.prog X.w X.K X.mg X.base x ps k sp) (hr : Room k X.A) (ha : PA X (e :: es) t) (hg : Gl X x := by rfl)
    (hdb : (x == ("__debug__" : Str)) = false := by decide) (he : starEach (e :: es) X.env = (false, eval e X.env) :: starEach es X.env := by rfl) (hpl : (backTo pos (starEach es X.env)).any (·.1) = false := by rfl) :
    PE X (.Call (.Name x p) (e :: es) [] pos) (tCall sp [] E0 t) := by
  obtain ⟨f, fd, F, hm, hk, hb⟩ := C.ex
  exact pe_call F hr hg hm hk hb .nil pass0 ha hdb he hpl
theorem pe_own0 {x : Str} {ps : List Str} {k : Nat} {sp : Sp} {p pos : Pos} (C : Own X.prog X.w X.K X.mg X.base x ps k sp) (hr : Room k X.A) (hg : Gl X x := by rfl)
    (hdb : (x == ("__debug__" : Str)) = false := by decide) : PE X (.Call (.Name x p) [] [] pos) (tCall sp [] E0 tNil) := by
  obtain ⟨f, fd, F, hm, hk, hb⟩ := C.ex
  exact pe_call0 F hr hg hm hk hb .nil pass0 hdb
theorem pe_const {x : Str} {i : Int} {pos : Pos} (h : ∃ t, X.mg x = some (.int i t)) (hg : Gl X x := by rfl) (hd : (x == ("__debug__" : Str)) = false := by decide) : PE X (.Name x pos) (tC (.int i)) := by
  obtain ⟨t, h⟩ := h
  exact pe_glob hg h ⟨_, rfl⟩ hd
end
/-! heaps -/
theorem same_new {H : Hp} {p : Addr} {o : HO} (h : H p = none) : Same H (upd H p o) := fun a u e => by
  rw [upd_ne (ne_of_none e h)]
  exact e
/-- what H does not know may change -/
theorem same_mut {H H' : Hp} {p : Addr} {o : HO} (e : Same H H') (h : H p = none) : Same H (upd H' p o) := fun a u ha => by
  rw [upd_ne (ne_of_none ha h)]
  exact e a u ha
theorem same_free {H H' : Hp} (e : Same H H') {l : Addr} (h : H' l = none) : H l = none := e.free h
theorem same_t {K : PySem.W.Frag} {H H' : Hp} {a : Addr} {xs : List V} (e : Same H H') (h : SqT K H a xs) : SqT K H' a xs := by
  rcases h with (h | ⟨o, h⟩) | h
  · exact .inl (.inl (e _ _ h))
  · exact .inl (.inr ⟨o, e _ _ h⟩)
  · exact .inr h
theorem sz_of {n : Nat} (h : n ≤ 100000) : n ≤ sizeLine := Nat.le_trans h (by decide)
theorem sz_lt {n : Nat} (h : n < 100000) : n < sizeLine := Nat.lt_of_lt_of_le h (by decide)
theorem mulR {i j : Int} (h1 : -(2 ^ 64) < j) (h2 : j < 2 ^ 64) : CMul i j := .inr ⟨h1, h2⟩
theorem mulL {i j : Int} (h1 : -(2 ^ 64) < i) (h2 : i < 2 ^ 64) : CMul i j := .inl ⟨h1, h2⟩
theorem bool_tt (b : Bool) : (b = true) ∨ (b = false) := by cases b <;> simp
theorem get_ints {ns : List Int} {i : Nat} {y : V} (hi : (ns.map V.int)[i]? = some y) : ∃ z, ns[i]? = some z ∧ y = V.int z := by
  rw [List.getElem?_map] at hi
  cases e : ns[i]? with
  | none => rw [e] at hi; cases hi
  | some z => rw [e] at hi; exact ⟨z, rfl, (Option.some.inj hi).symm⟩
/-! the rules that speak of the written part, with that part named -/
section
variable {X : Cx} (K : PySem.W.Frag)
theorem ixl (h : X.K = K := by rfl) : IxR X (rIxL K) := by subst h; exact ix_list
theorem ixt (h : X.K = K := by rfl) : IxR X (rIxT K) := by subst h; exact ix_tup
theorem lenK (h : X.K = K := by rfl) : CallR X (.builtin "len") (fun vs H Q => ∃ p ys, vs = [.ref p] ∧ (SqL K H p ys ∨ SqT K H p ys) ∧ Q (.int ys.length) H) := by subst h; exact call_len_seq
theorem slK (h : X.K = K := by rfl) : SlR X (rSlL K) := by subst h; exact sl_list
theorem allK (hc : X.calm = true) (h : X.K = K := by rfl) : CallR X (.builtin "all") (rAll K) := by subst h; exact cr_all hc
theorem anyK (hc : X.calm = true) (h : X.K = K := by rfl) : CallR X (.builtin "any") (rAny K) := by subst h; exact cr_any hc
theorem sumK (hc : X.calm = true) (h : X.K = K := by rfl) : CallR X (.builtin "sum") (rSum K) := by subst h; exact cr_sum hc
theorem maxK (hc : X.calm = true) (h : X.K = K := by rfl) : CallR X (.builtin "max") (rMax K) := by subst h; exact cr_max hc
theorem minK (hc : X.calm = true) (h : X.K = K := by rfl) : CallR X (.builtin "min") (rMin K) := by subst h; exact cr_min hc
theorem isiK (h : X.K = K := by rfl) : CallR X (.builtin "isinstance") (rIsi K) := by subst h; exact call_isi
theorem lstK (h : X.K = K := by rfl) : CallR X (.type "list") (fun vs H Q => ∃ p ys, vs = [.ref p] ∧ (SqL K H p ys ∨ SqT K H p ys) ∧ ∀ l, H l = none → Q (.ref l) (upd H l (.lst ys))) := by subst h; exact call_list_of
theorem eqDK (hu : X.A.units + 64 < cLine) (h : X.K = K := by rfl) : OpR X (compareOp .Eq) (rEqD K) := by subst h; exact op_eqD hu
theorem neDK (hu : X.A.units + 64 < cLine) (h : X.K = K := by rfl) : OpR X (compareOp .NotEq) (rNeD K) := by subst h; exact op_neD hu
theorem pilK {tg l : Expr} {tl : TE} (hl : PE X l tl) (h : X.K = K := by rfl) : PI X tg l (iList K tl) := by subst h; exact pi_list hl
theorem pitK {tg l : Expr} {tl : TE} (hl : PE X l tl) (h : X.K = K := by rfl) : PI X tg l (iTup K tl) := by subst h; exact pi_tup hl
theorem pgtK {es : List Expr} {k : Nat} {t : TGs} {n : Nat} {pos : Pos} (hc : X.calm = true) (hh : PGs X es t) (h : X.K = K := by rfl) (hn : (assignEach es X.env).length = n := by rfl) (hst : (assignEach es X.env).findIdx? (·.1) = none := by rfl) :
    PG X (.Tuple es k pos) (gTup K n t) := by subst h; exact pg_tup hc hh hn hst
theorem pguK {es : List Expr} {k : Nat} {t : TGs} {n : Nat} {pos : Pos} (hc : X.calm = true) (hh : PGs X es t) (h : X.K = K := by rfl) (hn : (assignEach es X.env).length = n := by rfl) (hst : (assignEach es X.env).findIdx? (·.1) = none := by rfl) :
    PG X (.Tuple es k pos) (gUnl K n t) := by subst h; exact pg_unl hc hh hn hst
theorem inDK (hu : X.A.units + 65 < cLine) (h : X.K = K := by rfl) : OpR X (compareOp .In) (rInD K) := by subst h; exact op_inD hu
theorem notInDK (hu : X.A.units + 65 < cLine) (h : X.K = K := by rfl) : OpR X (compareOp .NotIn) (rNotInD K) := by subst h; exact op_notInD hu
theorem inSK (h : X.K = K := by rfl) : OpR X (compareOp .In) (rIn K false) := by subst h; exact op_in_seq
theorem notInSK (h : X.K = K := by rfl) : OpR X (compareOp .NotIn) (rIn K true) := by subst h; exact op_notIn_seq
end
theorem u65 {k : Nat} {A : Around} (hr : Room k A) : A.units + 65 < cLine := by
  have := hr.un
  omega
end LH

set_option Elab.async false
set_option linter.all false
set_option maxRecDepth 100000
set_option maxHeartbeats 4000000
namespace LH
open PySem PySem.Spec PyProof.Rows L2
/-! ties -/
abbrev Tie := Int × Int × Int
def TieAt (H : Hp) (v : V) (t : Tie) : Prop := ∃ p, v = .ref p ∧ H p = some (.tup [.int t.1, .int t.2.1, .int t.2.2])
def TiesAt (H : Hp) : List V → List Tie → Prop
  | [], [] => True
  | v :: vs, t :: ts => TieAt H v t ∧ TiesAt H vs ts
  | _, _ => False
theorem TieAt.mono {H H' : Hp} {v : V} {t : Tie} (e : Same H H') (h : TieAt H v t) : TieAt H' v t := by
  obtain ⟨p, h1, h2⟩ := h
  exact ⟨p, h1, e _ _ h2⟩
theorem TiesAt.mono {H H' : Hp} (e : Same H H') : ∀ {vs : List V} {ts : List Tie}, TiesAt H vs ts → TiesAt H' vs ts
  | [], [], _ => trivial
  | _ :: _, _ :: _, h => ⟨h.1.mono e, TiesAt.mono e h.2⟩
theorem TiesAt.updL {H : Hp} {l : Addr} {o : HO} {zs : List V} (hl : H l = some (.lst zs)) : ∀ {vs : List V} {ts : List Tie}, TiesAt H vs ts → TiesAt (upd H l o) vs ts
  | [], [], _ => trivial
  | _ :: _, _ :: _, h => by
    obtain ⟨⟨p, h1, h2⟩, h3⟩ := h
    exact ⟨⟨p, h1, by rw [upd_ne (ne_of h2 hl (by intro z; cases z))]; exact h2⟩, TiesAt.updL hl h3⟩
theorem TiesAt.length {H : Hp} : ∀ {vs : List V} {ts : List Tie}, TiesAt H vs ts → vs.length = ts.length
  | [], [], _ => rfl
  | _ :: _, _ :: _, h => by simp [TiesAt.length h.2]
theorem TiesAt.app {H : Hp} : ∀ {vs ws : List V} {ts us : List Tie}, TiesAt H vs ts → TiesAt H ws us → TiesAt H (vs ++ ws) (ts ++ us)
  | [], _, [], _, _, h2 => h2
  | _ :: _, _, _ :: _, _, h, h2 => ⟨h.1, TiesAt.app h.2 h2⟩
theorem TiesAt.get {H : Hp} : ∀ {vs : List V} {ts : List Tie} {i : Nat} {v : V}, TiesAt H vs ts → vs[i]? = some v → ∃ t, ts[i]? = some t ∧ TieAt H v t
  | [], [], i, v, _, h2 => by simp at h2
  | v :: vs, t :: ts, 0, w, h, h2 => by
    have e : v = w := Option.some.inj h2
    subst e
    exact ⟨t, rfl, h.1⟩
  | v :: vs, t :: ts, i + 1, w, h, h2 => TiesAt.get (i := i) h.2 h2
theorem TiesAt.get' {H : Hp} {vs : List V} {ts : List Tie} {i : Nat} {t : Tie} (h : TiesAt H vs ts) (h2 : ts[i]? = some t) : ∃ v, vs[i]? = some v ∧ TieAt H v t := by
  have hi : i < vs.length := by
    rw [h.length]
    exact (List.getElem?_eq_some_iff.mp h2).1
  obtain ⟨t', e, q⟩ := h.get (List.getElem?_eq_getElem hi)
  rw [h2] at e
  cases e
  exact ⟨_, List.getElem?_eq_getElem hi, q⟩
theorem TiesAt.set {H : Hp} : ∀ {vs : List V} {ts : List Tie} {i : Nat} {v : V} {t : Tie}, TiesAt H vs ts → TieAt H v t → TiesAt H (vs.set i v) (ts.set i t)
  | [], [], _, _, _, _, _ => trivial
  | _ :: _, _ :: _, 0, _, _, h, h2 => ⟨h2, h.2⟩
  | _ :: _, _ :: _, i + 1, _, _, h, h2 => ⟨h.1, TiesAt.set (i := i) h.2 h2⟩
theorem TiesAt.take {H : Hp} : ∀ {vs : List V} {ts : List Tie} (n : Nat), TiesAt H vs ts → TiesAt H (vs.take n) (ts.take n)
  | [], [], n, _ => by simp [TiesAt]
  | _ :: _, _ :: _, 0, _ => trivial
  | _ :: _, _ :: _, n + 1, h => ⟨h.1, TiesAt.take n h.2⟩
theorem TiesAt.drop {H : Hp} : ∀ {vs : List V} {ts : List Tie} (n : Nat), TiesAt H vs ts → TiesAt H (vs.drop n) (ts.drop n)
  | [], [], n, _ => by simp [TiesAt]
  | _ :: _, _ :: _, 0, h => h
  | _ :: _, _ :: _, n + 1, h => TiesAt.drop n h.2
theorem TiesAt.rep {H : Hp} {vs : List V} {ts : List Tie} (h : TiesAt H vs ts) : ∀ n : Nat, TiesAt H (List.replicate n vs).flatten (List.replicate n ts).flatten
  | 0 => trivial
  | n + 1 => by
    rw [List.replicate_succ, List.replicate_succ, List.flatten_cons, List.flatten_cons]
    exact h.app (TiesAt.rep h n)
/-- a tie for so many lives -/
def TieOk (many : Int) (t : Tie) : Prop := -1 ≤ t.1 ∧ t.1 < many ∧ -1 ≤ t.2.1 ∧ t.2.1 < many ∧ t.1 ≠ t.2.1 ∧ -9999 ≤ t.2.2 ∧ t.2.2 ≤ 9999
instance (many : Int) (t : Tie) : Decidable (TieOk many t) := by unfold TieOk; infer_instance
/-- two ways -/
def Ways (c A B : Prop) : Prop := (c → A) ∧ (¬ c → B)
theorem Ways.yes {c A B : Prop} (h : c) (a : A) : Ways c A B := ⟨fun _ => a, fun z => absurd h z⟩
theorem Ways.no {c A B : Prop} (h : ¬ c) (b : B) : Ways c A B := ⟨fun z => absurd z h, fun _ => b⟩
theorem Ways.or {c A B : Prop} (a : c → A) (b : ¬ c → B) : Ways c A B := ⟨a, b⟩
def CountOk (m : Int) : Prop := 1 ≤ m ∧ m ≤ 10
instance (m : Int) : Decidable (CountOk m) := by unfold CountOk; infer_instance
def TiesOk (m : Int) (ts : List Tie) : Prop := ts.length ≤ 80 ∧ ∀ t ∈ ts, TieOk m t
instance (m : Int) (ts : List Tie) : Decidable (TiesOk m ts) := by unfold TiesOk; infer_instance
def dayOf (ds : List Int) (o : Int) : Int := if o < 0 then 0 else ds.getD o.toNat 0
def KeptW (ds : List Int) (t : Tie) : Prop := t.2.2 ≤ dayOf ds t.1 - dayOf ds t.2.1
instance (ds : List Int) (t : Tie) : Decidable (KeptW ds t) := by unfold KeptW; infer_instance
theorem dayOf_neg {ds : List Int} {o : Int} (h : o < 0) : dayOf ds o = 0 := if_pos h
theorem dayOf_get {ds : List Int} {o z : Int} (h : ¬ o < 0) (e : ds[o.toNat]? = some z) : dayOf ds o = z := by
  unfold dayOf
  rw [if_neg h, List.getD_eq_getElem?_getD, e]
  rfl
theorem at_ints {ds : List Int} {o : Int} (h : ¬ o < 0) (h2 : o < ds.length) : atI (ds.map V.int) o = some (V.int (dayOf ds o)) := by
  obtain ⟨z, e⟩ : ∃ z, ds[o.toNat]? = some z := ⟨_, List.getElem?_eq_getElem (by omega)⟩
  refine at_of (j := o.toNat) (by omega) ?_
  rw [List.getElem?_map, e, dayOf_get h e]
  rfl
/-! data -/
def tieD (t : Tie) : PyData := .tuple [.int t.1, .int t.2.1, .int t.2.2]
def tiesD (ts : List Tie) : PyData := .list (ts.map tieD)
def intsD (ns : List Int) : PyData := .list (ns.map PyData.int)
theorem dpAll_ints {K : PySem.W.Frag} {H : Hp} : ∀ ns : List Int, DpAll K H (ns.map V.int) (ns.map PyData.int)
  | [] => .nil
  | n :: ns => .cons (.int n) (dpAll_ints ns)
theorem dp_ints {K : PySem.W.Frag} {H : Hp} {a : Addr} {ns : List Int} (h : SqL K H a (ns.map V.int)) : Dp K H (.ref a) (intsD ns) := .lst h (dpAll_ints ns)
theorem dp_tie {K : PySem.W.Frag} {H : Hp} {v : V} {t : Tie} (h : TieAt H v t) : Dp K H v (tieD t) := by
  obtain ⟨p, rfl, h2⟩ := h
  exact .tup (SqT.of h2) (.cons (.int _) (.cons (.int _) (.cons (.int _) .nil)))
theorem dpAll_ties {K : PySem.W.Frag} {H : Hp} : ∀ {vs : List V} {ts : List Tie}, TiesAt H vs ts → DpAll K H vs (ts.map tieD)
  | [], [], _ => .nil
  | _ :: _, _ :: _, h => .cons (dp_tie h.1) (dpAll_ties h.2)
theorem dp_ties {K : PySem.W.Frag} {H : Hp} {a : Addr} {vs : List V} {ts : List Tie} (h : SqL K H a vs) (h2 : TiesAt H vs ts) : Dp K H (.ref a) (tiesD ts) := .lst h (dpAll_ties h2)
theorem lay_ints : ∀ ns : List Int, PyData.canLayAll0 (ns.map PyData.int) = true ∧ PyData.depthAll (ns.map PyData.int) = 0
  | [] => ⟨rfl, rfl⟩
  | n :: ns => by
    obtain ⟨h1, h2⟩ := lay_ints ns
    constructor
    · simp [PyData.canLayAll0, PyData.canLay0, h1]
    · simp [PyData.depthAll, PyData.depth, h2]
theorem lay_ties : ∀ ts : List Tie, PyData.canLayAll0 (ts.map tieD) = true ∧ PyData.depthAll (ts.map tieD) ≤ 1
  | [] => ⟨rfl, Nat.zero_le _⟩
  | n :: ns => by
    obtain ⟨h1, h2⟩ := lay_ties ns
    constructor
    · simp [PyData.canLayAll0, PyData.canLay0, h1, tieD]
    · simp [PyData.depthAll, PyData.depth, tieD]
      omega
theorem shaped_ints (ns : List Int) : SeqAt.shaped (intsD ns) = true := by
  obtain ⟨h1, h2⟩ := lay_ints ns
  simp [SeqAt.shaped, intsD, PyData.canLay0, PyData.depth, h1, h2]
theorem shaped_ties (ts : List Tie) : SeqAt.shaped (tiesD ts) = true := by
  obtain ⟨h1, h2⟩ := lay_ties ts
  simp [SeqAt.shaped, tiesD, PyData.canLay0, PyData.depth, h1]
  omega
theorem eqv_self {d : PyData} (h : SeqAt.shaped d = true) : PyData.eqv d d = true := SeqAt.eqv_refl d (SeqAt.canLay_of_shaped h)
theorem eqv_ints_nil (ns : List Int) : PyData.eqv (intsD ns) (.list []) = decide (ns = []) := by
  cases ns with
  | nil => rfl
  | cons n ns => simp [intsD, PyData.eqv, PyData.eqvAll]
theorem eqv_ties_nil (ts : List Tie) : PyData.eqv (tiesD ts) (.list []) = decide (ts = []) := by
  cases ts with
  | nil => rfl
  | cons n ns => simp [tiesD, PyData.eqv, PyData.eqvAll]
theorem dp_nil {K : PySem.W.Frag} {H : Hp} {a : Addr} (h : H a = some (.lst [])) : Dp K H (.ref a) (.list []) := .lst (SqL.of h) .nil
/-! isinstance -/
def tyN : PyData → String
  | .none => "NoneType" | .bool _ => "bool" | .int _ => "int" | .str _ => "str" | .list _ => "list" | .tuple _ => "tuple" | .dict _ => "dict"
theorem tyX_of {K : PySem.W.Frag} {H : Hp} {v : V} {d : PyData} (h : Dp K H v d) : TyX K H v (.type (tyN d)) := by
  cases h with
  | non => exact .base .non
  | bl b => exact .base (.bl b)
  | int i => exact .base (.int i)
  | str x => exact .base (.str x)
  | lst h _ =>
    rcases h with (h | ⟨o, h⟩) | ⟨o, its, n, h1, h2, _⟩
    · exact .base (.lst h)
    · exact .base (.frz h)
    · exact .kList h1 h2
  | tup h _ =>
    rcases h with (h | ⟨o, h⟩) | ⟨o, its, n, h1, h2, _⟩
    · exact .base (.tup h)
    · exact .fTuple h
    · exact .kTuple h1 h2
def isI (d : PyData) (c : String) : Bool := (kitB (tyN d) c).getD false
theorem kit_is {K : PySem.W.Frag} (d : PyData) {c : String} (hc : c = "list" ∨ c = "tuple" ∨ c = "bool" ∨ c = "int" ∨ c = "str") : PySem.W.kitOne K (.type (tyN d)) (.type c) = some (isI d c) := by
  refine kit_ty ?_
  unfold isI
  rcases hc with rfl | rfl | rfl | rfl | rfl <;> cases d <;> simp only [tyN] <;> decide +kernel
mutual
theorem dp_mono {K : PySem.W.Frag} {H H' : Hp} (e : Same H H') : ∀ (d : PyData) (v : V), Dp K H v d → Dp K H' v d
  | .none, _, h => by cases h; exact .non
  | .bool b, _, h => by cases h; exact .bl b
  | .int i, _, h => by cases h; exact .int i
  | .str x, _, h => by cases h; exact .str x
  | .list ds, _, h => by
    cases h with
    | lst h q => exact .lst (e.seq h) (dp_monoAll e ds _ q)
  | .tuple ds, _, h => by
    cases h with
    | tup h q => exact .tup (same_t e h) (dp_monoAll e ds _ q)
  | .dict _, _, h => by cases h
theorem dp_monoAll {K : PySem.W.Frag} {H H' : Hp} (e : Same H H') : ∀ (ds : List PyData) (vs : List V), DpAll K H vs ds → DpAll K H' vs ds
  | [], _, h => by cases h; exact .nil
  | d :: ds, _, h => by
    cases h with
    | cons h q => exact .cons (dp_mono e d _ h) (dp_monoAll e ds _ q)
end
theorem dpAll_get {K : PySem.W.Frag} {H : Hp} : ∀ {vs : List V} {ds : List PyData} {i : Nat} {v : V}, DpAll K H vs ds → vs[i]? = some v → ∃ d, ds[i]? = some d ∧ Dp K H v d
  | [], _, i, v, h, h2 => by simp at h2
  | w :: vs, _, 0, v, h, h2 => by
    cases h with
    | cons h q =>
      have e : w = v := Option.some.inj h2
      subst e
      exact ⟨_, rfl, h⟩
  | w :: vs, _, i + 1, v, h, h2 => by
    cases h with
    | cons h q => exact dpAll_get (i := i) q h2
theorem dpAll_len {K : PySem.W.Frag} {H : Hp} : ∀ {vs : List V} {ds : List PyData}, DpAll K H vs ds → vs.length = ds.length
  | [], _, h => by cases h; rfl
  | w :: vs, _, h => by
    cases h with
    | cons h q => simp [dpAll_len q]
end LH
namespace LH
open PySem PySem.Spec PyProof.Rows L2
theorem iteD {c A B : Prop} [Decidable c] (hc : c) (h : A) : if decide c = true then A else B := by
  rw [decide_eq_true hc]
  exact iteT h
theorem iteDF {c A B : Prop} [Decidable c] (hc : ¬ c) (h : B) : if decide c = true then A else B := by
  rw [decide_eq_false hc]
  exact iteF h
theorem iteB {b : Bool} {A B : Prop} (hb : b = true) (h : A) : if b = true then A else B := by
  rw [hb]
  exact iteT h
theorem iteBF {b : Bool} {A B : Prop} (hb : b = false) (h : B) : if b = true then A else B := by
  rw [hb]
  exact iteF h
/-- zip of two tuples, walked -/
theorem walk_zipT {K : PySem.W.Frag} {a b : Addr} {xs ys : List V} {n : Nat} (hn : n = min xs.length ys.length) :
    Walk (RZ.ItzT K a b) n (fun H => SqT K H a xs ∧ SqT K H b ys) (YPair (fun i => xs[i]?) (fun i => ys[i]?)) := by
  subst hn
  constructor
  · intro i H hi q
    have h1 : i < xs.length := by omega
    have h2 : i < ys.length := by omega
    exact ⟨xs, ys, xs[i], ys[i], q.1, q.2, by simp [h1], by simp [h2]⟩
  · intro H q
    exact ⟨xs, ys, q.1, q.2, by omega⟩
  · intro i H v H' _ q y
    obtain ⟨T, x, z, h1, h2, h3, h4, h5⟩ := y
    exact ⟨T, x, z, h1, h2, h3, h4 xs q.1, h5 ys q.2⟩
theorem isI_list (d : PyData) : isI d "list" = (match d with | .list _ => true | _ => false) := by
  unfold isI
  cases d <;> simp only [tyN] <;> decide +kernel
theorem isI_tuple (d : PyData) : isI d "tuple" = (match d with | .tuple _ => true | _ => false) := by
  unfold isI
  cases d <;> simp only [tyN] <;> decide +kernel
theorem isI_bool (d : PyData) : isI d "bool" = (match d with | .bool _ => true | _ => false) := by
  unfold isI
  cases d <;> simp only [tyN] <;> decide +kernel
theorem isI_int (d : PyData) : isI d "int" = (match d with | .bool _ => true | .int _ => true | _ => false) := by
  unfold isI
  cases d <;> simp only [tyN] <;> decide +kernel
theorem depthAll_get : ∀ {ds : List PyData} {i : Nat} {d : PyData}, ds[i]? = some d → d.depth ≤ PyData.depthAll ds
  | [], i, d, h => by simp at h
  | e :: ds, 0, d, h => by
    have q : e = d := Option.some.inj h
    subst q
    simp only [PyData.depthAll]
    omega
  | e :: ds, i + 1, d, h => by
    have := depthAll_get (ds := ds) (i := i) (d := d) h
    simp only [PyData.depthAll]
    omega
theorem canLayAll_get : ∀ {ds : List PyData} {i : Nat} {d : PyData}, PyData.canLayAll0 ds = true → ds[i]? = some d → d.canLay0 = true
  | [], i, d, _, h => by simp at h
  | e :: ds, 0, d, h0, h => by
    have q : e = d := Option.some.inj h
    subst q
    simp only [PyData.canLayAll0, Bool.and_eq_true] at h0
    exact h0.1
  | e :: ds, i + 1, d, h0, h => by
    simp only [PyData.canLayAll0, Bool.and_eq_true] at h0
    exact canLayAll_get (ds := ds) (i := i) (d := d) h0.2 h
theorem shaped_mk {d : PyData} (h : d.canLay0 = true) (h2 : d.depth ≤ 64) : SeqAt.shaped d = true := by
  unfold SeqAt.shaped
  rw [h, decide_eq_true h2]
  rfl
mutual
/-- a bound on the lengths within -/
def sizeD : PyData → Nat
  | .list ds => ds.length + sizeAll ds
  | .tuple ds => ds.length + sizeAll ds
  | .none => 0
  | .bool _ => 0
  | .int _ => 0
  | .str _ => 0
  | .dict _ => 0
def sizeAll : List PyData → Nat
  | [] => 0
  | d :: ds => sizeD d + sizeAll ds
end
theorem sizeAll_get : ∀ {ds : List PyData} {i : Nat} {d : PyData}, ds[i]? = some d → sizeD d ≤ sizeAll ds
  | [], i, d, h => by simp at h
  | e :: ds, 0, d, h => by
    have q : e = d := Option.some.inj h
    subst q
    simp only [sizeAll]
    omega
  | e :: ds, i + 1, d, h => by
    have := sizeAll_get (ds := ds) (i := i) (d := d) h
    simp only [sizeAll]
    omega
/-- 0 if o < 0 else days[o] -/
theorem if_day {K : PySem.W.Frag} {ds : List Int} {a : Addr} {o : Int} {i j : Nat} {σ : L2.St} {H : Hp} {Q : VK} (hS : SqL K H a (ds.map V.int)) (hi : σ[i]? = some (some (.int o))) (hj : σ[j]? = some (some (.ref a))) (ho : o < ds.length) (q : Q (.int (dayOf ds o)) H) :
    tIf (tTest (tOp (rI0 fun i j => .bl (decide (i < j))) (tVar i) (tC (.int 0)))) (tC (.int 0)) (tOp (rIxL K) (tVar j) (tVar i)) σ H Q := by
  refine ⟨_, hi, _, _, rfl, rfl, _, rfl, ?_⟩
  refine ite2 (fun c => ?_) (fun c => ?_)
  · rw [dayOf_neg (of_decide_eq_true c)] at q
    exact q
  · exact ⟨_, hj, _, hi, a, _, o, _, rfl, rfl, hS, at_ints (fun z => c (decide_eq_true z)) ho, q⟩
/-- 0 if o == 0 else days[o - 1] -/
theorem if_day1 {K : PySem.W.Frag} {ds : List Int} {a : Addr} {o : Int} {i j : Nat} {σ : L2.St} {H : Hp} {Q : VK} (hS : SqL K H a (ds.map V.int)) (hi : σ[i]? = some (some (.int o))) (hj : σ[j]? = some (some (.ref a))) (h0 : 0 ≤ o) (ho : o ≤ ds.length) (q : Q (.int (dayOf ds (o - 1))) H) :
    tIf (tTest (tOp rEq (tVar i) (tC (.int 0)))) (tC (.int 0)) (tOp (rIxL K) (tVar j) (tOp (rI0 fun i j => .int (i - j)) (tVar i) (tC (.int 1)))) σ H Q := by
  refine ⟨_, hi, rfl, _, rfl, ?_⟩
  refine ite2 (fun c => ?_) (fun c => ?_)
  · have c : V.int o = V.int 0 := of_decide_eq_true c
    have c2 : o = 0 := by injection c
    rw [dayOf_neg (by omega)] at q
    exact q
  · have hne : o ≠ 0 := fun z => c (decide_eq_true (by rw [z]))
    exact ⟨_, hj, _, hi, _, _, rfl, rfl, a, _, _, _, rfl, rfl, hS, at_ints (by omega) (by omega), q⟩
/-! what is drawn -/
structure GreatAt (H H' : Hp) (p l d : Addr) (xs : List V) (ts : List Tie) (ds : List Int) (m bad most : Int) : Prop where
  same : Same H H'
  np : H p = none
  nl : H l = none
  nd : H d = none
  tup : H' p = some (.tup [.int m, .ref l, .ref d, .int bad])
  lst : H' l = some (.lst xs)
  ties : TiesAt H' xs ts
  days : H' d = some (.lst (ds.map V.int))
  m1 : 1 ≤ m
  m10 : m ≤ 10
  dl : (ds.length : Int) = m
  dr : ∀ x ∈ ds, 0 ≤ x ∧ x ≤ 9999
  ok : ∀ t ∈ ts, TieOk m t
  kept : ∀ t ∈ ts, KeptW ds t
  tl : (ts.length : Int) ≤ most
  b0 : 0 ≤ bad
  b4 : bad < 4
theorem flat_one {α : Type} (x : α) : ∀ n : Nat, (List.replicate n [x]).flatten = List.replicate n x
  | 0 => rfl
  | n + 1 => by
    rw [List.replicate_succ, List.flatten_cons, flat_one x n, List.replicate_succ]
    rfl
theorem dayOf_range {ds : List Int} (h : ∀ x ∈ ds, 0 ≤ x ∧ x ≤ 9999) (o : Int) : 0 ≤ dayOf ds o ∧ dayOf ds o ≤ 9999 := by
  unfold dayOf
  split
  · omega
  · rw [List.getD_eq_getElem?_getD]
    cases e : ds[o.toNat]? with
    | none => simp
    | some z => exact h z (List.mem_of_getElem? e)
theorem emod_wrap {x M : Int} (h0 : 0 ≤ x) (h1 : x < 2 * M) (hM : 0 < M) : x % M = if x < M then x else x - M := by
  split
  · exact Int.emod_eq_of_lt h0 (by assumption)
  · rw [← Int.sub_emod_right]
    exact Int.emod_eq_of_lt (by omega) (by omega)
theorem cut_ints (ds : List Int) (lo hi : Option Int) : ∃ es : List Int, cutV (ds.map V.int) lo hi = es.map V.int ∧ es.length ≤ ds.length := by
  have hl := cutV_length (ds.map V.int) lo hi
  unfold cutV at hl ⊢
  rw [← List.map_drop, ← List.map_take] at hl ⊢
  exact ⟨_, rfl, by simpa using hl⟩
theorem dp_int_tup {K : PySem.W.Frag} {H : Hp} {p : Addr} {x : Str} {i : Int} (h : H p = some (.tup [.str x, .int i])) : Dp K H (.ref p) (.tuple [.str x, .int i]) := .tup (SqT.of h) (.cons (.str _) (.cons (.int _) .nil))
/-! faults of ways -/
def badDay (ds : List Int) (i : Nat) : Bool := !decide (0 ≤ ds.getD i 0 ∧ ds.getD i 0 ≤ 9999)
def badTie (ts : List Tie) (ds : List Int) (i : Nat) : Bool := !decide (KeptW ds (ts.getD i (0, 0, 0)))
def wfDue (m : Int) (ts : List Tie) (ds : List Int) : Option (Str × Int) :=
  if (ds.length : Int) ≠ m then some ("many", (ds.length : Int)) else
    match (List.range ds.length).find? (badDay ds) with
    | some i => some ("day", (i : Int))
    | none => match (List.range ts.length).find? (badTie ts ds) with
      | some i => some ("tie", (i : Int))
      | none => none
def dueD : Option (Str × Int) → PyData
  | none => .none
  | some (x, i) => .tuple [.str x, .int i]
theorem find_first {p : Nat → Bool} {n i : Nat} (hi : i < n) (h : p i = true) (hb : ∀ j, j < i → p j = false) : (List.range n).find? p = some i := by
  rw [List.find?_range_eq_some]
  refine ⟨h, List.mem_range.mpr hi, fun j hj => by rw [hb j hj]; rfl⟩
theorem find_none {p : Nat → Bool} {n : Nat} (hb : ∀ j, j < n → p j = false) : (List.range n).find? p = none := by
  rw [List.find?_eq_none]
  intro j hj
  rw [hb j (List.mem_range.mp hj)]
  exact Bool.false_ne_true
theorem getD_of {α : Type} {l : List α} {i : Nat} {x d : α} (h : l[i]? = some x) : l.getD i d = x := by
  rw [List.getD_eq_getElem?_getD, h]
  rfl
/-- the places, told as ints -/
def places (p : Nat → Bool) (n : Nat) : List Int := ((List.range n).filter p).map fun (j : Nat) => (j : Int)
theorem places_succ (p : Nat → Bool) (n : Nat) : places p (n + 1) = if p n = true then places p n ++ [(n : Int)] else places p n := by
  unfold places
  rw [List.range_succ, List.filter_append]
  cases h : p n with
  | true => simp [h]
  | false => simp [h]
theorem places_len (p : Nat → Bool) (n : Nat) : (places p n).length ≤ n := by
  unfold places
  rw [List.length_map]
  have := List.length_filter_le p (List.range n)
  simpa using this
theorem places_head (p : Nat → Bool) (n : Nat) : (places p n).head? = ((List.range n).find? p).map fun (j : Nat) => (j : Int) := by
  unfold places
  rw [List.head?_map, List.head?_filter]
theorem at_head {ns : List Int} {z : Int} (h : ns.head? = some z) : atI (ns.map V.int) 0 = some (V.int z) := by
  cases ns with
  | nil => cases h
  | cons n ns =>
    have e : n = z := Option.some.inj h
    subst e
    exact at_of (j := 0) rfl rfl
theorem due_shape (m : Int) (ts : List Tie) (ds : List Int) : SeqAt.shaped (dueD (wfDue m ts ds)) = true ∧ (dueD (wfDue m ts ds)).depth ≤ 1 ∧ sizeD (dueD (wfDue m ts ds)) ≤ 10 := by
  have key : ∀ (x : Str) (i : Int), PyData.canLay0 (.str x) = true → SeqAt.shaped (dueD (some (x, i))) = true ∧ (dueD (some (x, i))).depth ≤ 1 ∧ sizeD (dueD (some (x, i))) ≤ 10 := fun x i hx => by
    refine ⟨shaped_mk ?_ ?_, ?_, ?_⟩
    · simp only [dueD, PyData.canLay0, PyData.canLayAll0] at hx ⊢
      rw [hx]
      rfl
    · simp [dueD, PyData.depth, PyData.depthAll]
    · simp [dueD, PyData.depth, PyData.depthAll]
    · simp [dueD, sizeD, sizeAll]
  unfold wfDue
  split
  · exact key _ _ (by decide +kernel)
  · split
    · exact key _ _ (by decide +kernel)
    · split
      · exact key _ _ (by decide +kernel)
      · exact ⟨rfl, Nat.zero_le _, Nat.zero_le _⟩
/-- lo <= x <= hi, as a test -/
theorem t_between {lo hi z : Int} {tb : TE} {σ : L2.St} {H : Hp} {Q : Bool → Hp → Prop} (hb : ∀ Q' : VK, Q' (.int z) H → tb σ H Q') (q : Q (decide (lo ≤ z ∧ z ≤ hi)) H) :
    tTest (tChain (rI0 fun i j => .bl (decide (i ≤ j))) (rI0 fun i j => .bl (decide (i ≤ j))) (tC (.int lo)) tb (tC (.int hi))) σ H Q := by
  refine hb _ ⟨_, _, rfl, rfl, _, rfl, ?_⟩
  refine ite2 (fun c => ?_) (fun c => ?_)
  · have c : lo ≤ z := of_decide_eq_true c
    refine ⟨_, _, rfl, rfl, _, rfl, ?_⟩
    have e : decide (lo ≤ z ∧ z ≤ hi) = decide (z ≤ hi) := by simp [c]
    rw [e] at q
    exact q
  · refine ⟨_, rfl, ?_⟩
    have e : decide (lo ≤ z ∧ z ≤ hi) = false := decide_eq_false fun z => c (decide_eq_true z.1)
    rw [e] at q
    exact q
theorem shaped2 {d e : PyData} (hd : SeqAt.shaped d = true) (he : SeqAt.shaped e = true) (h1 : d.depth ≤ 10) (h2 : e.depth ≤ 10) : SeqAt.shaped (.list [d, e]) = true := by
  refine shaped_mk ?_ ?_
  · simp [PyData.canLay0, PyData.canLayAll0, SeqAt.canLay_of_shaped hd, SeqAt.canLay_of_shaped he]
  · simp [PyData.depth, PyData.depthAll]
    omega
theorem depth_ints (ns : List Int) : (intsD ns).depth ≤ 1 := by
  have := (lay_ints ns).2
  simp [intsD, PyData.depth, this]
theorem depth_ties (ts : List Tie) : (tiesD ts).depth ≤ 2 := by
  have := (lay_ties ts).2
  simp [tiesD, PyData.depth]
  omega
theorem dp_pair {K : PySem.W.Frag} {H : Hp} {a : Addr} {u v : V} {d e : PyData} (h : H a = some (.lst [u, v])) (hd : Dp K H u d) (he : Dp K H v e) : Dp K H (.ref a) (.list [d, e]) := .lst (SqL.of h) (.cons hd (.cons he .nil))
theorem at_ints_nat {ds : List Int} {i : Nat} {z o : Int} (e : o = (i : Int)) (h : ds[i]? = some z) : atI (ds.map V.int) o = some (V.int z) := at_of (j := i) e (by rw [List.getElem?_map, h]; rfl)
end LH

set_option Elab.async false
set_option linter.all false
set_option maxRecDepth 100000
set_option maxHeartbeats 4000000
namespace LH
/-! gaps: the mathematics -/
def nd (n : Nat) (o : Int) : Nat := if o < 0 then n else o.toNat
theorem nd_neg {n : Nat} {o : Int} (h : o < 0) : nd n o = n := if_pos h
theorem nd_nat {n : Nat} {o : Int} (h : ¬ o < 0) : nd n o = o.toNat := if_neg h
theorem nd_le {n : Nat} {o : Int} (h : o < n) : nd n o ≤ n := by
  unfold nd
  split <;> omega
/-- the lives of a tie are lives -/
def TieIx (m : Int) (t : Tie) : Prop := -1 ≤ t.1 ∧ t.1 < m ∧ -1 ≤ t.2.1 ∧ t.2.1 < m ∧ True
theorem TieOk.ix {m : Int} {t : Tie} (h : TieOk m t) : TieIx m t := ⟨h.1, h.2.1, h.2.2.1, h.2.2.2.1, trivial⟩
structure Feas (n : Nat) (ts : List Tie) (φ : Nat → Int) : Prop where
  z : φ n = 0
  lo : ∀ i, i < n → 0 ≤ φ i
  hi : ∀ i, i < n → φ i ≤ 9999
  ke : ∀ t ∈ ts, t.2.2 ≤ φ (nd n t.1) - φ (nd n t.2.1)
theorem Feas.lo' {n : Nat} {ts : List Tie} {φ : Nat → Int} (f : Feas n ts φ) {i : Nat} (h : i ≤ n) : 0 ≤ φ i := by
  rcases Nat.lt_or_ge i n with h1 | h1
  · exact f.lo i h1
  · have e : i = n := by omega
    rw [e, f.z]
    exact Int.le_refl _
def bareG (n i j : Nat) : Int := if j = n then 0 else if i = j then 0 else -9999
def tieG (n : Nat) (g : Nat → Nat → Int) (t : Tie) : Nat → Nat → Int := fun i j => if i = nd n t.1 ∧ j = nd n t.2.1 then max (g i j) t.2.2 else g i j
def viaG (g : Nat → Nat → Int) (m : Nat) : Nat → Nat → Int := fun i j => max (g i j) (g i m + g m j)
def startG (n : Nat) (ts : List Tie) : Nat → Nat → Int := ts.foldl (tieG n) (bareG n)
def upG (n : Nat) (ts : List Tie) : Nat → Nat → Nat → Int
  | 0 => startG n ts
  | m + 1 => viaG (upG n ts m) m
def gapsG (n : Nat) (ts : List Tie) : Nat → Nat → Int := upG n ts (n + 1)
theorem bare_le {n : Nat} {ts : List Tie} {φ : Nat → Int} (f : Feas n ts φ) {i j : Nat} (hi : i ≤ n) (hj : j ≤ n) : bareG n i j ≤ φ i - φ j := by
  unfold bareG
  have h1 := f.lo' hi
  split
  · rename_i e
    rw [e, f.z]
    omega
  · split
    · rename_i e
      rw [e]
      omega
    · have := f.hi j (by omega)
      omega
theorem fold_le {n : Nat} {ts : List Tie} {φ : Nat → Int} (f : Feas n ts φ) : ∀ (l : List Tie) (g : Nat → Nat → Int), (∀ t ∈ l, t ∈ ts) → (∀ i j, i ≤ n → j ≤ n → g i j ≤ φ i - φ j) → ∀ i j, i ≤ n → j ≤ n → l.foldl (tieG n) g i j ≤ φ i - φ j
  | [], g, _, h, i, j, hi, hj => h i j hi hj
  | t :: l, g, hs, h, i, j, hi, hj => by
    refine fold_le f l (tieG n g t) (fun u hu => hs u (List.mem_cons_of_mem _ hu)) (fun i j hi hj => ?_) i j hi hj
    unfold tieG
    have h1 := h i j hi hj
    split
    · rename_i e
      have := f.ke t (hs t List.mem_cons_self)
      rw [e.1, e.2] at h1 ⊢
      omega
    · exact h1
theorem up_le {n : Nat} {ts : List Tie} {φ : Nat → Int} (f : Feas n ts φ) : ∀ (m : Nat), m ≤ n + 1 → ∀ i j, i ≤ n → j ≤ n → upG n ts m i j ≤ φ i - φ j
  | 0, _, i, j, hi, hj => fold_le f ts (bareG n) (fun _ h => h) (fun _ _ h1 h2 => bare_le f h1 h2) i j hi hj
  | m + 1, hm, i, j, hi, hj => by
    have h1 := up_le f m (by omega) i j hi hj
    have h2 := up_le f m (by omega) i m hi (by omega)
    have h3 := up_le f m (by omega) m j (by omega) hj
    show max (upG n ts m i j) (upG n ts m i m + upG n ts m m j) ≤ _
    omega
theorem fold_ge {n : Nat} : ∀ (l : List Tie) (g : Nat → Nat → Int) (i j : Nat), g i j ≤ l.foldl (tieG n) g i j
  | [], g, i, j => Int.le_refl _
  | t :: l, g, i, j => by
    refine Int.le_trans ?_ (fold_ge l (tieG n g t) i j)
    unfold tieG
    split <;> omega
theorem fold_tie {n : Nat} : ∀ (l : List Tie) (g : Nat → Nat → Int) (t : Tie), t ∈ l → t.2.2 ≤ l.foldl (tieG n) g (nd n t.1) (nd n t.2.1)
  | [], g, t, h => absurd h List.not_mem_nil
  | u :: l, g, t, h => by
    rcases List.mem_cons.mp h with rfl | h
    · refine Int.le_trans ?_ (fold_ge l (tieG n g t) _ _)
      unfold tieG
      rw [if_pos ⟨rfl, rfl⟩]
      omega
    · exact fold_tie l (tieG n g u) t h
theorem up_mono {n : Nat} {ts : List Tie} : ∀ (m k : Nat) (i j : Nat), upG n ts m i j ≤ upG n ts (m + k) i j
  | m, 0, i, j => Int.le_refl _
  | m, k + 1, i, j => by
    refine Int.le_trans (up_mono m k i j) ?_
    show upG n ts (m + k) i j ≤ max (upG n ts (m + k) i j) _
    omega
theorem up_mono' {n : Nat} {ts : List Tie} {m k : Nat} (h : m ≤ k) (i j : Nat) : upG n ts m i j ≤ upG n ts k i j := by
  have := up_mono (n := n) (ts := ts) m (k - m) i j
  rw [show m + (k - m) = k by omega] at this
  exact this
theorem start_bare {n : Nat} {ts : List Tie} (m i j : Nat) : bareG n i j ≤ upG n ts m i j := Int.le_trans (fold_ge ts (bareG n) i j) (up_mono' (Nat.zero_le m) i j)
theorem diag_ge {n : Nat} {ts : List Tie} (m i : Nat) : 0 ≤ upG n ts m i i := by
  refine Int.le_trans ?_ (start_bare m i i)
  unfold bareG
  split
  · exact Int.le_refl _
  · rw [if_pos rfl]
    exact Int.le_refl _
theorem close {n : Nat} {ts : List Tie} : ∀ (m : Nat), m ≤ n + 1 → (∀ i, i ≤ n → upG n ts m i i = 0) → ∀ k, k < m → ∀ i j, upG n ts m i k + upG n ts m k j ≤ upG n ts m i j
  | 0, _, _, k, hk, _, _ => absurd hk (Nat.not_lt_zero k)
  | m + 1, hm, hd, k, hk, i, j => by
    have hd' : ∀ i, i ≤ n → upG n ts m i i = 0 := fun i hi => by
      have h1 := up_mono (n := n) (ts := ts) m 1 i i
      have h2 := diag_ge (n := n) (ts := ts) m i
      have h3 := hd i hi
      omega
    have hmm := hd' m (by omega)
    have ih := close m (by omega) hd'
    show viaG (upG n ts m) m i k + viaG (upG n ts m) m k j ≤ viaG (upG n ts m) m i j
    unfold viaG
    rcases Nat.lt_or_ge k m with h1 | h1
    · have a1 := ih k h1 i j
      have a2 := ih k h1 m j
      have a3 := ih k h1 i m
      have a4 := ih k h1 m m
      omega
    · have e : k = m := by omega
      subst e
      omega
theorem Feas.diag {n : Nat} {ts : List Tie} {φ : Nat → Int} (f : Feas n ts φ) (i : Nat) (hi : i ≤ n) : gapsG n ts i i = 0 := by
  have h1 := up_le f (n + 1) (Nat.le_refl _) i i hi hi
  have h2 := diag_ge (n := n) (ts := ts) (n + 1) i
  unfold gapsG
  omega
theorem gap_close {n : Nat} {ts : List Tie} (hd : ∀ i, i ≤ n → gapsG n ts i i = 0) {k : Nat} (hk : k ≤ n) (i j : Nat) : gapsG n ts i k + gapsG n ts k j ≤ gapsG n ts i j := close (n + 1) (Nat.le_refl _) hd k (by omega) i j
theorem gap_tie {n : Nat} {ts : List Tie} {t : Tie} (h : t ∈ ts) : t.2.2 ≤ gapsG n ts (nd n t.1) (nd n t.2.1) := Int.le_trans (fold_tie ts (bareG n) t h) (up_mono' (Nat.zero_le _) _ _)
theorem gap_lo {n : Nat} {ts : List Tie} (i : Nat) : 0 ≤ gapsG n ts i n := by
  refine Int.le_trans ?_ (start_bare (n + 1) i n)
  unfold bareG
  rw [if_pos rfl]
  exact Int.le_refl _
theorem gap_hi {n : Nat} {ts : List Tie} (i j : Nat) : -9999 ≤ gapsG n ts i j := by
  refine Int.le_trans ?_ (start_bare (n + 1) i j)
  unfold bareG
  split
  · decide
  · split <;> decide
/-- where none is later than itself, the gaps to any one k are a way, moved so that the beginning stands at 0 -/
theorem feas_gap {n : Nat} {ts : List Tie} (hok : ∀ t ∈ ts, TieIx (n : Int) t) (hd : ∀ i, i ≤ n → gapsG n ts i i = 0) {k : Nat} (hk : k ≤ n) : Feas n ts (fun i => gapsG n ts i k - gapsG n ts n k) := by
  refine ⟨?_, fun i hi => ?_, fun i hi => ?_, fun t ht => ?_⟩
  · show gapsG n ts n k - gapsG n ts n k = 0
    omega
  · have h1 := gap_close hd (Nat.le_refl n) i k
    have h2 := gap_lo (n := n) (ts := ts) i
    show 0 ≤ gapsG n ts i k - gapsG n ts n k
    omega
  · have h1 := gap_close hd (Nat.le_of_lt hi) n k
    have h2 := gap_hi (n := n) (ts := ts) n i
    show gapsG n ts i k - gapsG n ts n k ≤ 9999
    omega
  · have ok := hok t ht
    have h1 := gap_close hd (nd_le (n := n) ok.2.2.2.1) (nd n t.1) k
    have h2 := gap_tie (n := n) ht
    show t.2.2 ≤ gapsG n ts (nd n t.1) k - gapsG n ts n k - (gapsG n ts (nd n t.2.1) k - gapsG n ts n k)
    omega
theorem feas_least {n : Nat} {ts : List Tie} (hok : ∀ t ∈ ts, TieIx (n : Int) t) (hd : ∀ i, i ≤ n → gapsG n ts i i = 0) : Feas n ts (fun i => gapsG n ts i n) := by
  have f := feas_gap hok hd (Nat.le_refl n)
  have e := hd n (Nat.le_refl n)
  simp only [e, Int.sub_zero] at f
  exact f
theorem gap_le {n : Nat} {ts : List Tie} {φ : Nat → Int} (f : Feas n ts φ) {i j : Nat} (hi : i ≤ n) (hj : j ≤ n) : gapsG n ts i j ≤ φ i - φ j := up_le f (n + 1) (Nat.le_refl _) i j hi hj
/-- ties can be just where no one is later than itself -/
theorem can_iff {n : Nat} {ts : List Tie} (hok : ∀ t ∈ ts, TieIx (n : Int) t) : (∃ φ, Feas n ts φ) ↔ ∀ i, i ≤ n → gapsG n ts i i = 0 :=
  ⟨fun ⟨_, f⟩ => f.diag, fun hd => ⟨_, feas_least hok hd⟩⟩
/-! days raised -/
def valD (ds : List Int) (n i : Nat) : Int := if i = n then 0 else ds.getD i 0
/-- a life that is not yet at its least day is raised by one that is -/
theorem support {n : Nat} {ts : List Tie} (hok : ∀ t ∈ ts, TieIx (n : Int) t) {φ : Nat → Int} (f : Feas n ts φ) (least : ∀ ψ, Feas n ts ψ → ∀ i, i < n → φ i ≤ ψ i) (u : Nat → Prop) (hu : ∀ i, u i → i < n ∧ 0 < φ i) (he : ∃ i, u i) :
    ∃ t ∈ ts, u (nd n t.1) ∧ ¬ u (nd n t.2.1) ∧ φ (nd n t.1) ≤ φ (nd n t.2.1) + t.2.2 := by
  rcases Classical.em (∃ t ∈ ts, u (nd n t.1) ∧ ¬ u (nd n t.2.1) ∧ φ (nd n t.1) ≤ φ (nd n t.2.1) + t.2.2) with h | h
  · exact h
  · exfalso
    have nu : ¬ u n := fun z => Nat.lt_irrefl n (hu n z).1
    obtain ⟨i, hi⟩ := he
    classical
    have g : Feas n ts (fun i => if u i then φ i - 1 else φ i) := by
      refine ⟨?_, fun i hi => ?_, fun i hi => ?_, fun t ht => ?_⟩
      · rw [if_neg nu, f.z]
      · split
        · rename_i z
          have := (hu i z).2
          omega
        · exact f.lo i hi
      · have := f.hi i hi
        split <;> omega
      · have h0 := f.ke t ht
        by_cases h1 : u (nd n t.1)
        · by_cases h2 : u (nd n t.2.1)
          · rw [if_pos h1, if_pos h2]
            omega
          · rw [if_pos h1, if_neg h2]
            have h3 : ¬ φ (nd n t.1) ≤ φ (nd n t.2.1) + t.2.2 := fun z => h ⟨t, ht, h1, h2, z⟩
            omega
        · rw [if_neg h1]
          split <;> omega
    have l := least _ g i (hu i hi).1
    try dsimp only at l
    rw [if_pos hi] at l
    omega
theorem filter_lt {α : Type} (p q : α → Bool) : ∀ (l : List α), (∀ x ∈ l, p x = true → q x = true) → (∃ x ∈ l, q x = true ∧ p x = false) → (l.filter p).length < (l.filter q).length
  | [], _, h => by
    obtain ⟨x, hx, _⟩ := h
    cases hx
  | a :: l, h, he => by
    have hl : (l.filter p).length ≤ (l.filter q).length := by
      have : ∀ (l : List α), (∀ x ∈ l, p x = true → q x = true) → (l.filter p).length ≤ (l.filter q).length := fun l => by
        induction l with
        | nil => intro _; exact Nat.le_refl _
        | cons a l ih =>
          intro h
          have i1 := ih fun x hx => h x (List.mem_cons_of_mem _ hx)
          have i2 := h a List.mem_cons_self
          cases hp : p a with
          | true =>
            rw [List.filter_cons_of_pos hp, List.filter_cons_of_pos (i2 hp)]
            simp only [List.length_cons]
            omega
          | false =>
            rw [List.filter_cons_of_neg (by rw [hp]; exact Bool.false_ne_true)]
            cases hq : q a with
            | true =>
              rw [List.filter_cons_of_pos hq]
              simp only [List.length_cons]
              omega
            | false =>
              rw [List.filter_cons_of_neg (by rw [hq]; exact Bool.false_ne_true)]
              exact i1
      exact this l fun x hx => h x (List.mem_cons_of_mem _ hx)
    obtain ⟨x, hx, hq, hp⟩ := he
    rcases List.mem_cons.mp hx with rfl | hx
    · rw [List.filter_cons_of_neg (by rw [hp]; exact Bool.false_ne_true), List.filter_cons_of_pos hq]
      simp only [List.length_cons]
      omega
    · have ih := filter_lt p q l (fun x hx => h x (List.mem_cons_of_mem _ hx)) ⟨x, hx, hq, hp⟩
      have i2 := h a List.mem_cons_self
      cases hpa : p a with
      | true =>
        rw [List.filter_cons_of_pos hpa, List.filter_cons_of_pos (i2 hpa)]
        simp only [List.length_cons]
        omega
      | false =>
        rw [List.filter_cons_of_neg (by rw [hpa]; exact Bool.false_ne_true)]
        cases hqa : q a with
        | true =>
          rw [List.filter_cons_of_pos hqa]
          simp only [List.length_cons]
          omega
        | false =>
          rw [List.filter_cons_of_neg (by rw [hqa]; exact Bool.false_ne_true)]
          exact ih
/-- how many lives stand at their least day -/
def finals (n : Nat) (φ : Nat → Int) (ds : List Int) : Nat := ((List.range n).filter fun i => decide (ds.getD i 0 = φ i)).length
theorem finals_le (n : Nat) (φ : Nat → Int) (ds : List Int) : finals n φ ds ≤ n := by
  unfold finals
  have := List.length_filter_le (fun i => decide (ds.getD i 0 = φ i)) (List.range n)
  simpa using this
theorem finals_all {n : Nat} {φ : Nat → Int} {ds : List Int} (h : n ≤ finals n φ ds) : ∀ i, i < n → ds.getD i 0 = φ i := by
  intro i hi
  rcases Decidable.em (ds.getD i 0 = φ i) with z | z
  · exact z
  · exfalso
    have := filter_lt (fun i => decide (ds.getD i 0 = φ i)) (fun _ => true) (List.range n) (fun _ _ _ => rfl) ⟨i, List.mem_range.mpr hi, rfl, decide_eq_false z⟩
    have e : ((List.range n).filter fun _ => true).length = n := by
      rw [List.filter_eq_self.mpr fun _ _ => rfl, List.length_range]
    unfold finals at h
    omega
/-- one round over the ties: from ds to es -/
structure Round (n : Nat) (ts : List Tie) (ds es : List Int) (moved : Bool) : Prop where
  len : es.length = n
  ge : ∀ i, i < n → ds.getD i 0 ≤ es.getD i 0
  le : ∀ φ, Feas n ts φ → (∀ i, i < n → ds.getD i 0 ≤ φ i) → ∀ i, i < n → es.getD i 0 ≤ φ i
  ke : ∀ t ∈ ts, 0 ≤ t.1 → valD ds n (nd n t.2.1) + t.2.2 ≤ es.getD t.1.toNat 0
  mv : moved = true → ∃ i, i < n ∧ ds.getD i 0 < es.getD i 0
  st : moved = false → es = ds
/-- what holds between two rounds -/
structure Rounds (n : Nat) (ts : List Tie) (r : Nat) (ds : List Int) (moved : Bool) : Prop where
  len : ds.length = n
  lo : ∀ i, i < n → 0 ≤ ds.getD i 0
  le : ∀ φ, Feas n ts φ → ∀ i, i < n → ds.getD i 0 ≤ φ i
  pr : (∀ i, i ≤ n → gapsG n ts i i = 0) → moved = true → r ≤ n ∧ r ≤ finals n (fun i => gapsG n ts i n) ds
  fx : moved = false → ∀ t ∈ ts, 0 ≤ t.1 → valD ds n (nd n t.2.1) + t.2.2 ≤ ds.getD t.1.toNat 0
theorem Rounds.next {n : Nat} {ts : List Tie} (hok : ∀ t ∈ ts, TieIx (n : Int) t) {r : Nat} {ds es : List Int} {mv : Bool} (h : Rounds n ts r ds true) (q : Round n ts ds es mv) : Rounds n ts (r + 1) es mv := by
  refine ⟨q.len, fun i hi => Int.le_trans (h.lo i hi) (q.ge i hi), fun φ f => q.le φ f (h.le φ f), fun hd hm => ?_, fun hm t ht h0 => ?_⟩
  rotate_left
  · have e := q.st hm
    have := q.ke t ht h0
    rw [e] at this ⊢
    exact this
  obtain ⟨h1, h2⟩ := h.pr hd rfl
  have f := feas_least hok hd
  have lst : ∀ ψ, Feas n ts ψ → ∀ i, i < n → gapsG n ts i n ≤ ψ i := fun ψ g i hi => by
    have := gap_le g (Nat.le_of_lt hi) (Nat.le_refl n)
    rw [g.z] at this
    omega
  have b1 := h.le _ f
  have b2 := q.le _ f b1
  rcases Nat.lt_or_ge (finals n (fun i => gapsG n ts i n) ds) n with h3 | h3
  · have key : finals n (fun i => gapsG n ts i n) ds < finals n (fun i => gapsG n ts i n) es := by
      refine filter_lt _ _ _ (fun i hi z => ?_) ?_
      · have z := of_decide_eq_true z
        have hi := List.mem_range.mp hi
        have c1 := q.ge i hi
        have c2 := b2 i hi
        exact decide_eq_true (show es.getD i 0 = gapsG n ts i n by
          have c2 : es.getD i 0 ≤ gapsG n ts i n := c2
          have z : ds.getD i 0 = gapsG n ts i n := z
          omega)
      · have ex : ∃ i, i < n ∧ ds.getD i 0 < gapsG n ts i n := by
          rcases Classical.em (∃ i, i < n ∧ ds.getD i 0 < gapsG n ts i n) with z | z
          · exact z
          · exfalso
            have : finals n (fun i => gapsG n ts i n) ds = n := by
              unfold finals
              rw [List.filter_eq_self.mpr fun i hi => decide_eq_true ?_]
              · simp
              · have hi := List.mem_range.mp hi
                have c := b1 i hi
                have c2 : ¬ ds.getD i 0 < gapsG n ts i n := fun y => z ⟨i, hi, y⟩
                have c : ds.getD i 0 ≤ gapsG n ts i n := c
                show ds.getD i 0 = gapsG n ts i n
                omega
            omega
        obtain ⟨t, ht, u1, u2, u3⟩ := support hok f lst (fun i => i < n ∧ ds.getD i 0 < gapsG n ts i n) (fun i hi => ⟨hi.1, by have := h.lo i hi.1; have := hi.2; omega⟩) ex
        have ok := hok t ht
        have t0 : ¬ t.1 < 0 := fun z => by
          rw [nd_neg z] at u1
          exact Nat.lt_irrefl n u1.1
        rw [nd_nat t0] at u1 u3
        refine ⟨t.1.toNat, List.mem_range.mpr u1.1, decide_eq_true ?_, decide_eq_false (by have := u1.2; show ¬ ds.getD _ 0 = gapsG n ts _ n; omega)⟩
        have k1 := q.ke t ht (by omega)
        have k2 := b2 _ u1.1
        have k3 : gapsG n ts (nd n t.2.1) n ≤ valD ds n (nd n t.2.1) := by
          unfold valD
          split
          · rename_i e
            rw [e, hd n (Nat.le_refl n)]
            exact Int.le_refl _
          · rename_i e
            have hle := nd_le (n := n) ok.2.2.2.1
            have : ¬ ds.getD (nd n t.2.1) 0 < gapsG n ts (nd n t.2.1) n := fun y => u2 ⟨by omega, y⟩
            omega
        have k2 : es.getD t.1.toNat 0 ≤ gapsG n ts t.1.toNat n := k2
        show es.getD t.1.toNat 0 = gapsG n ts t.1.toNat n
        omega
    have := finals_le n (fun i => gapsG n ts i n) es
    omega
  · exfalso
    obtain ⟨i, hi, lt⟩ := q.mv hm
    have e := finals_all h3 i hi
    have := b2 i hi
    try dsimp only at this e
    omega
theorem Rounds.still {n : Nat} {ts : List Tie} {r : Nat} {ds : List Int} (h : Rounds n ts r ds false) : Rounds n ts (r + 1) ds false := ⟨h.len, h.lo, h.le, (fun _ z => Bool.noConfusion z), h.fx⟩
theorem Rounds.zero (n : Nat) (ts : List Tie) : Rounds n ts 0 (List.replicate n 0) true := by
  have e : ∀ i, (List.replicate n (0 : Int)).getD i 0 = 0 := fun i => by
    rw [List.getD_eq_getElem?_getD, List.getElem?_replicate]
    split <;> rfl
  exact ⟨by simp, fun i _ => by rw [e]; exact Int.le_refl _, fun φ f i hi => by rw [e]; exact f.lo i hi, (fun _ _ => ⟨Nat.zero_le _, Nat.zero_le _⟩), (fun z => Bool.noConfusion z)⟩
/-- at the end: still moving means that they can't be -/
theorem Rounds.end_ {n : Nat} {ts : List Tie} {ds : List Int} (h : Rounds n ts (n + 2) ds true) : ¬ ∀ i, i ≤ n → gapsG n ts i i = 0 := fun hd => by
  have := (h.pr hd rfl).1
  omega
/-! days as ways -/
def wayF (n : Nat) (ds : List Int) : Nat → Int := fun i => if i = n then 0 else ds.getD i 0
theorem dayOf_nd {n : Nat} {ds : List Int} {o : Int} (h1 : o < n) : dayOf ds o = wayF n ds (nd n o) := by
  unfold dayOf wayF nd
  by_cases h : o < 0
  · rw [if_pos h, if_pos h, if_pos rfl]
  · rw [if_neg h, if_neg h, if_neg (by omega)]
/-- a way that keeps the ties -/
structure Way (n : Nat) (ts : List Tie) (ds : List Int) : Prop where
  len : ds.length = n
  rg : ∀ x ∈ ds, 0 ≤ x ∧ x ≤ 9999
  kp : ∀ t ∈ ts, KeptW ds t
theorem Way.feas {n : Nat} {ts : List Tie} {ds : List Int} (hok : ∀ t ∈ ts, TieIx (n : Int) t) (w : Way n ts ds) : Feas n ts (wayF n ds) := by
  have get : ∀ i, i < n → wayF n ds i ∈ ds := fun i hi => by
    unfold wayF
    rw [if_neg (by omega), List.getD_eq_getElem?_getD, List.getElem?_eq_getElem (by rw [w.len]; exact hi)]
    exact List.getElem_mem _
  refine ⟨if_pos rfl, fun i hi => (w.rg _ (get i hi)).1, fun i hi => (w.rg _ (get i hi)).2, fun t ht => ?_⟩
  have ok := hok t ht
  have := w.kp t ht
  unfold KeptW at this
  rw [dayOf_nd (n := n) ok.2.1, dayOf_nd (n := n) ok.2.2.2.1] at this
  exact this
theorem Feas.way {n : Nat} {ts : List Tie} {φ : Nat → Int} (hok : ∀ t ∈ ts, TieIx (n : Int) t) (f : Feas n ts φ) : Way n ts ((List.range n).map φ) := by
  have e : ∀ i, i ≤ n → wayF n ((List.range n).map φ) i = φ i := fun i hi => by
    unfold wayF
    split
    · rename_i e
      rw [e, f.z]
    · rw [List.getD_eq_getElem?_getD, List.getElem?_map, List.getElem?_range (by omega)]
      rfl
  refine ⟨by simp, fun x hx => ?_, fun t ht => ?_⟩
  · obtain ⟨i, hi, rfl⟩ := List.mem_map.mp hx
    exact ⟨f.lo i (List.mem_range.mp hi), f.hi i (List.mem_range.mp hi)⟩
  · have ok := hok t ht
    unfold KeptW
    rw [dayOf_nd (n := n) ok.2.1, dayOf_nd (n := n) ok.2.2.2.1, e _ (nd_le ok.2.1), e _ (nd_le ok.2.2.2.1)]
    exact f.ke t ht
def Can (n : Nat) (ts : List Tie) : Prop := ∃ φ, Feas n ts φ
theorem Can.iff {n : Nat} {ts : List Tie} (hok : ∀ t ∈ ts, TieIx (n : Int) t) : Can n ts ↔ ∀ i, i ≤ n → gapsG n ts i i = 0 := can_iff hok
/-- a round, as far as the ties l -/
structure RoundP (n : Nat) (ts l : List Tie) (ds es : List Int) (moved : Bool) : Prop where
  len : es.length = n
  ge : ∀ i, i < n → ds.getD i 0 ≤ es.getD i 0
  le : ∀ φ, Feas n ts φ → (∀ i, i < n → ds.getD i 0 ≤ φ i) → ∀ i, i < n → es.getD i 0 ≤ φ i
  ke : ∀ t ∈ l, 0 ≤ t.1 → valD ds n (nd n t.2.1) + t.2.2 ≤ es.getD t.1.toNat 0
  mv : moved = true → ∃ i, i < n ∧ ds.getD i 0 < es.getD i 0
  st : moved = false → es = ds
theorem RoundP.start {n : Nat} {ts : List Tie} {ds : List Int} (h : ds.length = n) : RoundP n ts [] ds ds false :=
  ⟨h, fun _ _ => Int.le_refl _, fun _ _ q => q, (fun t ht => absurd ht List.not_mem_nil), (fun z => Bool.noConfusion z), fun _ => rfl⟩
theorem RoundP.done {n : Nat} {ts : List Tie} {ds es : List Int} {mv : Bool} (h : RoundP n ts ts ds es mv) : Round n ts ds es mv := ⟨h.len, h.ge, h.le, h.ke, h.mv, h.st⟩
theorem valD_day {n : Nat} {ds : List Int} {o : Int} (h : o < n) : dayOf ds o = valD ds n (nd n o) := by
  unfold dayOf valD nd
  by_cases h1 : o < 0
  · rw [if_pos h1, if_pos h1, if_pos rfl]
  · rw [if_neg h1, if_neg h1, if_neg (by omega)]
theorem RoundP.pass {n : Nat} {ts l : List Tie} {ds es : List Int} {mv : Bool} {t : Tie} (h : RoundP n ts l ds es mv) (ok : TieIx (n : Int) t) (c : ¬ (0 ≤ t.1 ∧ es.getD t.1.toNat 0 < dayOf es t.2.1 + t.2.2)) : RoundP n ts (l ++ [t]) ds es mv := by
  refine ⟨h.len, h.ge, h.le, fun u hu h0 => ?_, h.mv, h.st⟩
  rcases List.mem_append.mp hu with hu | hu
  · exact h.ke u hu h0
  · rw [List.mem_singleton.mp hu] at h0 ⊢
    have e : valD ds n (nd n t.2.1) ≤ dayOf es t.2.1 := by
      rw [valD_day (n := n) ok.2.2.2.1]
      unfold valD
      split
      · exact Int.le_refl _
      · exact h.ge _ (by have := nd_le (n := n) ok.2.2.2.1; omega)
    omega
theorem getD_set {es : List Int} {i j : Nat} {x : Int} (hj : j < es.length) : (es.set j x).getD i 0 = if i = j then x else es.getD i 0 := by
  rw [List.getD_eq_getElem?_getD, List.getElem?_set]
  by_cases e : j = i
  · subst e
    rw [if_pos rfl, if_pos hj, if_pos rfl]
    rfl
  · rw [if_neg e, if_neg (Ne.symm e), List.getD_eq_getElem?_getD]
theorem RoundP.raise {n : Nat} {ts l : List Tie} {ds es : List Int} {mv : Bool} {t : Tie} (h : RoundP n ts l ds es mv) (ht : t ∈ ts) (ok : TieIx (n : Int) t) (c0 : 0 ≤ t.1) (c : es.getD t.1.toNat 0 < dayOf es t.2.1 + t.2.2) : RoundP n ts (l ++ [t]) ds (es.set t.1.toNat (dayOf es t.2.1 + t.2.2)) true := by
  have hj : t.1.toNat < es.length := by
    have := ok.2.1
    have := h.len
    omega
  have up : ∀ i, es.getD i 0 ≤ (es.set t.1.toNat (dayOf es t.2.1 + t.2.2)).getD i 0 := fun i => by
    rw [getD_set hj]
    split
    · rename_i e
      rw [e]
      omega
    · exact Int.le_refl _
  have e0 : valD ds n (nd n t.2.1) ≤ dayOf es t.2.1 := by
    rw [valD_day (n := n) ok.2.2.2.1]
    unfold valD
    split
    · exact Int.le_refl _
    · exact h.ge _ (by have := nd_le (n := n) ok.2.2.2.1; omega)
  refine ⟨by rw [List.length_set]; exact h.len, fun i hi => Int.le_trans (h.ge i hi) (up i), fun φ f q i hi => ?_, fun u hu h0 => ?_, fun _ => ⟨t.1.toNat, by have := h.len; omega, ?_⟩, fun z => Bool.noConfusion z⟩
  · rw [getD_set hj]
    split
    · rename_i e
      have k := f.ke t ht
      rw [nd_nat (by omega)] at k
      have d : dayOf es t.2.1 ≤ φ (nd n t.2.1) := by
        rw [valD_day (n := n) ok.2.2.2.1]
        unfold valD
        split
        · rename_i e2
          rw [e2, f.z]
          exact Int.le_refl _
        · exact h.le φ f q _ (by have := nd_le (n := n) ok.2.2.2.1; omega)
      rw [e]
      omega
    · exact h.le φ f q i hi
  · rcases List.mem_append.mp hu with hu | hu
    · exact Int.le_trans (h.ke u hu h0) (up _)
    · rw [List.mem_singleton.mp hu, getD_set hj, if_pos rfl]
      omega
  · have := h.ge t.1.toNat (by have := h.len; omega)
    rw [getD_set hj, if_pos rfl]
    omega
/-- at the end of all rounds: where they can be, the days keep all -/
theorem Rounds.keeps {n : Nat} {ts : List Tie} {r : Nat} {ds : List Int} (hok : ∀ t ∈ ts, TieIx (n : Int) t) (h : Rounds n ts r ds false) (c : Can n ts) : ∀ t ∈ ts, KeptW ds t := by
  intro t ht
  have ok := hok t ht
  obtain ⟨φ, f⟩ := c
  unfold KeptW
  by_cases h0 : t.1 < 0
  · rw [dayOf_neg h0, valD_day (n := n) ok.2.2.2.1]
    have k := f.ke t ht
    rw [nd_neg h0, f.z] at k
    have d : valD ds n (nd n t.2.1) ≤ φ (nd n t.2.1) := by
      unfold valD
      split
      · rename_i e2
        rw [e2, f.z]
        exact Int.le_refl _
      · exact h.le φ f _ (by have := nd_le (n := n) ok.2.2.2.1; omega)
    omega
  · have k := h.fx rfl t ht (by omega)
    rw [valD_day (n := n) ok.2.2.2.1]
    have e : dayOf ds t.1 = ds.getD t.1.toNat 0 := if_neg h0
    rw [e]
    omega
/-- the gaps hang on what is kept alone -/
theorem gaps_congr {n : Nat} {ts us : List Tie} (h1 : ∀ t ∈ ts, TieIx (n : Int) t) (h2 : ∀ t ∈ us, TieIx (n : Int) t) (e : ∀ φ, Feas n ts φ ↔ Feas n us φ) (c : Can n ts) {i j : Nat} (hi : i ≤ n) (hj : j ≤ n) : gapsG n ts i j = gapsG n us i j := by
  have c2 : Can n us := by
    obtain ⟨φ, f⟩ := c
    exact ⟨φ, (e φ).mp f⟩
  have d1 := (can_iff h1).mp c
  have d2 := (can_iff h2).mp c2
  have a1 := gap_le ((e _).mp (feas_gap h1 d1 hj)) hi hj
  have a2 := gap_le ((e _).mpr (feas_gap h2 d2 hj)) hi hj
  have b1 := d1 j hj
  have b2 := d2 j hj
  omega
/-- the least days, as a list -/
theorem least_is {n : Nat} {ts : List Tie} (hok : ∀ t ∈ ts, TieIx (n : Int) t) {ds : List Int} (w : Way n ts ds) (l : ∀ φ, Feas n ts φ → ∀ i, i < n → ds.getD i 0 ≤ φ i) : ds = (List.range n).map fun i => gapsG n ts i n := by
  have c := w.feas hok
  have d := (can_iff hok).mp ⟨_, c⟩
  apply List.ext_getElem?
  intro i
  rcases Nat.lt_or_ge i n with h | h
  · have h1 := l _ (feas_least hok d) i h
    have h2 := gap_le c (Nat.le_of_lt h) (Nat.le_refl n)
    have e1 : wayF n ds i = ds.getD i 0 := if_neg (by omega)
    rw [e1, c.z] at h2
    have e2 : ds[i]? = some (ds.getD i 0) := by
      rw [List.getD_eq_getElem?_getD, List.getElem?_eq_getElem (by rw [w.len]; exact h)]
      rfl
    rw [e2, List.getElem?_map, List.getElem?_range h]
    show some (ds.getD i 0) = some (gapsG n ts i n)
    congr 1
    omega
  · rw [List.getElem?_eq_none (by rw [w.len]; exact h), List.getElem?_eq_none (by simpa using h)]
/-- the greatest days -/
theorem greatest {n : Nat} {ts : List Tie} (hok : ∀ t ∈ ts, TieIx (n : Int) t) (d : ∀ i, i ≤ n → gapsG n ts i i = 0) {k : Nat} (hk : k < n) : (∃ φ, Feas n ts φ ∧ φ k = - gapsG n ts n k) ∧ ∀ φ, Feas n ts φ → φ k ≤ - gapsG n ts n k := by
  refine ⟨⟨_, feas_gap hok d (Nat.le_of_lt hk), ?_⟩, fun φ f => ?_⟩
  · have := d k (Nat.le_of_lt hk)
    show gapsG n ts k k - gapsG n ts n k = _
    omega
  · have := gap_le f (Nat.le_refl n) (Nat.le_of_lt hk)
    rw [f.z] at this
    omega
end LH

set_option Elab.async false
set_option linter.all false
set_option maxRecDepth 100000
set_option maxHeartbeats 4000000
namespace LH
open PySem PySem.Spec PyProof.Rows L2
/-! a square of numbers, a list for each row -/
def rowL (n : Nat) (r : Nat → Int) : List Int := (List.range (n + 1)).map r
structure MatAt (H : Hp) (as : List Addr) (R : Nat → Nat → Int) (n : Nat) : Prop where
  len : as.length = n + 1
  nd : as.Nodup
  row : ∀ i a, as[i]? = some a → H a = some (.lst ((rowL n (R i)).map V.int))
theorem rowL_len (n : Nat) (r : Nat → Int) : (rowL n r).length = n + 1 := by simp [rowL]
theorem rowL_get {n j : Nat} (r : Nat → Int) (h : j ≤ n) : (rowL n r)[j]? = some (r j) := by
  unfold rowL
  rw [List.getElem?_map, List.getElem?_range (by omega)]
  rfl
theorem rowL_congr {n : Nat} {r q : Nat → Int} (h : ∀ j, j ≤ n → r j = q j) : rowL n r = rowL n q := by
  unfold rowL
  exact List.map_congr_left fun j hj => h j (by have := List.mem_range.mp hj; omega)
theorem MatAt.mono {H H' : Hp} {as : List Addr} {R : Nat → Nat → Int} {n : Nat} (e : Same H H') (h : MatAt H as R n) : MatAt H' as R n := ⟨h.len, h.nd, fun i a ha => e _ _ (h.row i a ha)⟩
theorem MatAt.congr {H : Hp} {as : List Addr} {R R' : Nat → Nat → Int} {n : Nat} (h : MatAt H as R n) (e : ∀ i j, i ≤ n → j ≤ n → R i j = R' i j) : MatAt H as R' n :=
  ⟨h.len, h.nd, fun i a ha => by
    have hi : i < as.length := (List.getElem?_eq_some_iff.mp ha).1
    rw [← rowL_congr fun j hj => e i j (by have := h.len; omega) hj]
    exact h.row i a ha⟩
theorem MatAt.get {H : Hp} {as : List Addr} {R : Nat → Nat → Int} {n : Nat} (h : MatAt H as R n) {i : Nat} (hi : i ≤ n) : ∃ a, as[i]? = some a ∧ H a = some (.lst ((rowL n (R i)).map V.int)) := by
  have q : i < as.length := by rw [h.len]; omega
  exact ⟨_, List.getElem?_eq_getElem q, h.row i _ (List.getElem?_eq_getElem q)⟩
/-- places from the end, too -/
theorem at_nd {α : Type} {l : List α} {n : Nat} {o : Int} {v : α} (hl : l.length = n + 1) (h1 : -1 ≤ o) (h2 : o ≤ n) (e : l[nd n o]? = some v) : atI l o = some v := by
  unfold atI ixN
  rw [hl]
  by_cases h : o < 0
  · have e1 : o = -1 := by omega
    subst e1
    rw [nd_neg h] at e
    rw [if_neg (by omega), if_pos (by omega), show ((-1 : Int) + ((n + 1 : Nat) : Int)).toNat = n by omega]
    exact e
  · rw [nd_nat h] at e
    rw [if_pos (by omega), if_pos (by omega)]
    exact e
theorem ix_nd {m n : Nat} {o : Int} (hl : m = n + 1) (h1 : -1 ≤ o) (h2 : o ≤ n) : ixN m o = some (nd n o) := by
  unfold ixN
  by_cases h : o < 0
  · have e1 : o = -1 := by omega
    subst e1
    rw [nd_neg h, if_neg (by omega), if_pos (by omega), show ((-1 : Int) + ((m : Nat) : Int)).toNat = n by omega]
  · rw [nd_nat h, if_pos (by omega), if_pos (by omega)]
theorem get_refs {as : List Addr} {i : Nat} {a : Addr} (h : as[i]? = some a) : (as.map V.ref)[i]? = some (V.ref a) := by
  rw [List.getElem?_map, h]
  rfl
theorem row_at {n : Nat} {r : Nat → Int} {o : Int} (h1 : -1 ≤ o) (h2 : o ≤ n) (hn : nd n o ≤ n) : atI ((rowL n r).map V.int) o = some (V.int (r (nd n o))) :=
  at_nd (by simp [rowL_len]) h1 h2 (by rw [List.getElem?_map, rowL_get r hn]; rfl)
theorem rowL_set {n j : Nat} {r : Nat → Int} {x : Int} (h : j ≤ n) : (rowL n r).set j x = rowL n (fun k => if k = j then x else r k) := by
  apply List.ext_getElem?
  intro k
  rcases Nat.lt_or_ge k (n + 1) with h1 | h1
  · rw [rowL_get _ (by omega), List.getElem?_set]
    by_cases e : j = k
    · subst e
      rw [if_pos rfl, rowL_len, if_pos (by omega), if_pos rfl]
    · rw [if_neg e, rowL_get _ (by omega), if_neg (Ne.symm e)]
  · rw [List.getElem?_eq_none (by rw [List.length_set, rowL_len]; exact h1), List.getElem?_eq_none (by rw [rowL_len]; exact h1)]
/-- one cell stored -/
theorem MatAt.set {H : Hp} {as : List Addr} {R : Nat → Nat → Int} {n i j : Nat} {a : Addr} {x : Int} (h : MatAt H as R n) (ha : as[i]? = some a) (hj : j ≤ n) :
    MatAt (upd H a (.lst (((rowL n (R i)).map V.int).set j (V.int x)))) as (fun k l => if k = i ∧ l = j then x else R k l) n := by
  refine ⟨h.len, h.nd, fun k b hb => ?_⟩
  by_cases e : k = i
  · subst e
    rw [ha] at hb
    cases hb
    rw [upd_same, ← List.map_set, rowL_set hj]
    congr 4
    funext l
    by_cases q : l = j <;> simp [q]
  · have ne : b ≠ a := fun z => e (nd_ix h.nd (by rw [z] at hb; exact hb) ha)
    rw [upd_ne ne, h.row k b hb]
    congr 4
    funext l
    rw [if_neg fun z => e z.1]
theorem max_if (a b : Int) : (if b > a then b else a) = max a b := by
  split <;> omega
/-- the first row of a square of gaps -/
theorem row0_eq (n : Nat) : List.replicate n (-9999 : Int) ++ [0] = rowL n (fun j => if j = n then 0 else -9999) := by
  apply List.ext_getElem?
  intro k
  rcases Nat.lt_trichotomy k n with h | h | h
  · rw [List.getElem?_append_left (by simpa using h), List.getElem?_replicate, if_pos h, rowL_get _ (by omega), if_neg (by omega)]
  · subst h
    rw [List.getElem?_append_right (by simp), rowL_get _ (Nat.le_refl _), if_pos rfl]
    simp
  · rw [List.getElem?_eq_none (by simp; omega), List.getElem?_eq_none (by rw [rowL_len]; omega)]
theorem all_diag {n : Nat} {R : Nat → Nat → Int} : ((List.range (n + 1)).map fun i => decide (R i i = 0)).all id = true ↔ ∀ i, i ≤ n → R i i = 0 := by
  rw [List.all_map, List.all_eq_true]
  constructor
  · intro h i hi
    have := h i (List.mem_range.mpr (by omega))
    exact of_decide_eq_true this
  · intro h i hi
    exact decide_eq_true (h i (by have := List.mem_range.mp hi; omega))
def retE (st : Stmt) : Expr := match st with
  | .Return (some e) _ => e
  | _ => .Constant .none 0 ⟨0, 0, 0, 0⟩
def lcScope (e : Expr) : Scope := match e with
  | .ListComp _ _ sc _ => sc
  | _ => { kind := .function, names := [], isGenerator := false, isCoroutine := false }
structure MaybeAt (H H' : Hp) (p l : Addr) (xs : List V) (ts : List Tie) (m most : Int) : Prop where
  same : Same H H'
  np : H p = none
  nl : H l = none
  tup : H' p = some (.tup [.int m, .ref l])
  lst : H' l = some (.lst xs)
  ties : TiesAt H' xs ts
  m1 : 1 ≤ m
  m10 : m ≤ 10
  ok : ∀ t ∈ ts, TieOk m t
  tl : (ts.length : Int) ≤ most
/-- what the law's own raising of days tells -/
def EarlyIs (n : Nat) (ts : List Tie) (H H' : Hp) (v : V) : Prop :=
  (v = .non ∧ ¬ Can n ts) ∨ ∃ (p : Addr) (ds : List Int), v = .ref p ∧ H p = none ∧ H' p = some (.lst (ds.map V.int)) ∧ Way n ts ds ∧ ∀ φ, Feas n ts φ → ∀ i, i < n → ds.getD i 0 ≤ φ i
theorem Way.can {n : Nat} {ts : List Tie} {ds : List Int} (hok : ∀ t ∈ ts, TieIx (n : Int) t) (w : Way n ts ds) : Can n ts := ⟨_, w.feas hok⟩
theorem TieOk.mono {m m' : Int} {t : Tie} (h : TieOk m t) (e : m ≤ m') : TieOk m' t := by
  unfold TieOk at *
  omega
theorem mem_rep {α : Type} {x : α} {l : List α} : ∀ {k : Nat}, x ∈ (List.replicate k l).flatten → x ∈ l
  | 0, h => by simp at h
  | k + 1, h => by
    rw [List.replicate_succ, List.flatten_cons] at h
    rcases List.mem_append.mp h with h | h
    · exact h
    · exact mem_rep h
theorem ties_cut {H : Hp} {zs : List V} {us : List Tie} (h : TiesAt H zs us) (k : Nat) : ∃ vs : List Tie, TiesAt H (cutV zs none (some (k : Int))) vs ∧ vs.length ≤ k ∧ ∀ t ∈ vs, t ∈ us := by
  unfold cutV
  refine ⟨_, (h.drop _).take _, ?_, fun t ht => List.mem_of_mem_drop (List.mem_of_mem_take ht)⟩
  rw [List.length_take]
  refine Nat.le_trans (Nat.min_le_left _ _) ?_
  rw [HT.sIx_nat, HT.sIx_none]
  omega
theorem rep_len {α : Type} (l : List α) (k : Nat) : (List.replicate k l).flatten.length = k * l.length := by simp
theorem cut_back {α : Type} (f : α → V) {xs : List α} {n : Nat} (h : xs.length = n + 1) : cutV (xs.map f) none (some (-1)) = (xs.take n).map f := by
  unfold cutV
  have e : HT.sIx (n + 1) (n + 1) (some (-1)) = n := by
    simp only [HT.sIx]
    first | omega | (simp; omega) | simp
  rw [List.length_map, h, HT.sIx_none, e, List.drop_zero, Nat.sub_zero, List.map_take]
theorem cut_last {as : List Addr} {n : Nat} (h : as.length = n + 1) : cutV (as.map V.ref) none (some (-1)) = (as.take n).map V.ref := cut_back _ h
theorem cut_row {n : Nat} {r : Nat → Int} : cutV ((rowL n r).map V.int) none (some (-1)) = ((List.range n).map r).map V.int := by
  rw [cut_back _ (rowL_len n r)]
  unfold rowL
  rw [← List.map_take, List.take_range]
  simp
end LH

set_option Elab.async false
set_option linter.all false
set_option maxRecDepth 100000
set_option maxHeartbeats 4000000
namespace LH
open PySem PySem.Spec PyProof.Rows L2
/-! lives by other numbers -/
def renO (fs : List Nat) (o : Int) : Int := if o < 0 then -1 else ((fs.getD o.toNat 0 : Nat) : Int)
def renT (fs : List Nat) (t : Tie) : Tie := (renO fs t.1, renO fs t.2.1, t.2.2)
def renN (fs : List Nat) (n i : Nat) : Nat := if i = n then n else fs.getD i 0
section
variable {n : Nat} {fs : List Nat} (hp : fs.Perm (List.range n))
include hp
theorem perm_len : fs.length = n := by
  rw [hp.length_eq, List.length_range]
theorem perm_lt {i : Nat} (hi : i < n) : fs.getD i 0 < n := by
  have h : fs.getD i 0 ∈ fs := by
    rw [List.getD_eq_getElem?_getD, List.getElem?_eq_getElem (by rw [perm_len hp]; exact hi)]
    exact List.getElem_mem _
  exact List.mem_range.mp (hp.mem_iff.mp h)
theorem perm_nd : fs.Nodup := hp.nodup_iff.mpr List.nodup_range
theorem perm_inj {i j : Nat} (hi : i < n) (hj : j < n) (e : fs.getD i 0 = fs.getD j 0) : i = j := by
  have l := perm_len hp
  have a : fs[i]? = some (fs.getD i 0) := by
    rw [List.getD_eq_getElem?_getD, List.getElem?_eq_getElem (by omega)]
    rfl
  have b : fs[j]? = some (fs.getD i 0) := by
    rw [e, List.getD_eq_getElem?_getD, List.getElem?_eq_getElem (by omega)]
    rfl
  exact nd_ix (perm_nd hp) a b
theorem perm_sur {j : Nat} (hj : j < n) : ∃ i, i < n ∧ fs.getD i 0 = j := by
  have h : j ∈ fs := hp.mem_iff.mpr (List.mem_range.mpr hj)
  obtain ⟨i, hi⟩ := List.getElem?_of_mem h
  have hl : i < fs.length := (List.getElem?_eq_some_iff.mp hi).1
  exact ⟨i, by rw [perm_len hp] at hl; exact hl, getD_of hi⟩
theorem renN_le {i : Nat} (hi : i ≤ n) : renN fs n i ≤ n := by
  unfold renN
  split
  · exact Nat.le_refl _
  · exact Nat.le_of_lt (perm_lt hp (by omega))
theorem renN_inj {i j : Nat} (hi : i ≤ n) (hj : j ≤ n) (e : renN fs n i = renN fs n j) : i = j := by
  unfold renN at e
  by_cases a : i = n
  · by_cases b : j = n
    · omega
    · rw [if_pos a, if_neg b] at e
      have := perm_lt hp (i := j) (by omega)
      omega
  · by_cases b : j = n
    · rw [if_neg a, if_pos b] at e
      have := perm_lt hp (i := i) (by omega)
      omega
    · rw [if_neg a, if_neg b] at e
      exact perm_inj hp (by omega) (by omega) e
theorem nd_ren {o : Int} (h2 : o < n) : nd n (renO fs o) = renN fs n (nd n o) := by
  unfold renO
  by_cases h : o < 0
  · rw [if_pos h, nd_neg (by decide), nd_neg h]
    unfold renN
    rw [if_pos rfl]
  · rw [if_neg h, nd_nat (by omega), nd_nat h]
    unfold renN
    rw [if_neg (by omega)]
    omega
theorem feas_ren {ts : List Tie} (hok : ∀ t ∈ ts, TieIx (n : Int) t) (ψ : Nat → Int) : Feas n (ts.map (renT fs)) ψ ↔ Feas n ts (fun i => ψ (renN fs n i)) := by
  have zz : renN fs n n = n := if_pos rfl
  constructor
  · intro f
    refine ⟨by rw [zz]; exact f.z, fun i hi => ?_, fun i hi => ?_, fun t ht => ?_⟩
    · have e : renN fs n i = fs.getD i 0 := if_neg (by omega)
      rw [e]
      exact f.lo _ (perm_lt hp hi)
    · have e : renN fs n i = fs.getD i 0 := if_neg (by omega)
      rw [e]
      exact f.hi _ (perm_lt hp hi)
    · have k := f.ke (renT fs t) (List.mem_map_of_mem ht)
      have ok := hok t ht
      unfold renT at k
      dsimp only at k
      rw [nd_ren hp ok.2.1, nd_ren hp ok.2.2.2.1] at k
      exact k
  · intro f
    refine ⟨by have := f.z; rw [zz] at this; exact this, fun j hj => ?_, fun j hj => ?_, fun u hu => ?_⟩
    · obtain ⟨i, hi, e⟩ := perm_sur hp hj
      have := f.lo i hi
      have e2 : renN fs n i = fs.getD i 0 := if_neg (by omega)
      rw [e2, e] at this
      exact this
    · obtain ⟨i, hi, e⟩ := perm_sur hp hj
      have := f.hi i hi
      have e2 : renN fs n i = fs.getD i 0 := if_neg (by omega)
      rw [e2, e] at this
      exact this
    · obtain ⟨t, ht, rfl⟩ := List.mem_map.mp hu
      have ok := hok t ht
      have k := f.ke t ht
      unfold renT
      dsimp only
      rw [nd_ren hp ok.2.1, nd_ren hp ok.2.2.2.1]
      exact k
theorem ren_back (φ : Nat → Int) : ∃ ψ : Nat → Int, ∀ i, i ≤ n → ψ (renN fs n i) = φ i := by
  classical
  refine ⟨fun j => if h : ∃ i, i ≤ n ∧ renN fs n i = j then φ h.choose else 0, fun i hi => ?_⟩
  have h : ∃ k, k ≤ n ∧ renN fs n k = renN fs n i := ⟨i, hi, rfl⟩
  show (if h : ∃ k, k ≤ n ∧ renN fs n k = renN fs n i then φ h.choose else 0) = φ i
  rw [dif_pos h]
  exact congrArg φ (renN_inj hp h.choose_spec.1 hi h.choose_spec.2)
theorem feas_val {ts : List Tie} {φ χ : Nat → Int} (hok : ∀ t ∈ ts, TieIx (n : Int) t) (f : Feas n ts φ) (e : ∀ i, i ≤ n → χ i = φ i) : Feas n ts χ := by
  refine ⟨by rw [e n (Nat.le_refl n)]; exact f.z, fun i hi => by rw [e i (Nat.le_of_lt hi)]; exact f.lo i hi, fun i hi => by rw [e i (Nat.le_of_lt hi)]; exact f.hi i hi, fun t ht => ?_⟩
  have ok := hok t ht
  rw [e _ (nd_le ok.2.1), e _ (nd_le ok.2.2.2.1)]
  exact f.ke t ht
theorem can_ren {ts : List Tie} (hok : ∀ t ∈ ts, TieIx (n : Int) t) : Can n (ts.map (renT fs)) ↔ Can n ts := by
  constructor
  · rintro ⟨ψ, f⟩
    exact ⟨_, (feas_ren hp hok ψ).mp f⟩
  · rintro ⟨φ, f⟩
    obtain ⟨ψ, e⟩ := ren_back hp φ
    exact ⟨ψ, (feas_ren hp hok ψ).mpr (feas_val hp hok f e)⟩
theorem ren_ok {m : Int} {t : Tie} (hm : m = (n : Int)) (h : TieOk m t) : TieOk m (renT fs t) := by
  subst hm
  obtain ⟨h1, h2, h3, h4, h5, h6, h7⟩ := h
  unfold TieOk renT
  dsimp only
  have r : ∀ o : Int, -1 ≤ o → o < n → -1 ≤ renO fs o ∧ renO fs o < n := fun o a b => by
    unfold renO
    split
    · omega
    · have := perm_lt hp (i := o.toNat) (by omega)
      omega
  obtain ⟨a1, a2⟩ := r _ h1 h2
  obtain ⟨b1, b2⟩ := r _ h3 h4
  refine ⟨a1, a2, b1, b2, fun e => h5 ?_, h6, h7⟩
  unfold renO at e
  by_cases c1 : t.1 < 0
  · by_cases c2 : t.2.1 < 0
    · omega
    · rw [if_pos c1, if_neg c2] at e
      omega
  · by_cases c2 : t.2.1 < 0
    · rw [if_neg c1, if_pos c2] at e
      omega
    · rw [if_neg c1, if_neg c2] at e
      have := perm_inj hp (i := t.1.toNat) (j := t.2.1.toNat) (by omega) (by omega) (by omega)
      omega
theorem gap_ren {ts : List Tie} (hok : ∀ t ∈ ts, TieIx (n : Int) t) (hok2 : ∀ t ∈ ts.map (renT fs), TieIx (n : Int) t) (c : Can n ts) {i j : Nat} (hi : i ≤ n) (hj : j ≤ n) : gapsG n (ts.map (renT fs)) (renN fs n i) (renN fs n j) = gapsG n ts i j := by
  have d1 := (can_iff hok).mp c
  have d2 := (can_iff hok2).mp ((can_ren hp hok).mpr c)
  have a1 := gap_le ((feas_ren hp hok _).mp (feas_gap hok2 d2 (renN_le hp hj))) hi hj
  obtain ⟨ψ, e⟩ := ren_back hp (fun i => gapsG n ts i j - gapsG n ts n j)
  have a2 := gap_le ((feas_ren hp hok ψ).mpr (feas_val hp hok (feas_gap hok d1 hj) e)) (renN_le hp hi) (renN_le hp hj)
  rw [e i hi, e j hj] at a2
  have b1 := d1 j hj
  have b2 := d2 _ (renN_le hp hj)
  omega
end
/-! another order, ties twice, weaker ones beside -/
def weakT (less : Int) (t : Tie) : Tie := (t.1, t.2.1, if t.2.2 - less > -9999 then t.2.2 - less else -9999)
def tie0 : Tie := (0, 0, 0)
theorem feas_other {n : Nat} {ts : List Tie} {ps : List Nat} {less : Int} (hl : 0 ≤ less) (hok : ∀ t ∈ ts, TieOk (n : Int) t) (hp : ps.Perm (List.range ts.length)) (φ : Nat → Int) :
    Feas n ts φ ↔ Feas n (ps.map (fun j => ts.getD j tie0) ++ ts.take 5 ++ (ts.drop 5).map (weakT less)) φ := by
  have mem : ∀ t, t ∈ ps.map (fun j => ts.getD j tie0) ↔ t ∈ ts := fun t => by
    constructor
    · intro h
      obtain ⟨j, hj, rfl⟩ := List.mem_map.mp h
      have hj := List.mem_range.mp (hp.mem_iff.mp hj)
      rw [List.getD_eq_getElem?_getD, List.getElem?_eq_getElem hj]
      exact List.getElem_mem _
    · intro h
      obtain ⟨j, hj⟩ := List.getElem?_of_mem h
      have hl := (List.getElem?_eq_some_iff.mp hj).1
      exact List.mem_map.mpr ⟨j, hp.mem_iff.mpr (List.mem_range.mpr hl), getD_of hj⟩
  constructor
  · intro f
    refine ⟨f.z, f.lo, f.hi, fun t ht => ?_⟩
    rcases List.mem_append.mp ht with ht | ht
    · rcases List.mem_append.mp ht with ht | ht
      · exact f.ke t ((mem t).mp ht)
      · exact f.ke t (List.mem_of_mem_take ht)
    · obtain ⟨u, hu, rfl⟩ := List.mem_map.mp ht
      have hu := List.mem_of_mem_drop hu
      have k := f.ke u hu
      have ok := hok u hu
      have l1 := f.lo' (nd_le (n := n) ok.2.1)
      have h2 : φ (nd n u.2.1) ≤ 9999 := by
        rcases Nat.lt_or_ge (nd n u.2.1) n with z | z
        · exact f.hi _ z
        · have := nd_le (n := n) ok.2.2.2.1
          have e : nd n u.2.1 = n := by omega
          rw [e, f.z]
          decide
      unfold weakT
      dsimp only
      split <;> omega
  · intro f
    exact ⟨f.z, f.lo, f.hi, fun t ht => f.ke t (List.mem_append_left _ (List.mem_append_left _ ((mem t).mpr ht)))⟩
theorem ok_other {n : Nat} {ts : List Tie} {ps : List Nat} {less : Int} (hl : 0 ≤ less) (hok : ∀ t ∈ ts, TieOk (n : Int) t) (hp : ps.Perm (List.range ts.length)) :
    ∀ t ∈ ps.map (fun j => ts.getD j tie0) ++ ts.take 5 ++ (ts.drop 5).map (weakT less), TieOk (n : Int) t := by
  intro t ht
  rcases List.mem_append.mp ht with ht | ht
  · rcases List.mem_append.mp ht with ht | ht
    · obtain ⟨j, hj, rfl⟩ := List.mem_map.mp ht
      have hj := List.mem_range.mp (hp.mem_iff.mp hj)
      refine hok _ ?_
      rw [List.getD_eq_getElem?_getD, List.getElem?_eq_getElem hj]
      exact List.getElem_mem _
    · exact hok t (List.mem_of_mem_take ht)
  · obtain ⟨u, hu, rfl⟩ := List.mem_map.mp ht
    have ok := hok u (List.mem_of_mem_drop hu)
    unfold weakT
    unfold TieOk at ok ⊢
    dsimp only
    split <;> omega
theorem cut_ties_to (k : Nat) (xs : List V) : cutV xs none (some (k : Int)) = xs.take k := by
  unfold cutV
  rw [HT.sIx_nat, HT.sIx_none, List.drop_zero, Nat.sub_zero]
  rcases Nat.le_total k xs.length with h | h
  · rw [Nat.min_eq_left h]
  · rw [Nat.min_eq_right h, List.take_length, List.take_of_length_le h]
theorem cut_from (k : Nat) (xs : List V) : cutV xs (some (k : Int)) none = xs.drop k := by
  unfold cutV
  rw [HT.sIx_nat, HT.sIx_none]
  rcases Nat.le_total k xs.length with h | h
  · rw [Nat.min_eq_left h, ← List.length_drop, List.take_length]
  · rw [Nat.min_eq_right h, List.drop_length, List.drop_eq_nil_of_le h, List.take_nil]
theorem erase_map {α β : Type} (f : α → β) : ∀ (l : List α) (i : Nat), (l.map f).eraseIdx i = (l.eraseIdx i).map f
  | [], _ => rfl
  | _ :: _, 0 => rfl
  | a :: l, i + 1 => by
    show f a :: (l.map f).eraseIdx i = f a :: (l.eraseIdx i).map f
    rw [erase_map f l i]
theorem perm_erase {α : Type} : ∀ {l : List α} {i : Nat} {x : α}, l[i]? = some x → (x :: l.eraseIdx i).Perm l
  | [], i, x, h => by simp at h
  | a :: l, 0, x, h => by
    have e : a = x := Option.some.inj h
    subst e
    exact List.Perm.refl _
  | a :: l, i + 1, x, h => by
    have ih := perm_erase (l := l) (i := i) (x := x) h
    show (x :: a :: l.eraseIdx i).Perm (a :: l)
    exact (List.Perm.swap a x _).trans (List.Perm.cons a ih)
theorem ties_pick {H : Hp} {xs : List V} {ts : List Tie} (h : TiesAt H xs ts) : ∀ ps : List Nat, (∀ j ∈ ps, j < xs.length) → TiesAt H (ps.map fun j => xs.getD j .non) (ps.map fun j => ts.getD j tie0)
  | [], _ => trivial
  | j :: ps, hp => by
    have hj := hp j List.mem_cons_self
    obtain ⟨t, ht, hv⟩ := h.get (List.getElem?_eq_getElem hj)
    refine ⟨?_, ties_pick h ps fun k hk => hp k (List.mem_cons_of_mem _ hk)⟩
    show TieAt H (xs.getD j .non) (ts.getD j tie0)
    rw [List.getD_eq_getElem?_getD, List.getElem?_eq_getElem hj, getD_of ht]
    exact hv
/-- -1 if o < 0 else names[o] -/
theorem if_name {K : PySem.W.Frag} {fs : List Nat} {a : Addr} {o : Int} {i j : Nat} {σ : L2.St} {H : Hp} {Q : VK} (hS : SqL K H a ((fs.map fun j : Nat => (j : Int)).map V.int)) (hi : σ[i]? = some (some (.int o))) (hj : σ[j]? = some (some (.ref a))) (ho : o < fs.length) (q : Q (.int (renO fs o)) H) :
    tIf (tTest (tOp (rI0 fun i j => .bl (decide (i < j))) (tVar i) (tC (.int 0)))) (tUn (rU fun i => .int (-i)) (tC (.int 1))) (tOp (rIxL K) (tVar j) (tVar i)) σ H Q := by
  refine ⟨_, hi, _, _, rfl, rfl, _, rfl, ?_⟩
  refine ite2 (fun c => ?_) (fun c => ?_)
  · have c : o < 0 := of_decide_eq_true c
    unfold renO at q
    rw [if_pos c] at q
    exact ⟨_, rfl, q⟩
  · have c : ¬ o < 0 := fun z => c (decide_eq_true z)
    unfold renO at q
    rw [if_neg c] at q
    have hl : o.toNat < fs.length := by omega
    refine ⟨_, hj, _, hi, a, _, o, _, rfl, rfl, hS, at_of (j := o.toNat) (by omega) ?_, q⟩
    rw [List.getElem?_map, List.getElem?_map, List.getElem?_eq_getElem hl, List.getD_eq_getElem?_getD, List.getElem?_eq_getElem hl]
    rfl
theorem get_nats {fs : List Nat} {i : Nat} {y : V} (hi : ((fs.map fun j : Nat => (j : Int)).map V.int)[i]? = some y) : ∃ j, fs[i]? = some j ∧ y = V.int (j : Int) := by
  rw [List.getElem?_map, List.getElem?_map] at hi
  cases e : fs[i]? with
  | none => rw [e] at hi; cases hi
  | some j => rw [e] at hi; exact ⟨j, rfl, (Option.some.inj hi).symm⟩
theorem at_nats {fs : List Nat} {i : Nat} {o : Int} (e : o = (i : Int)) (h : i < fs.length) : atI ((fs.map fun j : Nat => (j : Int)).map V.int) o = some (V.int ((fs.getD i 0 : Nat) : Int)) := by
  refine at_of (j := i) e ?_
  rw [List.getElem?_map, List.getElem?_map, List.getElem?_eq_getElem h, List.getD_eq_getElem?_getD, List.getElem?_eq_getElem h]
  rfl
theorem at_rangeI {n i : Nat} {f : Nat → Int} {o : Int} (e : o = (i : Int)) (h : i < n) : atI (((List.range n).map f).map V.int) o = some (V.int (f i)) := by
  refine at_of (j := i) e ?_
  rw [List.getElem?_map, List.getElem?_map, List.getElem?_range h]
  rfl
theorem shaped_bb (a b : Bool) : SeqAt.shaped (.list [.bool a, .bool b]) = true := rfl
end LH

set_option Elab.async false
set_option linter.all false
set_option maxRecDepth 100000
set_option maxHeartbeats 4000000
/-! while an error is handled: walks that end, tuples taken apart -/
namespace LH
open PySem PySem.Spec PyProof.Rows L2 L2H HotX
section
variable {P : Program} {w : World} {A : Around} {E : Value → Shared → Prop} {s : Shared}
/-- StopIteration, made and raised -/
theorem stop_hot {α : Type} {x1 : Addr} {Q : α → Shared → Prop} (hot : HotAt A x1 s.heap)
    (hE : ∀ h' e, (∀ b o, s.heap.get? b = some o → h'.get? b = some o) → (∃ o, h'.get? e = some o ∧ o.cls = .type "StopIteration") → E (.ref e) { s with heap := h' }) :
    wpAny (model P w) A (newExc (.type "StopIteration") [] >>= fun e => (raiseNew e : Sem α)) Q E s := by
  obtain ⟨hh, o1, v1, g1, d1, c1⟩ := hot
  refine wpAny_bind ?_
  simp only [newExc, newTuple]
  refine wpAny_bind (wpAny_newObj_type ?_ (by size_fits))
  refine wpAny_bind (m := firstArgMember _ _) (wpAny_of_eq (a := Value.none) (by first | rfl | (simp only [firstArgMember]; rfl)) ?_)
  refine wpAny_newObj_type ?_ (by size_fits)
  refine raiseNew_hot ⟨hh, o1, v1, Heap.get?_push_of_some _ (Heap.get?_push_of_some _ g1), d1, c1⟩ (Nat.ne_of_lt (Heap.lt_size (Heap.get?_push_of_some _ g1))) (Heap.get?_push_size _ rfl) rfl (by first | (simp; done) | (simp; omega)) ?_
  refine hE _ _ (fun b o e => ?_) ⟨_, Heap.get?_update_self _ (Heap.get?_push_size _ rfl) rfl, rfl⟩
  rw [Heap.get?_update_other _ _ (Nat.ne_of_gt (Heap.lt_size (Heap.get?_push_of_some _ e)))]
  exact Heap.get?_push_of_some _ (Heap.get?_push_of_some _ e)
/-- a list's iterator at its end -/
theorem list_end_hot {it l x1 : Addr} {i : Nat} {items : Array Value} {Q : Value → Shared → Prop} (hot : HotAt A x1 s.heap) (hne : x1 ≠ it) (hit : s.heap.IsListIter it l i) (hl : s.heap.IsList l items) (hx : items[i]? = none)
    (hE : ∀ h' e, Heap.ExtBut it s.heap h' → (∃ o, h'.get? e = some o ∧ o.cls = .type "StopIteration") → E (.ref e) { s with heap := h' }) :
    wpAny (model P w) A (Builtin.SmallTypes.nextOf (.ref it)) Q E s := by
  obtain ⟨oi, gi, ci, di⟩ := id hit
  obtain ⟨ol, gl, _, nl, dl⟩ := hl
  obtain ⟨hh, o1, v1, g1, d1, c1⟩ := hot
  unfold Builtin.SmallTypes.nextOf
  refine wpAny_bind (wpAny_callSpecial?_slot (name := Str.ofString "__next__") hit.typeIs slot_listiter_next (wpAny_call_entry slot_listiter_next hit.typeIs entry_listiter_next ?_ (args_listiter_next _)))
  show wpAny _ _ (field (.ref it) 0 >>= _) _ _ s
  refine wpAny_bind (wpAny_field gi di (x := .ref l) rfl ?_)
  show wpAny _ _ (if (Value.ref l == Value.none) = true then _ else _) _ _ s
  rw [if_neg (show ¬ ((Value.ref l == Value.none) = true) from Bool.false_ne_true)]
  show wpAny _ _ (field (.ref it) 1 >>= _) _ _ s
  refine wpAny_bind (wpAny_field gi di (x := .int i 0) rfl ?_)
  show wpAny _ _ (seqItems? (.ref l) >>= _) _ _ s
  refine wpAny_bind (wpAny_seqItems gl dl ?_)
  simp only [Int.toNat_natCast, hx]
  refine wpAny_bind (wpAny_rule (wpAny_bind (wpAny_setField gi di (by simp) ?_)))
  refine stop_hot (x1 := x1) ⟨hh, o1, v1, ?_, d1, c1⟩ fun h' e k q => hE h' e (fun b o hb g => k b o ?_) q
  · rw [Heap.get?_update_other _ _ (Ne.symm hne)]
    exact g1
  · exact (Heap.SameBut.update ..).extBut b o hb g
/-- a tuple's iterator at its end -/
theorem tuple_end_hot {it t x1 : Addr} {i : Nat} {items : Array Value} {Q : Option Value → Shared → Prop} (hot : HotAt A x1 s.heap) (hne : x1 ≠ it) (hit : IsTupIter s.heap it t i) (ht : IsTup s.heap t items) (hx : items[i]? = none)
    (hQ : ∀ h', Heap.ExtBut it s.heap h' → Q none { s with heap := h' }) : wpAny (model P w) A (pyNext (.ref it)) Q E s := by
  obtain ⟨oi, gi, ci, di⟩ := id hit
  obtain ⟨ol, gl, _, nl, dl⟩ := ht
  obtain ⟨hh, o1, v1, g1, d1, c1⟩ := hot
  unfold pyNext
  refine wpAny_bind (wpAny_attempt (wpAny_callSpecial?_slot (name := Str.ofString "__next__") hit.typeIs slot_tupleiter_next (wpAny_call_entry slot_tupleiter_next hit.typeIs entry_tupleiter_next ?_ (args_tupleiter_next _))))
  show wpAny _ _ (field (.ref it) 0 >>= _) _ _ s
  refine wpAny_bind (wpAny_field gi di (x := .ref t) rfl ?_)
  show wpAny _ _ (if (Value.ref t == Value.none) = true then _ else _) _ _ s
  rw [if_neg (show ¬ ((Value.ref t == Value.none) = true) from Bool.false_ne_true)]
  show wpAny _ _ (field (.ref it) 1 >>= _) _ _ s
  refine wpAny_bind (wpAny_field gi di (x := .int i 0) rfl ?_)
  show wpAny _ _ (seqItems? (.ref t) >>= _) _ _ s
  refine wpAny_bind (wpAny_seqItems gl dl ?_)
  simp only [Int.toNat_natCast, hx]
  refine wpAny_bind (wpAny_rule (wpAny_bind (wpAny_setField gi di (by simp) ?_)))
  refine stop_hot (x1 := x1) ⟨hh, o1, v1, ?_, d1, c1⟩ fun h' e k ⟨oe, ge, ce⟩ => ?_
  · rw [Heap.get?_update_other _ _ (Ne.symm hne)]
    exact g1
  refine wpAny_bind (wpAny_isInstance (T := "StopIteration") (b := true) ⟨oe, ge, ce⟩ isSubtype_stop ?_)
  exact wpAny_pure (hQ _ fun b o hb g => k b o ((Heap.SameBut.update ..).extBut b o hb g))
/-- (a, b, ..) = a tuple -/
theorem unpack_hot {env : Env} {elts : List Expr} {kk : Nat} {pos : Pos} {t x1 : Addr} {items : Array Value} {Q : Unit → Shared → Prop} (hot : HotAt A x1 s.heap) (ht : IsTup s.heap t items)
    (hn : (assignEach elts env).length = items.size) (hst : (assignEach elts env).findIdx? (·.1) = none)
    (h : ∀ h', Heap.ExtBut s.heap.objs.size s.heap h' → wpAny (model P w) A (assignInOrder ((assignEach elts env).map (·.2)) items.toList) Q E { s with heap := h' }) :
    wpAny (model P w) A (assign (.Tuple elts kk pos) env (.ref t)) Q E s := by
  obtain ⟨hh, o1, v1, g1, d1, c1⟩ := hot
  have ntl : t ≠ s.heap.objs.size := by
    obtain ⟨o, g, _⟩ := ht
    exact Nat.ne_of_lt (Heap.lt_size g)
  have n1 : x1 ≠ s.heap.objs.size := Nat.ne_of_lt (Heap.lt_size g1)
  rw [assign_Tuple]
  refine wpAny_bind (wpAny_standAt ?_)
  unfold unpack
  rw [hn, hst]
  refine wpAny_bind (wpAny_holding ?_)
  unfold unpackItems notIterableAtAll
  refine wpAny_bind (wpAny_bind (wpAny_specialOf ht.typeIs slot_tuple_iter.lookup (wpAny_pure ?_)))
  simp only [Bool.false_eq_true, if_false]
  refine wpAny_bind (wpAny_holding (iter_tuple ht ?_))
  refine wpAny_bind (wpAny_holding (draw_tuple ntl items.size 0 _ _ ⟨_, Heap.get?_push_size _ rfl, rfl, rfl⟩ (ht.push _) (by omega) fun h1 i1 b1 => ?_))
  rw [show List.take items.size (List.drop 0 items.toList) = items.toList from by rw [List.drop_zero]; exact List.take_of_length_le (by simp)]
  rw [if_neg (by simp)]
  refine wpAny_bind (wpAny_holding (tuple_end_hot (x1 := x1) ⟨hh, o1, v1, b1.extBut _ _ n1 (Heap.get?_push_of_some _ g1), d1, c1⟩ n1 i1 ((ht.push _).extBut b1.extBut ntl) (by simp) fun h2 k2 => ?_))
  simp only [Option.isSome_none, Bool.false_eq_true, if_false]
  exact wpAny_pure (h h2 fun b o hb e => k2 b o hb (b1.extBut b o hb (Heap.get?_push_of_some _ e)))
end

/-! the handled error stands in every state of a context -/
def HotS (X : Cx) (x1 : Addr) : Prop := ∀ (pins : List (Addr × Obj)) (σ : L2.St) (H : Hp) (s : Shared), L2.Inv X pins σ H s → HotAt X.A x1 s.heap
theorem pg_tupX {X : Cx} {x1 : Addr} {es : List Expr} {k : Nat} {t : TGs} {n : Nat} {pos : Pos} (K : PySem.W.Frag) (hot : HotS X x1) (h : PGs X es t) (hK : X.K = K := by rfl) (hn : (assignEach es X.env).length = n := by rfl) (hst : (assignEach es X.env).findIdx? (·.1) = none := by rfl) :
    PG X (.Tuple es k pos) (gTup K n t) := by
  subst hK
  refine ⟨fun pins s σ H v u Q I r ⟨a, xs, e1, hq, hl, hw⟩ => ?_⟩
  subst e1
  cases r
  obtain ⟨its, rv, ht, _⟩ := I.tuple hq
  refine unpack_hot (hot pins σ H s I) ht (by simp [hn, ← hl, rv.length]) hst fun h' hx => ?_
  exact h.run pins _ σ H xs _ Q (I.kept (t' := s.toks) fun b o e => hx b o (Nat.ne_of_lt (Heap.lt_size e)) e) (by simpa using rv) hw
/-- what is walked while x1 is handled -/
structure TurnX (P : Program) (w : World) (K : PySem.W.Frag) (x1 : Addr) (tg : Expr) (J : It) (fp : List Addr) (it : Addr) (tn : Nat → Heap → Prop) : Prop where
  mem : it ∈ fp
  old : x1 ∉ fp
  obj : ∀ i h, tn i h → ∀ b ∈ fp, ∃ o, h.get? b = some o ∧ ∀ v, o.data ≠ .cell v
  keep : ∀ i h h', tn i h → (∀ b ∈ fp, ∀ o, h.get? b = some o → h'.get? b = some o) → tn i h'
  item : ∀ (X : Cx), X.prog = P → X.w = w → X.K = K → ∀ (i : Nat) (pins : List (Addr × Obj)) (s : Shared) (σ : L2.St) (H : Hp) (E : Value → Shared → Prop), L2.Inv X pins σ H s → HotAt X.A x1 s.heap → (∀ b ∈ fp, FpOk X pins H b) → tn i s.heap → J.go i H →
    wpAny (model P w) X.A (pyNext (.ref it)) (fun r s1 => ∃ u, r = some u ∧
      wpAny (model P w) X.A (letOwnedTupleGo tg (.ref it) u) (fun _ s2 => ∃ x H', L2.Inv X pins σ H' s2 ∧ RelV x u ∧ J.yld i H x H' ∧ tn (i + 1) s2.heap ∧ ∀ b ∈ fp, H' b = none) E s1) E s
  done : ∀ (X : Cx), X.prog = P → X.w = w → X.K = K → ∀ (i : Nat) (pins : List (Addr × Obj)) (s : Shared) (σ : L2.St) (H : Hp) (E : Value → Shared → Prop), L2.Inv X pins σ H s → HotAt X.A x1 s.heap → (∀ b ∈ fp, FpOk X pins H b) → tn i s.heap → J.stop i H →
    wpAny (model P w) X.A (pyNext (.ref it)) (fun r s1 => r = none ∧ L2.Inv X pins σ H s1) E s
  self : ∀ (A : Around) (i : Nat) (s : Shared) (Q : Value → Shared → Prop) (E : Value → Shared → Prop), tn i s.heap → Q (.ref it) s → wpAny (model P w) A (pyIter (.ref it)) Q E s
def PIXE (X : Cx) (x1 : Addr) (pins : List (Addr × Obj)) (σ : L2.St) (tg : Expr) (R : It → Hp → Prop) (itv : Value) (s2 : Shared) : Prop :=
  ∃ (it : Addr) (fp : List Addr) (tn : Nat → Heap → Prop) (J : It) (H' : Hp), itv = .ref it ∧ L2.Inv X pins σ H' s2 ∧ TurnX X.prog X.w X.K x1 tg J fp it tn ∧ tn 0 s2.heap ∧ (∀ b ∈ fp, FpOk X pins H' b) ∧ R J H'
structure PIX (X : Cx) (x1 : Addr) (tg iter : Expr) (wi : TI) : Prop where
  run : ∀ (pins : List (Addr × Obj)) (s : Shared) (σ : L2.St) (H : Hp) (R : It → Hp → Prop), L2.Inv X pins σ H s → wi σ H R →
    wpAny (model X.prog X.w) X.A (eval iter X.env) (fun v s1 => wpAny (model X.prog X.w) X.A (pyIter v) (PIXE X x1 pins σ tg R) X.xe s1) X.xe s
/-- zip of two lists -/
def ItzX (K : PySem.W.Frag) (a b : Addr) : It :=
  ⟨fun i H => ∃ xs ys : List V, SqL K H a xs ∧ SqL K H b ys ∧ i < xs.length ∧ i < ys.length,
    fun i H v H' => ∃ T x y, v = .ref T ∧ H T = none ∧ H' = upd H T (.tup [x, y]) ∧ (∀ xs, SqL K H a xs → xs[i]? = some x) ∧ ∀ ys, SqL K H b ys → ys[i]? = some y,
    fun i H => ∃ xs ys : List V, SqL K H a xs ∧ SqL K H b ys ∧ i = min xs.length ys.length⟩
theorem walk_zipX {K : PySem.W.Frag} {a b : Addr} {xs ys : List V} {n : Nat} (hn : n = min xs.length ys.length) :
    Walk (ItzX K a b) n (fun H => SqL K H a xs ∧ SqL K H b ys) (fun i H v H' => ∃ T x y, v = .ref T ∧ H T = none ∧ H' = upd H T (.tup [x, y]) ∧ xs[i]? = some x ∧ ys[i]? = some y) := by
  subst hn
  constructor
  · intro i H hi q
    exact ⟨xs, ys, q.1, q.2, by omega, by omega⟩
  · intro H q
    exact ⟨xs, ys, q.1, q.2, rfl⟩
  · intro i H v H' _ q y
    obtain ⟨T, x, z, h1, h2, h3, h4, h5⟩ := y
    exact ⟨T, x, z, h1, h2, h3, h4 xs q.1, h5 ys q.2⟩
theorem draws_hot {P : Program} {w : World} {A : Around} {x1 : Addr} {o1 : Obj} {v1 : Array Value} (hh : A.handled = some (.ref x1)) (d1 : o1.data = .fields v1) (c1 : v1[2]? = some .none) (it l : Addr) (hne : l ≠ it) (hx : x1 ≠ it) (items : Array Value) :
    Draws P w A it [it, l, x1] items.size (fun i v => items[i]? = some v) (fun i h => h.IsListIter it l i ∧ h.IsList l items ∧ h.get? x1 = some o1) where
  live := fun _ _ st => let ⟨o, ho, _⟩ := st.1; ⟨o, ho⟩
  frame := fun _ _ _ st hk => ⟨st.1.at fun o e => hk it (by simp) o e, st.2.1.at fun o e => hk l (by simp) o e, hk x1 (by simp) o1 st.2.2⟩
  item := fun i s Q E hi st hQ => by
    refine wpAny_nextOf_list_item st.1 st.2.1 (x := items[i]) (by simp [hi]) fun h' i' b' => ?_
    exact hQ _ h' s.toks (by simp [hi]) ⟨i', st.2.1.extBut b'.extBut hne, b'.extBut _ _ hx st.2.2⟩ b'
  done := fun s Q E st hE => list_end_hot (x1 := x1) ⟨hh, o1, v1, st.2.2, d1, c1⟩ hx st.1 st.2.1 (by simp) hE
abbrev fp2 (N : Addr) : List Addr := [N + 4, N + 2, N + 3, N, N + 1]
def tn2 (N a b : Addr) (i : Nat) (h : Heap) : Prop :=
  IsZip h (N + 4) (N + 2) (N + 3) .none ∧ IsTupOf2 h (N + 2) (.ref N) (.ref (N + 1)) ∧ (∃ a1 a2, IsTupOf2 h (N + 3) a1 a2) ∧ h.IsListIter N a i ∧ h.IsListIter (N + 1) b i
def goes2 {P : Program} {w : World} {A : Around} {elts : List Expr} {kk : Nat} {tpos : Pos} {N a b x1 : Addr} {o1 : Obj} {v1 : Array Value} (hh : A.handled = some (.ref x1)) (d1 : o1.data = .fields v1) (c1 : v1[2]? = some .none) (ha : a < N) (hb : b < N) (hx : x1 < N) (xs ys : Array Value) :=
  GoesN.zip2 (prog := P) (w := w) (A := A) (elts := elts) (x1 := kk) (pos := tpos) (zip_sep2 (N := N) (fp1 := [a, x1]) (fp2 := [b, x1]) (fun x h => by
      rcases List.mem_cons.mp h with h | h
      · rw [h]; exact ha
      · rw [List.mem_singleton.mp h]; exact hx) (fun x h => by
      rcases List.mem_cons.mp h with h | h
      · rw [h]; exact hb
      · rw [List.mem_singleton.mp h]; exact hx))
    (draws_hot (P := P) (w := w) (A := A.in1) (x1 := x1) hh d1 c1 N a (Nat.ne_of_lt ha) (Nat.ne_of_lt hx) xs) (draws_hot (P := P) (w := w) (A := A.in1) (x1 := x1) hh d1 c1 (N + 1) b (Nat.ne_of_lt (Nat.lt_succ_of_lt hb)) (Nat.ne_of_lt (Nat.lt_succ_of_lt hx)) ys)
theorem turn_zipX {P : Program} {w : World} {K : PySem.W.Frag} {elts : List Expr} {kk : Nat} {tpos : Pos} {N a b x1 : Addr} (ha : a < N) (hb : b < N) (hx : x1 < N) :
    TurnX P w K x1 (.Tuple elts kk tpos) (ItzX K a b) (fp2 N) (N + 4) (tn2 N a b) where
  mem := by simp
  old := fun z => by
    have e' : x1 = N + 4 ∨ x1 = N + 2 ∨ x1 = N + 3 ∨ x1 = N ∨ x1 = N + 1 := by simpa using z
    rcases e' with q | q | q | q | q <;> rw [q] at hx
    · exact absurd hx (Nat.not_lt.mpr (Nat.le_add_right _ _))
    · exact absurd hx (Nat.not_lt.mpr (Nat.le_add_right _ _))
    · exact absurd hx (Nat.not_lt.mpr (Nat.le_add_right _ _))
    · exact absurd hx (Nat.lt_irrefl _)
    · exact absurd hx (Nat.not_lt.mpr (Nat.le_add_right _ _))
  obj := fun i h st x hx => by
    obtain ⟨hz, hTI, ⟨a1, a2, hTO⟩, ⟨o1, e1, _, d1⟩, ⟨o2, e2, _, d2⟩⟩ := st
    have e' : x = N + 4 ∨ x = N + 2 ∨ x = N + 3 ∨ x = N ∨ x = N + 1 := by simpa using hx
    rcases e' with q | q | q | q | q
    · rw [q]; exact ⟨_, hz, fun v q => nomatch q⟩
    · rw [q]; exact ⟨_, hTI, fun v q => nomatch q⟩
    · rw [q]; exact ⟨_, hTO, fun v q => nomatch q⟩
    · rw [q]; exact ⟨o1, e1, fun v q => by rw [d1] at q; cases q⟩
    · rw [q]; exact ⟨o2, e2, fun v q => by rw [d2] at q; cases q⟩
  keep := fun i h h' st k => by
    obtain ⟨hz, hTI, ⟨a1, a2, hTO⟩, h1, h2⟩ := st
    exact ⟨k _ (by simp) _ hz, k _ (by simp) _ hTI, ⟨a1, a2, k _ (by simp) _ hTO⟩, h1.at fun o q => k _ (by simp) o q, h2.at fun o q => k _ (by simp) o q⟩
  item := by
    intro X hP hw hK i pins s σ H E I hot hf st hg
    subst hP hw hK
    obtain ⟨hh, o1, v1, g1, d1, c1⟩ := hot
    obtain ⟨hz, hTI, hTO, h1, h2⟩ := id st
    obtain ⟨xs, ys, hqx, hqy, lx, ly⟩ := hg
    obtain ⟨i1, rv1, p1, _⟩ := I.list hqx
    obtain ⟨i2, rv2, p2, _⟩ := I.list hqy
    have l1 := rv1.length
    have l2 := rv2.length
    refine (goes2 hh d1 c1 ha hb hx i1.toArray i2.toArray).goes i s _ E (by simp; omega) ⟨hz, hTI, hTO, ⟨h1, p1.isList, g1⟩, ⟨h2, p2.isList, g1⟩⟩ ?_
    rintro v h' tk ⟨T, x, y, rfl, hT, ex, ey, hTT⟩ ⟨hz', hTI', hTO', h1', h2'⟩ hk _
    obtain ⟨u1, f1, r1⟩ := rv1.get (List.getElem?_eq_getElem lx)
    obtain ⟨u2, f2, r2⟩ := rv2.get (List.getElem?_eq_getElem ly)
    rw [List.getElem?_toArray, f1] at ex
    rw [List.getElem?_toArray, f2] at ey
    cases ex
    cases ey
    have I1 : L2.Inv X pins σ (upd H T (.tup [xs[i], ys[i]])) { s with heap := h', toks := tk } :=
      I.turnedNew (t' := tk) (ch := fp2 N) (fun c o hb q => hk c o (fun q' => hb (by
        have e' : c = N + 4 ∨ c = N + 3 ∨ c = N ∨ c = N + 1 := by simpa using q'
        rcases e' with q | q | q | q <;> simp [q])) q) hf hT ⟨by show 2 ≤ sizeLine; decide, [x, y], .cons r1 (.cons r2 .nil), hTT⟩
    refine ⟨.ref T, _, I1, rfl, ⟨T, _, _, rfl, I.hok.fresh hT, rfl, fun l hl => by rw [I.list_inj hl hqx]; exact List.getElem?_eq_getElem lx, fun l hl => by rw [I.list_inj hl hqy]; exact List.getElem?_eq_getElem ly⟩, ⟨hz', hTI', hTO', h1'.1, h2'.1⟩, fun q hq => ?_⟩
    have hlt : q < s.heap.objs.size := by
      have e' : q = N + 4 ∨ q = N + 2 ∨ q = N + 3 ∨ q = N ∨ q = N + 1 := by simpa using hq
      obtain ⟨a1, a2, hTO⟩ := hTO
      rcases e' with z | z | z | z | z
      · rw [z]; exact Heap.lt_size hz
      · rw [z]; exact Heap.lt_size hTI
      · rw [z]; exact Heap.lt_size hTO
      · rw [z]; obtain ⟨_, e1, _⟩ := h1; exact Heap.lt_size e1
      · rw [z]; obtain ⟨_, e1, _⟩ := h2; exact Heap.lt_size e1
    rw [upd_ne (Nat.ne_of_lt (Nat.lt_of_lt_of_le hlt hT))]
    exact (hf q hq).1
  done := by
    intro X hP hw hK i pins s σ H E I hot hf st hg
    subst hP hw hK
    obtain ⟨hh, o1, v1, g1, d1, c1⟩ := hot
    obtain ⟨hz, hTI, hTO, h1, h2⟩ := id st
    obtain ⟨xs, ys, hqx, hqy, hi⟩ := hg
    obtain ⟨i1, rv1, p1, _⟩ := I.list hqx
    obtain ⟨i2, rv2, p2, _⟩ := I.list hqy
    have l1 := rv1.length
    have l2 := rv2.length
    have e : min i1.toArray.size i2.toArray.size = i := by
      simp only [List.size_toArray]
      omega
    have W := goes2 (P := X.prog) (w := X.w) (elts := elts) (kk := kk) (tpos := tpos) hh d1 c1 ha hb hx i1.toArray i2.toArray
    rw [e] at W
    refine W.stops s _ E ⟨hz, hTI, hTO, ⟨h1, p1.isList, g1⟩, ⟨h2, p2.isList, g1⟩⟩ fun h' tk hk _ => ?_
    exact I.turnedL (t' := tk) (ch := fp2 N) (fun c o hb q => hk c o (fun q' => hb (by
        have e' : c = N + 4 ∨ c = N + 3 ∨ c = N ∨ c = N + 1 := by simpa using q'
        rcases e' with q | q | q | q <;> simp [q])) q) hf
  self := fun A i s Q E st h => wpAny_pyIter_zip st.1 h
def iZipX (K : PySem.W.Frag) (ta : TA) : TI := fun σ H R => ta σ H fun vs H1 => ∃ a b xs ys, vs = [.ref a, .ref b] ∧ SqL K H1 a xs ∧ SqL K H1 b ys ∧ R (ItzX K a b) H1
theorem pi_zipX {X : Cx} {x1 : Addr} {e e2 : Expr} {ta : TA} {p pos tpos : Pos} {elts : List Expr} {kk : Nat} (K : PySem.W.Frag) (hot : HotS X x1) (hg : Gl X "zip") (hm : X.mg "zip" = none) (ha : PA X [e, e2] ta) (hK : X.K = K := by rfl)
    (hs : starEach [e, e2] X.env = (false, eval e X.env) :: starEach [e2] X.env := by rfl) (hpl : (backTo pos (starEach [e2] X.env)).any (·.1) = false := by rfl) :
    PIX X x1 (.Tuple elts kk tpos) (.Call (.Name "zip" p) [e, e2] [] pos) (iZipX K ta) := by
  subst hK
  refine ⟨fun pins s σ H R I h => Call_ (ld_blt I hg hm boot_zip (callWith_type1 (thn (ha.run pos pins s σ H _ I h) fun us s1 ⟨vs, H1, I1, r1, q1⟩ => ?_) hs hpl))⟩
  obtain ⟨a, b, xs, ys, ex, hqx, hqy, q⟩ := q1
  subst ex
  obtain ⟨_, o1, v1, g1, _, _⟩ := hot pins σ H1 s1 I1
  cases r1 with
  | cons r rr =>
    cases rr with
    | cons r' rr =>
      cases rr
      cases r
      cases r'
      obtain ⟨i1, rv1, p1, _⟩ := I1.list hqx
      obtain ⟨i2, rv2, p2, _⟩ := I1.list hqy
      refine zip_begins2 (begins_list a i1.toArray) (begins_list b i2.toArray) p1.isList p2.isList fun h' hz hTI hTO g1' g2' hsz hk => wpAny_pyIter_zip hz ?_
      have I2 : L2.Inv X pins σ H1 { s1 with heap := h' } := I1.kept (t' := s1.toks) hk
      refine ⟨s1.heap.objs.size + 4, fp2 s1.heap.objs.size, tn2 s1.heap.objs.size a b, _, H1, rfl, I2, turn_zipX p1.lt p2.lt (Heap.lt_size g1), ⟨hz, hTI, ⟨_, _, hTO⟩, ⟨_, g1', rfl, rfl⟩, ⟨_, g2', rfl, rfl⟩⟩, fun q hq => ?_, q⟩
      have e' : q = s1.heap.objs.size + 4 ∨ q = s1.heap.objs.size + 2 ∨ q = s1.heap.objs.size + 3 ∨ q = s1.heap.objs.size ∨ q = s1.heap.objs.size + 1 := by simpa using hq
      have hle : s1.heap.objs.size ≤ q := by
        rcases e' with z | z | z | z | z <;> rw [z] <;> first | exact Nat.le_refl _ | exact Nat.le_add_right _ _
      exact I1.fpOk hle (I1.hok.fresh hle)
end LH

set_option Elab.async false
set_option linter.all false
set_option maxRecDepth 100000
set_option maxHeartbeats 4000000
/-! [.. for .. in ..] while an error is handled -/
namespace LH
open PySem PySem.Spec PyProof.Rows L2 L2H HotX
/-- the handled error, as the context's own frames leave it alone -/
structure HotC2 (X : Cx) (x1 : Addr) (o1 : Obj) : Prop where
  hh : X.A.handled = some (.ref x1)
  fl : ∃ v1, o1.data = .fields v1 ∧ v1[2]? = some .none
  at_ : ∀ (pins : List (Addr × Obj)) (σ : L2.St) (H : Hp) (s : Shared), L2.Inv X pins σ H s → s.heap.get? x1 = some o1 ∧ H x1 = none ∧ x1 ∉ frs X.stack
theorem HotC2.hot {X : Cx} {x1 : Addr} {o1 : Obj} (h : HotC2 X x1 o1) : HotS X x1 := fun pins σ H s I => by
  obtain ⟨v1, d1, c1⟩ := h.fl
  exact ⟨h.hh, o1, v1, (h.at_ pins σ H s I).1, d1, c1⟩
/-- within a comprehension's block -/
theorem HotC2.blk {X : Cx} {x1 : Addr} {o1 : Obj} (h : HotC2 X x1 o1) {s : Shared} {H : Hp} {scope : Scope} {ce : Env} {fp : List Addr} (g : s.heap.get? x1 = some o1) (f : H x1 = none) (nf : x1 ∉ frs X.stack) (no : x1 ∉ fp) : HotS (X.blk s H scope ce fp) x1 := fun pins σ H' s' I => by
  obtain ⟨v1, d1, c1⟩ := h.fl
  exact ⟨h.hh, o1, v1, I.base.keep x1 o1 g f nf no, d1, c1⟩
theorem pe_lcX {X : Cx} {x1 : Addr} {o1 : Obj} {elt tg iter : Expr} {ifs : List Expr} {scope : Scope} {own : List (Str × Nat)} {pos : Pos} {wi : TI} {g : TG} {tt : TT} {te : TE} (hot : HotC2 X x1 o1) (hN : X.N.Nodup) (hi : PIX X x1 tg iter wi) (ok : BlkOk X.N X.env.scope scope own)
    (hg : ∀ (s : Shared) (H : Hp) (C : Addr) (cl : List (Str × Addr)) (fp : List Addr), HotS (X.blk s H scope (compEnvC scope cl C X.env) fp) x1 → PG (X.blk s H scope (compEnvC scope cl C X.env) fp) tg g)
    (ht : ∀ (s : Shared) (H : Hp) (C : Addr) (cl : List (Str × Addr)) (fp : List Addr), PTs (X.blk s H scope (compEnvC scope cl C X.env) fp) ifs tt)
    (he : ∀ (s : Shared) (H : Hp) (C : Addr) (cl : List (Str × Addr)) (fp : List Addr), PE (X.blk s H scope (compEnvC scope cl C X.env) fp) elt te) (hs : ∀ x, foldedSetIterable iter X.env x = pure x := by intro _; rfl) :
    PE X (.ListComp elt [⟨tg, iter, ifs, 0⟩] scope pos) (tLc wi g tt te (own.map (·.2))) := by
  refine ⟨fun pins s σ H Q I h => ?_⟩
  rw [eval_ListComp]
  have hfr : ∀ y ∈ scope.names, y.2 = .free → ∃ c, X.env.cells.lookup y.1 = some c := fun y hy e => (ok.free y hy e).elim (fun k => I.ok.has _ (.inl k)) fun k => I.ok.has _ (.inr k)
  refine wpAny_comprehension_free (use := none) rfl hs (closure_ok hfr) ok.kind (fun y hy e => by rw [ok.uniq y hy, e]) (thn (hi.run pins s σ H _ I h) fun xv s1 hx => thn hx fun itv s2 h2 => ?_)
  obtain ⟨it, fp, tn, J, H2, rfl, I2, T, st2, f2, q⟩ := h2
  obtain ⟨gx2, nx2, nfx⟩ := hot.at_ pins σ H2 s2 I2
  refine wpAny_newObj_type (newEnv_comp ?_) (by show 0 ≤ sizeLine; decide)
  obtain ⟨D, hD⟩ : ∃ D, s2.heap.objs.size = D := ⟨_, rfl⟩
  rw [hD]
  have nD : H2 D = none := I2.hok.fresh (Nat.le_of_eq hD)
  obtain ⟨W, ⟨m0, w0⟩, turn⟩ := q D nD
  obtain ⟨s3, hs3⟩ : ∃ s3 : Shared, ({ s2 with heap := s2.heap.push { cls := .type "list", data := .seq ([] : List Value).toArray } } : Shared) = s3 := ⟨_, rfl⟩
  have e3 : s3.heap = s2.heap.push { cls := .type "list", data := .seq ([] : List Value).toArray } := by rw [← hs3]
  have I3 : L2.Inv X pins σ (upd H2 D (.lst [])) s3 := by
    rw [← hs3]
    refine I2.laid (t' := s2.toks) (fun b o e => Heap.get?_push_of_some _ e) (Nat.le_of_eq hD) ⟨Nat.zero_le _, [], 0, .nil, ?_⟩
    rw [← hD]
    exact Heap.get?_push_size _ rfl
  have gx3 : s3.heap.get? x1 = some o1 := by
    rw [e3]
    exact Heap.get?_push_of_some _ gx2
  have nx3 : (upd H2 D (.lst [])) x1 = none := by
    rw [upd_ne (by rw [← hD]; exact Nat.ne_of_lt (Heap.lt_size gx2))]
    exact nx2
  have f3 : ∀ b ∈ fp, FpOk X pins (upd H2 D (.lst [])) b ∧ b < s3.heap.objs.size := fun b hb => by
    obtain ⟨o, e, _⟩ := T.obj _ _ st2 b hb
    have hlt := Heap.lt_size e
    refine ⟨⟨?_, (f2 b hb).2⟩, by rw [e3, Heap.size_push]; exact Nat.lt_succ_of_lt hlt⟩
    rw [upd_ne (by rw [← hD]; exact Nat.ne_of_lt hlt)]
    exact (f2 b hb).1
  have st3 : tn 0 s3.heap := T.keep _ _ _ st2 fun b _ o e => by rw [e3]; exact Heap.get?_push_of_some _ e
  have I4 := block_start I3 ok hN f3
  have hot4 : ∀ ce : Env, HotS (X.blk s3 (upd H2 D (.lst [])) scope ce fp) x1 := fun ce => hot.blk gx3 nx3 nfx T.old
  have pg := hg s3 (upd H2 D (.lst [])) s3.heap.objs.size (cellsFrom (s3.heap.objs.size + 1) scope.names (cloFrom X.env.cells scope.names [])) fp (hot4 _)
  have pt := ht s3 (upd H2 D (.lst [])) s3.heap.objs.size (cellsFrom (s3.heap.objs.size + 1) scope.names (cloFrom X.env.cells scope.names [])) fp
  have pe := he s3 (upd H2 D (.lst [])) s3.heap.objs.size (cellsFrom (s3.heap.objs.size + 1) scope.names (cloFrom X.env.cells scope.names [])) fp
  have n3 : ∀ b ∈ fp, (upd H2 D (.lst [])) b = none := fun b hb => (f3 b hb).1.1
  rw [hs3]
  show codeAny _ _ (.compStart (.ListComp elt [⟨tg, iter, ifs, 0⟩] scope pos) 0 (.ref it) (.ref D) (compEnvC scope (cellsFrom (s3.heap.objs.size + 1) scope.names (cloFrom X.env.cells scope.names [])) s3.heap.objs.size X.env)) _ { s3 with heap := pushCells (s3.heap.push { cls := .type "dict", data := .dict #[] }) scope.names }
  generalize hce : compEnvC scope (cellsFrom (s3.heap.objs.size + 1) scope.names (cloFrom X.env.cells scope.names [])) s3.heap.objs.size X.env = ce at I4 pg pt pe ⊢
  have hL : ce.locals = s3.heap.objs.size := by subst hce; rfl
  have hb4 := hot4 ce
  clear hot4
  generalize upd H2 D (.lst []) = H3 at *
  generalize hs4 : ({ s3 with heap := pushCells (s3.heap.push { cls := .type "dict", data := .dict #[] }) scope.names } : Shared) = s4 at I4 ⊢
  have st4 : tn 0 s4.heap := T.keep _ _ _ st3 fun b _ o e => by rw [← hs4]; exact pushCells_keeps _ _ _ _ (Heap.get?_push_of_some _ e)
  have own_ : ∀ {σ' : L2.St} {H' : Hp} {s' : Shared}, L2.Inv (X.blk s3 H3 scope ce fp) [] σ' H' s' → (∀ b ∈ fp, H' b = none) → ∀ b ∈ fp, FpOk (X.blk s3 H3 scope ce fp) [] H' b := fun {σ' H' s'} I' hn b hb =>
    ⟨hn b hb, (I'.ok.exf b hb).1, I'.ok.exfs b hb, .inl hb, fun x c e => (I'.ok.exf b hb).2 x c e, fun p hp => absurd (show p ∈ ([] : List (Addr × Obj)) ++ [] from hp) (by simp)⟩
  have loop : codeAny (model X.prog X.w) X.A (.compLoop (.ListComp elt [⟨tg, iter, ifs, 0⟩] scope pos) 0 (.ref it) (.ref D) ce) (compPost (model X.prog X.w) X.A X.xe none (EP X pins σ Q) (.ref D) s3.heap.objs.size) s4 := by
    refine compLoop_any (fun n s' => ∃ i H', L2.Inv (X.blk s3 H3 scope ce fp) [] (wipe σ (own.map (·.2))) H' s' ∧ tn i s'.heap ∧ (∀ b ∈ fp, H' b = none) ∧ W i n H') ?_ m0 ⟨0, H3, I4, st4, n3, w0⟩
    rintro n s5 ⟨i, H5, I5, st5, n5, w5⟩
    have hot5 := hb4 _ _ _ _ I5
    rcases turn i n H5 w5 with ⟨stop, qq⟩ | ⟨go, Nx, hNx, step⟩
    · refine thnF (T.done (X.blk s3 H3 scope ce fp) rfl rfl rfl i [] s5 _ H5 (fun _ _ => False) I5 hot5 (own_ I5 n5) st5 stop) fun r s6 ⟨hr, I6⟩ => ?_
      subst hr
      have I7 : L2.Inv X pins σ H5 s6 := I3.call' (ch := fp) I6.os I6.base I6.hok I6.bare fun b hb => ⟨(f3 b hb).1.2.2.2.1, (f3 b hb).1.2.1, (f3 b hb).1.2.2.2.2.1, (f3 b hb).1.2.2.2.2.2⟩
      have nC : H5 s3.heap.objs.size = none := by
        rw [← hL]
        exact I6.free
      obtain ⟨m, hn, _⟩ := I6.loc
      have hn : s6.heap.Ns s3.heap.objs.size m := by
        rw [← hL]
        exact hn
      obtain ⟨c0, c1, _, c3, c4, c5⟩ := I3.fpOk (Nat.le_refl _) nC
      exact ⟨m, hn, fun h'' sb => ⟨.ref D, H5, I7.turned (t' := s6.toks) (fun b o hb e => (sb.2 b hb).trans e) c0 c1 c3 c4 c5, rfl, qq⟩⟩
    · refine thnF (T.item (X.blk s3 H3 scope ce fp) rfl rfl rfl i [] s5 _ H5 (fun _ _ => False) I5 hot5 (own_ I5 n5) st5 go) fun r s6 ⟨u, hr, h6⟩ => ?_
      subst hr
      refine thnF h6 fun _ s7 ⟨x, H7, I7, r7, y7, st7, n7⟩ => ?_
      refine thnF (pg.run _ s7 _ H7 x u _ (I7.pinned (own_ I7 n7) (T.obj _ _ st7)) r7 (step x H7 y7)) fun _ s8 ⟨σ8, H8, I8, hw8, q8⟩ => ?_
      refine thnF (pt.run _ s8 σ8 H8 _ I8 q8) fun b s9 ⟨H9, I9, q9⟩ => ?_
      have next : ∀ {s' : Shared} {H' : Hp}, L2.Inv (X.blk s3 H3 scope ce fp) ([] ++ pinsAt fp s7.heap) σ8 H' s' → Nx H' → ∃ m, m < n ∧ ∃ i H', L2.Inv (X.blk s3 H3 scope ce fp) [] (wipe σ (own.map (·.2))) H' s' ∧ tn i s'.heap ∧ (∀ b ∈ fp, H' b = none) ∧ W i m H' := fun {s' H'} I' nx => by
        obtain ⟨m', hm, w'⟩ := hNx H' nx
        have stay : ∀ b ∈ fp, ∀ o, s7.heap.get? b = some o → s'.heap.get? b = some o ∧ H' b = none := fun b hb o e => by
          have z := I'.pin (b, o) (List.mem_append_right _ (List.mem_append_right _ (mem_pinsAt hb e)))
          exact ⟨z.1, z.2.1⟩
        refine ⟨m', hm, i + 1, H', (I'.unpinned (pins := [])).weak (by rw [← hw8, wipe_length]) (fun j v e => ?_), T.keep _ _ _ st7 fun b hb o e => (stay b hb o e).1, fun b hb => ?_, w'⟩
        · rw [← hw8] at e
          exact (wipe_some e).1
        · obtain ⟨o, e, _⟩ := T.obj _ _ st7 b hb
          exact (stay b hb o e).2
      cases b with
      | false =>
        simp only [Bool.false_eq_true, if_false] at q9 ⊢
        exact next I9 q9
      | true =>
        simp only [if_true] at q9 ⊢
        refine thnF (pe.run _ s9 σ8 H9 _ I9 q9) fun z s10 ⟨yv, H10, I10, r10, acc, hD10, hz10, nx⟩ => ?_
        exact app_ok (X := X.blk s3 H3 scope ce fp) I10 hD10 hz10 r10 fun s11 I11 => next I11 nx
  exact codeAny_compStart_list loop (T.self X.A 0 _ _ _ st4 loop)
end LH

set_option Elab.async false
set_option linter.all false
set_option maxRecDepth 100000
set_option maxHeartbeats 4000000
/-! a def that is handed the error which is handled -/
namespace LH
open PySem PySem.Spec PyProof.Rows L2 L2H HotX
abbrev SpE := Addr → Value → Option Addr → Sp
structure FnE (P : Program) (w : World) (K : PySem.W.Frag) (mg : Str → Option Value) (base : Heap) (k : Nat) (f : Addr) (fd : FuncData) (ps : List Str) (sp : SpE) : Prop where
  len : ∀ a c d vs H Q E, sp a c d vs H Q E → vs.length = ps.length
  run : ∀ (A : Around) (outer : List Env) (s : Shared) (H : Hp) (us : List Value) (vs : List V) (Q : VK) (E : XK) (p : Addr × Obj) (c : Value) (d : Option Addr), RoomH k A → Hot1 A p → PinOk outer H s p → L2N.Zn c d p.2 → Env0 P w K mg base A outer s H → BindsTo s fd ⟨us, []⟩ (ps.zip us) → Vals vs us → sp p.1 c d vs H Q E →
    codeAny (model P w) A (.call (.ref f) ⟨us, []⟩) (CR CX0 outer P w H s Q E) s
section
variable {P : Program} {w : World} {K : PySem.W.Frag} {mg : Str → Option Value} {base : Heap}
theorem okE {x qual : Str} {params : Arguments} {body : List Stmt} {scope : Scope} {dvs : List V} {kws : List (Str × V)} {f : Addr} {fd : FuncData} {N ps : List Str} {k : Nat} {sp : SpE} (F : FunD K x qual params body scope [] [] f fd) (S : FnScope N ps scope) (len : ∀ a c d vs H Q E, sp a c d vs H Q E → vs.length = ps.length)
    (hb : ∀ (cdv : Value) (A : Around) (outer : List Env) (s : Shared) (H : Hp) (vs : List V) (Q : VK) (E : XK) (p : Addr × Obj) (c : Value) (d : Option Addr), Hot1 A p → L2N.Zn c d p.2 → RoomH k (A.deeper (envOfC qual scope s.heap.objs.size f cdv)) → sp p.1 c d vs H Q E →
      ∃ t, PSs (cxH CX0 P w K mg base N qual scope f cdv A outer s H E p) body t ∧ t { nx := fun _ H' => Q .non H', rt := Q } (L2.start N vs) H) : FnE P w K mg base (k + 1) f fd ps sp := by
  obtain ⟨oc, od, dV, kV, doc, pm, an, cdv, ct, osl, rfl, lk, hcd, _, _⟩ := F.ex
  refine ⟨len, fun A outer s H us vs Q E p c d hr hot hpin hz e0 hbd r hsp => ?_⟩
  have kin : K.In s.heap := e0.mod.kin.keeps fun b o e => (e0.bs b o e).1
  have lim : s.heap.NoLimit := e0.mod.nolimit.keeps fun b o e => (e0.bs b o e).1
  have kd : ∀ y ∈ ps.zip us, scope.names.lookup y.1 = some .local ∨ (scope.names.lookup y.1 = some .cell ∧ ((cellsFrom (s.heap.objs.size + 1) scope.names []).lookup y.1).isSome = true) := fun ⟨n, v⟩ hy =>
    (S.par n (List.of_mem_zip hy).1).elim (fun q => .inl q) fun q => .inr ⟨q, PySem.W.cellsFrom_some _ _ _ (.inl q)⟩
  refine codeAny_call_function hr.depth (kin _ _ lk) rfl S.co S.gen rfl (PySem.W.codeRec_of kin hcd) (hbd _ _ _ _ (wpAny_newFunctionEnv_cells S.kind kd fun env he s1 x => ?_))
  subst he
  obtain ⟨t, ht, hq⟩ := hb cdv A outer s H vs Q E p c d hot hz (hr.deeper _) hsp
  refine ⟨lim.keeps x.toInCall.keep, codeAny_func (wpAny_mono (ht.run [] s1 (L2.start N vs) H _ (inv_startH S hpin e0 (len _ _ _ _ _ _ _ hsp) r x) hq) (fun fl s' hs => ?_) fun e s' hs => hs)⟩
  cases fl with
  | ret u =>
    obtain ⟨v, σ', H', J, rv, q⟩ := hs
    exact ⟨v, H', J.os, J.bare, J.base, J.hok, rv, q⟩
  | next =>
    obtain ⟨σ', H', J, q⟩ := hs
    exact ⟨V.non, H', J.os, J.bare, J.base, J.hok, rfl, q⟩
  | brk =>
    obtain ⟨_, _, _, z⟩ := hs
    exact z.elim
  | cont =>
    obtain ⟨_, _, _, z⟩ := hs
    exact z.elim
structure OwnE (P : Program) (w : World) (K : PySem.W.Frag) (mg : Str → Option Value) (base : Heap) (x : Str) (ps : List Str) (k : Nat) (sp : SpE) : Prop where
  ex : ∃ (f : Addr) (fd : FuncData), FnE P w K mg base k f fd ps sp ∧ mg x = some (.ref f) ∧ PySem.W.keepIn K (.ref f) = true ∧ Binds K fd ps []
end
theorem zn_hot {c : Value} {d : Option Addr} {o : Obj} (hz : L2N.Zn c d o) (hf : ∃ vs, o.data = .fields vs) : ∃ vs : Array Value, o.data = .fields vs ∧ vs[2]? = some .none := by
  obtain ⟨vs, e⟩ := hf
  exact ⟨vs, e, hz.2.2 vs e⟩
/-- the call, in the suite -/
def tCallE (sp : SpE) (a : Addr) (c : Value) (d : Option Addr) (t : TA) : TE := fun σ H Q => t σ H fun vs H1 => sp a c d vs H1 Q E0
theorem pe_callE {Y : Cx} {a : Addr} {oe : Obj} {pn : List (Addr × Obj)} {c : Value} {d : Option Addr} {x : Str} {ps : List Str} {k : Nat} {sp : SpE} {e : Expr} {es : List Expr} {p pos : Pos} {t : TA} (C : OwnE Y.prog Y.w Y.K Y.mg Y.base x ps k sp) (hr : RoomH k (Y.suite a ((a, oe) :: pn)).A) (hz : L2N.Zn c d oe) (hf : ∃ vs, oe.data = .fields vs)
    (ha : PA (Y.suite a ((a, oe) :: pn)) (e :: es) t) (hg : Gl (Y.suite a ((a, oe) :: pn)) x := by rfl)
    (hdb : (x == ("__debug__" : Str)) = false := by decide) (he : starEach (e :: es) (Y.suite a ((a, oe) :: pn)).env = (false, eval e (Y.suite a ((a, oe) :: pn)).env) :: starEach es (Y.suite a ((a, oe) :: pn)).env := by rfl) (hpl : (backTo pos (starEach es (Y.suite a ((a, oe) :: pn)).env)).any (·.1) = false := by rfl) :
    PE (Y.suite a ((a, oe) :: pn)) (.Call (.Name x p) (e :: es) [] pos) (tCallE sp a c d t) := by
  obtain ⟨f, fd, F, hm, hk, hb⟩ := C.ex
  refine ⟨fun pins s σ H Q I h => wpAny_Call_Name_kw (ld_glob I hg hm ?_ hdb)⟩
  refine PySem.W.callWith_K (h₀ := Y.base) I.ok.mod.kin hk (thn (ha.run pos pins s σ H _ I h) fun us s1 ⟨vs, H1, I1, r, q⟩ => ⟨I1.kIn, ?_⟩) he hpl
  have hl : us.length = ps.length := by rw [← r.length]; exact F.len _ _ _ _ _ _ _ q
  have b := hb s1 us I1.kIn (by rw [List.append_nil]; exact hl)
  rw [List.append_nil] at b
  obtain ⟨g1, g2, g3, g4, g5⟩ := I1.pin (a, oe) (List.mem_append_left _ List.mem_cons_self)
  refine wpAny_call (codeAny_mono (F.run _ _ s1 H1 us vs Q E0 (a, oe) c d hr ⟨rfl, zn_hot hz hf⟩ ⟨g1, g2, fun hm => (List.mem_cons.mp (I1.stkSub a hm)).elim g3 g4, g5⟩ hz I1.env0 b r q) fun r s' hq => ?_)
  match r, hq with
  | .error _, hq => exact hq.elim
  | .ok (.ret u), hq => exact I1.after hq
  | .ok .next, hq => exact hq.elim
  | .ok .brk, hq => exact hq.elim
  | .ok .cont, hq => exact hq.elim
/-- isinstance(e, c) of the pinned error -/
theorem isP {X : Cx} {p : Addr × Obj} {D : Addr} (K : PySem.W.Frag) (hp : p ∈ X.pn) (C : ExcC X.K D) (hz : L2N.Zn (.ref D) none p.2) (hf : ∃ vs, p.2.data = .fields vs) (hK : X.K = K := by rfl) : CallR X (.builtin "isinstance") (rIsE K D p.1) := by
  subst hK
  intro pins s σ H xs us Q I r ⟨c, cv, b, ex, hcv, e, q⟩
  subst ex
  cases r with
  | cons rx rr =>
    cases rr with
    | cons rt rr =>
      cases rr
      cases rx
      obtain rfl := hcv _ rt
      obtain ⟨hget, _⟩ := I.pin p (List.mem_append_left _ hp)
      obtain ⟨vs, hv⟩ := hf
      have J : PySem.W.InstAt s.heap p.1 p.2 D none := by
        obtain ⟨pa, oc, od, oda, osl⟩ := p
        obtain ⟨h1, h2, _⟩ := hz
        dsimp only at h1 h2 hv hget
        subst h1 h2 hv
        exact ⟨hget, rfl, rfl, trivial⟩
      exact PySem.W.kia_one (PySem.W.handS_kitx_exc C.hg C.hk C.hs C.hd C.ha C.hn C.ht C.hm) I.kIn J e (fun z => nomatch z) fun tk => ⟨.bl b, H, I.kept (t' := tk) fun _ _ z => z, rfl, q⟩
theorem takesN {X : Cx} : L2N.Takes X (fun _ _ _ _ => False) := fun _ _ x => by
  obtain ⟨_, _, _, _, _, _, _, _, _, _, _, _, _, _, _, _, z⟩ := x
  exact z.elim
/-- the handled error in such a def's own context -/
theorem hotH {CX : CXT} {P : Program} {w : World} {K : PySem.W.Frag} {mg : Str → Option Value} {base : Heap} {N : List Str} {qual : Str} {scope : Scope} {f : Addr} {cd : Value} {A : Around} {outer : List Env} {s : Shared} {H : Hp} {E : XK} {p : Addr × Obj} (hot : Hot1 A p) : HotC2 (cxH CX P w K mg base N qual scope f cd A outer s H E p) p.1 p.2 where
  hh := hot.1
  fl := hot.2
  at_ := fun pins σ H' s' I => by
    obtain ⟨g1, g2, g3, g4, g5⟩ := I.pin p (List.mem_append_left _ (List.mem_singleton.mpr rfl))
    exact ⟨g1, g2, fun hm => (List.mem_cons.mp (I.stkSub p.1 hm)).elim g3 g4⟩
/-! the errors' classes -/
def kinNames : List Str := ["BadDay", "BadCount", "BadTie", "CantBe", "BadRow", "BadName", "Taken", "Full", "Twice", "GivenUp", "Held", "Idle", "Against", "BadText", "NoLife", "NoHolding", "NoPresentment", "NoPlace", "Nothing"]
def leBase : List Value := [.type "LookupError", .type "Exception", .type "BaseException", .type "object"]
def upOf (look : Bool) : Str := if look then "Missing" else "HoldError"
structure ErrF (K : PySem.W.Frag) (D : Str) (look : Bool) : Prop where
  exc : ExcC K (He.ga K D)
  kin : ∀ c ∈ kinNames, PySem.W.kitOne K (.ref (He.ga K D)) (.ref (He.ga K c)) = some (decide (c = D))
  ve : PySem.W.kitOne K (.ref (He.ga K D)) (.type "ValueError") = some (!look)
  le : PySem.W.kitOne K (.ref (He.ga K D)) (.type "LookupError") = some look
  nw : PySem.W.excIn K (He.ga K D) (if look then leBase else He.veBase) (if look then "LookupError.__new__" else "ValueError.__new__") = true
  kp : PySem.W.keepIn K (.ref (He.ga K D)) = true
  bs : PySem.W.subIn K (.ref (He.ga K D)) (.type "BaseException") = some true
  ty : PySem.W.typeIn K (.ref (He.ga K D)) = some (.type "type")
  up : PySem.W.exmOne K (.ref (He.ga K D)) (.ref (He.ga K (upOf look))) = some true
def errB (K : PySem.W.Frag) (D : Str) (look : Bool) : Bool :=
  He.eqO (PySem.W.findIn K (.ref (He.ga K D)) "__getattribute__") (some (some (.builtin "BaseException.__getattribute__"))) &&
  (He.eqO (PySem.W.findIn K (.ref (He.ga K D)) "__getattr__") (some none) &&
  (decide (PySem.W.subIn K (.ref (He.ga K D)) (.type "BaseException") = some true) &&
  (PySem.W.hasDictIn K (He.ga K D) &&
  (He.eqO (PySem.W.findIn K (.ref (He.ga K D)) "__class__") (some (some (.builtin "object.__class__"))) &&
  (He.eqO (PySem.W.specialIn K (.builtin "object.__class__") "__get__") (some (some (.builtin "getset_descriptor.__get__"))) &&
  (decide (PySem.W.takesIn K (.builtin "object.__class__") = some true) &&
  (decide (PySem.W.mroIn K (He.ga K D) (.type "object") = some true) &&
  (kinNames.all (fun c => decide (PySem.W.kitOne K (.ref (He.ga K D)) (.ref (He.ga K c)) = some (decide (c = D)))) &&
  (decide (PySem.W.kitOne K (.ref (He.ga K D)) (.type "ValueError") = some (!look)) &&
  (decide (PySem.W.kitOne K (.ref (He.ga K D)) (.type "LookupError") = some look) &&
  (PySem.W.excIn K (He.ga K D) (if look then leBase else He.veBase) (if look then "LookupError.__new__" else "ValueError.__new__") &&
  (PySem.W.keepIn K (.ref (He.ga K D)) &&
  (decide (PySem.W.typeIn K (.ref (He.ga K D)) = some (.type "type")) &&
  decide (PySem.W.exmOne K (.ref (He.ga K D)) (.ref (He.ga K (upOf look))) = some true))))))))))))))
theorem errB_ok {K : PySem.W.Frag} {D : Str} {look : Bool} (h : errB K D look = true) : ErrF K D look := by
  unfold errB at h
  obtain ⟨a1, h⟩ := He.ba h
  obtain ⟨a2, h⟩ := He.ba h
  obtain ⟨a3, h⟩ := He.ba h
  obtain ⟨a4, h⟩ := He.ba h
  obtain ⟨a5, h⟩ := He.ba h
  obtain ⟨a6, h⟩ := He.ba h
  obtain ⟨a7, h⟩ := He.ba h
  obtain ⟨a8, h⟩ := He.ba h
  obtain ⟨a9, h⟩ := He.ba h
  obtain ⟨b1, h⟩ := He.ba h
  obtain ⟨b2, h⟩ := He.ba h
  obtain ⟨b3, h⟩ := He.ba h
  obtain ⟨b4, h⟩ := He.ba h
  obtain ⟨b5, b6⟩ := He.ba h
  exact ⟨⟨He.eqO_ok a1, He.eqO_ok a2, of_decide_eq_true a3, a4, He.eqO_ok a5, He.eqO_ok a6, of_decide_eq_true a7, of_decide_eq_true a8⟩, fun c hc => of_decide_eq_true (List.all_eq_true.mp a9 c hc), of_decide_eq_true b1, of_decide_eq_true b2, b3, b4, of_decide_eq_true a3, of_decide_eq_true b5, of_decide_eq_true b6⟩
/-- what raising alone asks -/
structure ErrW (K : PySem.W.Frag) (D : Str) (look : Bool) : Prop where
  nw : PySem.W.excIn K (He.ga K D) (if look then leBase else He.veBase) (if look then "LookupError.__new__" else "ValueError.__new__") = true
  kp : PySem.W.keepIn K (.ref (He.ga K D)) = true
  bs : PySem.W.subIn K (.ref (He.ga K D)) (.type "BaseException") = some true
  ty : PySem.W.typeIn K (.ref (He.ga K D)) = some (.type "type")
def errWB (K : PySem.W.Frag) (D : Str) (look : Bool) : Bool :=
  PySem.W.excIn K (He.ga K D) (if look then leBase else He.veBase) (if look then "LookupError.__new__" else "ValueError.__new__") &&
  (PySem.W.keepIn K (.ref (He.ga K D)) &&
  (decide (PySem.W.subIn K (.ref (He.ga K D)) (.type "BaseException") = some true) &&
  decide (PySem.W.typeIn K (.ref (He.ga K D)) = some (.type "type"))))
theorem errWB_ok {K : PySem.W.Frag} {D : Str} {look : Bool} (h : errWB K D look = true) : ErrW K D look := by
  unfold errWB at h
  obtain ⟨a1, h⟩ := He.ba h
  obtain ⟨a2, h⟩ := He.ba h
  obtain ⟨a3, a4⟩ := He.ba h
  exact ⟨a1, a2, of_decide_eq_true a3, of_decide_eq_true a4⟩
theorem ErrF.w {K : PySem.W.Frag} {D : Str} {look : Bool} (h : ErrF K D look) : ErrW K D look := ⟨h.nw, h.kp, h.bs, h.ty⟩
/-- a raising def, by its name -/
structure OwnX (P : Program) (w : World) (K : PySem.W.Frag) (mg : Str → Option Value) (base : Heap) (x : Str) (ps : List Str) (k : Nat) (sp : Sp) : Prop where
  ex : ∃ (f : Addr) (fd : FuncData), FnOk P w K mg base (L2N.CX P w) k f fd ps sp ∧ mg x = some (.ref f) ∧ PySem.W.keepIn K (.ref f) = true ∧ Binds K fd ps []
theorem pe_ownX {X : Cx} {W : WX} {x : Str} {ps : List Str} {k : Nat} {sp : Sp} {e : Expr} {es : List Expr} {p pos : Pos} {t : TA} (C : OwnX X.prog X.w X.K X.mg X.base x ps k sp) (hr : Room k X.A) (tk : L2N.Takes X W) (ha : PA X (e :: es) t) (hg : Gl X x := by rfl)
    (hdb : (x == ("__debug__" : Str)) = false := by decide) (he : starEach (e :: es) X.env = (false, eval e X.env) :: starEach es X.env := by rfl) (hpl : (backTo pos (starEach es X.env)).any (·.1) = false := by rfl) :
    PE X (.Call (.Name x p) (e :: es) [] pos) (tCallS sp (WE W) t) := by
  obtain ⟨f, fd, F, hm, hk, hb⟩ := C.ex
  exact pe_callS F hr hg hm hk hb (fun σ => L2N.passAt tk σ) ha hdb he hpl
theorem rise {X : Cx} {D : Str} {look : Bool} {m : Str} {j : Nat} {p p2 pos rp : Pos} {W : WX} (err : ErrW X.K D look) (gD : X.mg D = some (.ref (He.ga X.K D))) (hc : X.calm = true) (tk : L2N.Takes X W) (hg : Gl X D := by rfl) (hdb : (D == ("__debug__" : Str)) = false := by decide) :
    PS X (.Raise (some (.Call (.Name D p) [.Constant (.str m) j p2] [] pos)) none rp) (fun _ σ H => W (.ref (He.ga X.K D)) none σ H) := by
  cases look with
  | true => exact L2N.ps_raise hc tk (L2N.pmk_own PySem.F.excBase_LookupError err.nw gD err.kp (raises_own err.bs err.ty) hg hdb)
  | false => exact L2N.ps_raise hc tk (L2N.pmk_own PySem.F.excBase_ValueError err.nw gD err.kp (raises_own err.bs err.ty) hg hdb)
theorem roomS {k : Nat} {X : Cx} {a : Addr} {pn : List (Addr × Obj)} (hr : Room k X.A) : RoomH k (X.suite a pn).A := ⟨hr.dp, hr.un⟩
theorem is_ref {C : Addr} : ∀ u, RelV (V.ref C) u → u = .ref C := fun _ h => h
theorem is_ty {T : String} : ∀ u, RelV (V.ty T) u → u = .type T := fun _ h => h
def kinW : List Str := kinNames ++ [("odd" : Str)]
def kinF (D : Str) : List Bool := kinNames.map (fun c => decide (c = D)) ++ [false]
theorem kin_end {D : Str} (h : D ∈ kinNames) : (((kinW.zip (kinF D)).filter fun q => q.2).map fun q => q.1) = [D] := by
  simp only [kinNames, List.mem_cons, List.not_mem_nil, or_false] at h
  rcases h with rfl | rfl | rfl | rfl | rfl | rfl | rfl | rfl | rfl | rfl | rfl | rfl | rfl | rfl | rfl | rfl | rfl | rfl | rfl <;> decide +kernel
theorem kin_join {D : Str} (h : D ∈ kinNames) : Txt.join "" [D] = D ∧ D.length ≤ 100 := by
  simp only [kinNames, List.mem_cons, List.not_mem_nil, or_false] at h
  rcases h with rfl | rfl | rfl | rfl | rfl | rfl | rfl | rfl | rfl | rfl | rfl | rfl | rfl | rfl | rfl | rfl | rfl | rfl | rfl <;> decide +kernel
theorem pe_cls {X : Cx} {x : Str} {C : Addr} {pos : Pos} (h : X.mg x = some (.ref C)) (hg : Gl X x := by rfl) (hd : (x == ("__debug__" : Str)) = false := by decide) : PE X (.Name x pos) (tC (.ref C)) := pe_glob (v := .ref C) hg h rfl hd
end LH

set_option Elab.async false
set_option linter.all false
set_option maxRecDepth 100000
set_option maxHeartbeats 4000000
/-! own classes: made, asked, compared; defs that may raise, called where nothing may leave -/
namespace LH
open PySem PySem.Spec PyProof.Rows L2
theorem passX0 {X : Cx} : Passes (L2N.CX X.prog X.w) X E0 := fun _ _ _ _ _ _ _ c => by
  obtain ⟨_, _, _, _, _, _, _, _, _, _, _, _, z⟩ := c
  exact z.elim
section
variable {P : Program} {w : World} {K : PySem.W.Frag} {mg : Str → Option Value} {base : Heap}
/-- a class that may be made by its name; sp: its __init__, which may raise -/
structure MakX (P : Program) (w : World) (K : PySem.W.Frag) (mg : Str → Option Value) (base : Heap) (x : Str) (ps : List Str) (k : Nat) (sp : Sp) : Prop where
  ex : ∃ (f : Addr) (fd : FuncData), Mk K (He.ga K x) f ∧ FnOk P w K mg base (L2N.CX P w) k f fd ps sp ∧ mg x = some (.ref (He.ga K x)) ∧ Binds K fd ps []
/-- a method, which may raise -/
structure MetX (P : Program) (w : World) (K : PySem.W.Frag) (mg : Str → Option Value) (base : Heap) (x m : Str) (ps : List Str) (k : Nat) (sp : Sp) : Prop where
  ex : ∃ (f : Addr) (fd : FuncData), Cls K (He.ga K x) ∧ Meth K (He.ga K x) m f ∧ FnOk P w K mg base (L2N.CX P w) k f fd ps sp ∧ Binds K fd ps []
end
def tMakeS (C : Addr) (sp : Sp) (E : L2.St → XK) (t : TA) : TE := fun σ H Q => t σ H fun vs H1 => ∀ x dx, H1 x = none → H1 dx = none → dx ≠ x →
  sp (.ref x :: vs) (upd (upd H1 dx (.own x)) x (.ins C dx [])) (fun v H2 => v = .non ∧ Q (.ref x) H2) (E σ)
def tMethS (C : Addr) (m : Str) (sp : Sp) (E : L2.St → XK) (ta : TE) (t : TA) : TE := fun σ H Q => ta σ H fun x H1 => ∃ a dx fs, x = .ref a ∧ H1 a = some (.ins C dx fs) ∧ fs.lookup m = none ∧
  t σ H1 fun vs H2 => sp (x :: vs) H2 Q (E σ)
section
variable {X : Cx} (K : PySem.W.Frag)
/-- a def that may raise, where nothing may leave -/
theorem pe_ownN {x : Str} {ps : List Str} {k : Nat} {sp : Sp} {e : Expr} {es : List Expr} {p pos : Pos} {t : TA} (C : OwnX X.prog X.w X.K X.mg X.base x ps k sp) (hr : Room k X.A) (ha : PA X (e :: es) t) (hg : Gl X x := by rfl)
    (hdb : (x == ("__debug__" : Str)) = false := by decide) (he : starEach (e :: es) X.env = (false, eval e X.env) :: starEach es X.env := by rfl) (hpl : (backTo pos (starEach es X.env)).any (·.1) = false := by rfl) :
    PE X (.Call (.Name x p) (e :: es) [] pos) (tCall sp [] E0 t) := by
  obtain ⟨f, fd, F, hm, hk, hb⟩ := C.ex
  exact pe_call F hr hg hm hk hb .nil passX0 ha hdb he hpl
theorem pe_mkN {x : Str} {ps : List Str} {k : Nat} {sp : Sp} {e : Expr} {es : List Expr} {p pos : Pos} {t : TA} (C : MakX X.prog X.w X.K X.mg X.base x ps k sp) (hr : Room (k + 1) X.A) (ha : PA X (e :: es) t) (hK : X.K = K := by rfl) (hg : Gl X x := by rfl)
    (hdb : (x == ("__debug__" : Str)) = false := by decide) (he : starEach (e :: es) X.env = (false, eval e X.env) :: starEach es X.env := by rfl) (hpl : (backTo pos (starEach es X.env)).any (·.1) = false := by rfl) :
    PE X (.Call (.Name x p) (e :: es) [] pos) (tMake (He.ga K x) sp [] E0 t) := by
  subst hK
  obtain ⟨f, fd, M, F, hm, hb⟩ := C.ex
  exact pe_make M F hr hg hm hb .nil passX0 ha hdb he hpl
theorem pe_mkX {W : WX} {x : Str} {ps : List Str} {k : Nat} {sp : Sp} {e : Expr} {es : List Expr} {p pos : Pos} {t : TA} (C : MakX X.prog X.w X.K X.mg X.base x ps k sp) (hr : Room (k + 1) X.A) (tk : L2N.Takes X W) (ha : PA X (e :: es) t) (hK : X.K = K := by rfl) (hg : Gl X x := by rfl)
    (hdb : (x == ("__debug__" : Str)) = false := by decide) (he : starEach (e :: es) X.env = (false, eval e X.env) :: starEach es X.env := by rfl) (hpl : (backTo pos (starEach es X.env)).any (·.1) = false := by rfl) :
    PE X (.Call (.Name x p) (e :: es) [] pos) (tMakeS (He.ga K x) sp (WE W) t) := by
  subst hK
  obtain ⟨f, fd, M, F, hm, hb⟩ := C.ex
  refine ⟨fun pins s σ H Q I h => ?_⟩
  refine wpAny_Call_Name_kw (ld_glob I hg hm ?_ hdb)
  refine PySem.W.callWith_K (h₀ := X.base) I.ok.mod.kin M.kp (thn (ha.run pos pins s σ H _ I h) fun us s1 ⟨vs, H1, I1, r, q⟩ => ⟨I1.kIn, ?_⟩) he hpl
  have hq := q (s1.heap.objs.size + 1) s1.heap.objs.size (I1.hok.fresh (Nat.le_succ _)) (I1.hok.fresh (Nat.le_refl _)) (Nat.ne_of_lt (Nat.lt_succ_self _))
  have I2 := Inv.made (C := He.ga X.K x) I1
  have r2 : Vals (V.ref (s1.heap.objs.size + 1) :: vs) (Value.ref (s1.heap.objs.size + 1) :: us) := .cons rfl r
  have hl : (Value.ref (s1.heap.objs.size + 1) :: us ++ []).length = ps.length := by
    have e := r2.length
    rw [F.len _ _ _ _ hq] at e
    rw [List.append_nil]
    exact e.symm
  have b2 := hb { s1 with heap := (s1.heap.push PySem.W.emptyDict).push (PySem.W.instObj (He.ga X.K x) s1.heap.objs.size) } (Value.ref (s1.heap.objs.size + 1) :: us) I2.kIn hl
  rw [List.append_nil] at b2
  refine wpAny_call (make_map (f := f) I1.kIn M.makes M.init (beq_iff_eq.mp M.fn) (codeAny_mono (F.run _ X.stack _ _ ⟨Value.ref (s1.heap.objs.size + 1) :: us, []⟩ (Value.ref (s1.heap.objs.size + 1) :: us) _ _ (WE W σ) (hr.make (He.ga X.K x) us [])
    (I2.env0.make (He.ga X.K x) us []) b2 r2 hq) fun r s' hq' => ?_))
  cases r with
  | error e => exact L2N.passAt tk σ pins _ _ e s' I2 hq'
  | ok fl =>
    cases fl with
    | ret u =>
      obtain ⟨v, H', I3, rv, ev, q3⟩ := I2.after hq'
      subst ev
      exact ⟨rv, ⟨V.ref (s1.heap.objs.size + 1), H', I3, rfl, q3⟩⟩
    | next => exact False.elim hq'
    | brk => exact False.elim hq'
    | cont => exact False.elim hq'
theorem pe_mtN {pl : Sem Bool} {x m : Str} {ps : List Str} {k : Nat} {sp : Sp} {o e : Expr} {es : List Expr} {apos pos : Pos} {ta : TE} {t : TA} (C : MetX X.prog X.w X.K X.mg X.base x m ps k sp) (hr : Room k X.A) (ho : PE X o ta) (ha : PA X (e :: es) t) (hK : X.K = K := by rfl)
    (hst : starEach (e :: es) X.env = (false, eval e X.env) :: starEach es X.env := by rfl) (hpl : (backTo pos (starEach es X.env)).any (·.1) = false := by rfl)
    (ht : eval (.Call (.Attribute o m apos) (e :: es) [] pos) X.env = (do
      let ov ← eval o X.env
      standAt apos.atName
      let (f, first) ← holding [ov] (getMethod ov m pl)
      callWith pos f first (backTo pos (starEach (e :: es) X.env)) (backToKw pos (keywordEach [] X.env))) := by rfl) :
    PE X (.Call (.Attribute o m apos) (e :: es) [] pos) (tMeth (He.ga K x) m sp [] E0 ta t) := by
  subst hK
  obtain ⟨f, fd, hc, hm, F, hb⟩ := C.ex
  exact pe_meth (pl := pl) ho hc hm F hr hb .nil passX0 ha hst hpl ht
theorem pe_mtX {pl : Sem Bool} {W : WX} {x m : Str} {ps : List Str} {k : Nat} {sp : Sp} {o e : Expr} {es : List Expr} {apos pos : Pos} {ta : TE} {t : TA} (C : MetX X.prog X.w X.K X.mg X.base x m ps k sp) (hr : Room k X.A) (tk : L2N.Takes X W) (ho : PE X o ta) (ha : PA X (e :: es) t) (hK : X.K = K := by rfl)
    (hst : starEach (e :: es) X.env = (false, eval e X.env) :: starEach es X.env := by rfl) (hpl : (backTo pos (starEach es X.env)).any (·.1) = false := by rfl)
    (ht : eval (.Call (.Attribute o m apos) (e :: es) [] pos) X.env = (do
      let ov ← eval o X.env
      standAt apos.atName
      let (f, first) ← holding [ov] (getMethod ov m pl)
      callWith pos f first (backTo pos (starEach (e :: es) X.env)) (backToKw pos (keywordEach [] X.env))) := by rfl) :
    PE X (.Call (.Attribute o m apos) (e :: es) [] pos) (tMethS (He.ga K x) m sp (WE W) ta t) := by
  subst hK
  obtain ⟨f, fd, hc, hm, F, hb⟩ := C.ex
  refine ⟨fun pins s σ H Q I h => ?_⟩
  refine PySem.W.methodCall_KW (pl := pl) (thn (ho.run pins s σ H _ I h) fun u s1 ⟨y, H1, I1, rx, a, dx, fs, ex, ea, l, q⟩ => ?_) ht
  subst ex
  obtain rfl : u = Value.ref a := rx
  refine getmeth_ok I1 ea hc hm l ?_
  refine PySem.W.callWith_K (first := [.ref a]) (h₀ := X.base) I.ok.mod.kin hm.kp (thn (ha.run pos pins s1 σ H1 _ I1 q) fun us s2 ⟨vs, H2, I2, r, q2⟩ => ⟨I2.kIn, ?_⟩) hst hpl
  exact run_fnS (us := .ref a :: us) (vs := .ref a :: vs) (E := WE W) F hr hb (L2N.passAt tk σ) I2 (.cons rfl r) q2
/-- e.f -/
theorem fldK {e : Expr} {f : Str} {pos : Pos} {ta : TE} (he : PE X e ta) (hb : attributeBase e f X.env (eval e X.env) = eval e X.env) (hK : X.K = K := by rfl) : PE X (.Attribute e f pos) (tFld K ta f) := by
  subst hK
  exact pe_fld he hb
theorem setfK {o value : Expr} {f : Str} {pos pos' : Pos} {ta tv : TE} (ha : PE X o ta) (hv : PE X value tv) (hs : swapsWith value (some (.Attribute o f pos')) pos.line X.env = pure false) (hK : X.K = K := by rfl) : PS X (.Assign [.Attribute o f pos'] value pos) (sFld K ta tv f) := by
  subst hK
  exact ps_fld ha hv hs
end
/-- x == y by x's own __eq__, which tells True or False -/
def rEqO (K : PySem.W.Frag) (C : Addr) (sp : Sp) : R2 := fun x y H Q => ∃ a dx fs t, x = .ref a ∧ H a = some (.ins C dx fs) ∧ TyX K H y t ∧ PySem.W.notFirst K C t = true ∧ sp [x, y] H (fun v H' => ∃ b, v = .bl b ∧ Q (.bl b) H') E0
section
variable {X : Cx} (K : PySem.W.Frag)
theorem rc_own {x : Str} {ps : List Str} {k : Nat} {sp : Sp} (C : MetX X.prog X.w X.K X.mg X.base x "__eq__" ps k sp) {A : Around} (hr : Room k A) (hfr : A.frames = X.A.frames) {pins : List (Addr × Obj)} {s : Shared} {σ : L2.St} {H : Hp} {a dx : Addr} {fs : List (Str × V)} {y : V} {v t : Value} {Q : VK}
    (I : L2.Inv X pins σ H s) (ry : RelV y v) (ha : H a = some (.ins (He.ga X.K x) dx fs)) (ty : TyX X.K H y t) (nf : PySem.W.notFirst X.K (He.ga X.K x) t = true) (h : sp [.ref a, y] H (fun v H' => ∃ b, v = .bl b ∧ Q (.bl b) H') E0) :
    wpAny (model X.prog X.w) A (richCompare .Eq (.ref a) v) (fun r s' => ∃ b H', r = .bool b ∧ L2.Inv X pins σ H' s' ∧ Q (.bl b) H') X.xe s := by
  obtain ⟨f, fd, hc, hm, F, hb⟩ := C.ex
  obtain ⟨mA, J, _⟩ := ins_get I.hok ha
  obtain ⟨od, J, _⟩ := J.look
  obtain ⟨m, hF⟩ := I.fr
  obtain ⟨P, Z, p, _⟩ := kit_of I ry ty
  refine PySem.W.cmp_K (op := .Eq) (tb := t) hr.units0 hF I.ok.mod.kin J (Z.ty _ _ I.kIn p) nf hm.at_ hm.fn ?_
  have e0 : Env0 X.prog X.w X.K X.mg X.base A X.stack s H := by
    have e := I.env0
    exact ⟨by rw [hfr]; exact e.frames, e.mod, e.bs, e.bsz, e.funs, e.frf, e.hok, e.bare⟩
  have hl := F.len _ _ _ _ h
  have r2 : Vals [V.ref a, y] [Value.ref a, v] := .cons rfl (.cons ry .nil)
  refine wpAny_call (codeAny_mono (F.run A X.stack s H ⟨[.ref a, v], []⟩ [.ref a, v] [.ref a, y] _ E0 hr e0 (by
    have := hb s [.ref a, v] I.kIn (by simpa using hl)
    simpa using this) r2 h) fun r s' hq => ?_)
  cases r with
  | error e =>
    obtain ⟨_, _, _, _, _, _, _, _, _, _, _, _, z⟩ := hq
    exact z.elim
  | ok fl =>
    cases fl with
    | ret w =>
      obtain ⟨z, H', I', rz, b, ez, q⟩ := I.after hq
      subst ez
      cases rz
      exact ⟨b, H', rfl, I', q⟩
    | next => exact False.elim hq
    | brk => exact False.elim hq
    | cont => exact False.elim hq
theorem eqO {x : Str} {ps : List Str} {k : Nat} {sp : Sp} (C : MetX X.prog X.w X.K X.mg X.base x "__eq__" ps k sp) (hr : Room k X.A) (hK : X.K = K := by rfl) : OpR X (compareOp .Eq) (rEqO K (He.ga K x) sp) := by
  subst hK
  intro pins s σ H a b v u Q I rx ry ⟨p, dx, fs, t, e1, hp, ty, nf, q⟩
  subst e1
  cases (show v = Value.ref p from rx)
  show wpAny (model X.prog X.w) X.A (richCompare .Eq _ u) (EP X pins σ Q) X.xe s
  refine wpAny_mono (rc_own C hr rfl I ry hp ty nf q) (fun r s' z => ?_) fun _ _ x => x
  obtain ⟨b, H', e, I', q⟩ := z
  subst e
  exact ⟨.bl b, H', I', rfl, q⟩
end
/-! a op1 b op2 c op3 d -/
def tChain3 (r r' r'' : R2) (ta tb tc td : TE) : TE := fun σ H Q => ta σ H fun x H1 => tb σ H1 fun y H2 => r x y H2 fun z H3 => ∃ k, z = .bl k ∧
  (if k = true then tc σ H3 fun w' H4 => r' y w' H4 fun z2 H5 => ∃ k2, z2 = .bl k2 ∧ (if k2 = true then td σ H5 fun v' H6 => r'' w' v' H6 Q else Q (.bl false) H5) else Q (.bl false) H3)
section
variable {X : Cx} {a b c d : Expr} {ta tb tc td : TE} {pos : Pos}
theorem pe_chain3 {op op' op'' : CmpOp} {r r' r'' : R2} (ho : OpR X (compareOp op) r) (ho' : OpR X (compareOp op') r') (ho'' : OpR X (compareOp op'') r'') (ha : PE X a ta) (hb : PE X b tb) (hc : PE X c tc) (hd : PE X d td)
    (hm : lastMarks [op, op', op''] [b, c, d] = false := by with_unfolding_all rfl) : PE X (.Compare a [op, op', op''] [b, c, d] pos) (tChain3 r r' r'' ta tb tc td) := by
  refine ⟨fun pins s σ H Q I h => ?_⟩
  refine Compare_chain (thn (ha.run pins s σ H _ I h) fun v s1 ⟨x, H1, I1, r1, q1⟩ => chain_link (thn (hb.run pins s1 σ H1 _ I1 q1) fun u s2 ⟨y, H2, I2, r2, q2⟩ =>
    thn (ho pins s2 σ H2 x y v u _ I2 r1 r2 q2) fun d s3 ⟨z, H3, I3, r3, k, e, q3⟩ => ?_)) hm
  subst e
  cases r3
  refine wpAny_truthy_bool ?_
  cases k with
  | false => exact ite_ff ⟨.bl false, H3, I3, rfl, q3⟩
  | true =>
    refine ite_tt (chain_link (thn (hc.run pins s3 σ H3 _ I3 q3) fun w' s4 ⟨z', H4, I4, r4, q4⟩ => thn (ho' pins s4 σ H4 y z' u w' _ I4 r2 r4 q4) fun d' s5 ⟨z2, H5, I5, r5, k2, e2, q5⟩ => ?_))
    subst e2
    cases r5
    refine wpAny_truthy_bool ?_
    cases k2 with
    | false => exact ite_ff ⟨.bl false, H5, I5, rfl, q5⟩
    | true => exact ite_tt (chain_last (thn (hd.run pins s5 σ H5 _ I5 q5) fun w2 s6 ⟨z3, H6, I6, r6, q6⟩ => ho'' pins s6 σ H6 z' z3 w' w2 Q I6 r4 r6 q6))
theorem pt_chain3 {op op' op'' : CmpOp} {r r' r'' : R2} (ho : OpR X (compareOp op) r) (ho' : OpR X (compareOp op') r') (ho'' : OpR X (compareOp op'') r'') (ha : PE X a ta) (hb : PE X b tb) (hc : PE X c tc) (hd : PE X d td)
    (hm : lastMarks [op, op', op''] [b, c, d] = false := by with_unfolding_all rfl) : PT X (.Compare a [op, op', op''] [b, c, d] pos) (tTest (tChain3 r r' r'' ta tb tc td)) := by
  refine ⟨fun pins s σ H Q I h => ?_⟩
  refine isTrue_chain (thn (ha.run pins s σ H _ I h) fun v s1 ⟨x, H1, I1, r1, q1⟩ => test_link (thn (hb.run pins s1 σ H1 _ I1 q1) fun u s2 ⟨y, H2, I2, r2, q2⟩ =>
    thn (ho pins s2 σ H2 x y v u _ I2 r1 r2 q2) fun d s3 ⟨z, H3, I3, r3, k, e, q3⟩ => ?_)) hm
  subst e
  cases r3
  refine wpAny_truthy_bool ?_
  cases k with
  | false =>
    obtain ⟨k', e', q'⟩ := q3
    cases e'
    exact ite_ff ⟨H3, I3, q'⟩
  | true =>
    refine ite_tt (test_link (thn (hc.run pins s3 σ H3 _ I3 q3) fun w' s4 ⟨z', H4, I4, r4, q4⟩ => thn (ho' pins s4 σ H4 y z' u w' _ I4 r2 r4 q4) fun d' s5 ⟨z2, H5, I5, r5, k2, e2, q5⟩ => ?_))
    subst e2
    cases r5
    refine wpAny_truthy_bool ?_
    cases k2 with
    | false =>
      obtain ⟨k', e', q'⟩ := q5
      cases e'
      exact ite_ff ⟨H5, I5, q'⟩
    | true =>
      refine ite_tt (test_last (thn (hd.run pins s5 σ H5 _ I5 q5) fun w2 s6 ⟨z3, H6, I6, r6, q6⟩ => thn (ho'' pins s6 σ H6 z' z3 w' w2 _ I6 r4 r6 q6) fun d2 s7 ⟨z4, H7, I7, r7, k3, e3, q7⟩ => ?_))
      subst e3
      cases r7
      exact wpAny_truthy_bool ⟨H7, I7, q7⟩
end
/-! spans -/
def spanF (f u : Int) : List (Str × V) := [("first", .int f), ("until", .int u)]
def SpanAt (K : PySem.W.Frag) (H : Hp) (v : V) (s : Int × Int) : Prop := ∃ a dx, v = .ref a ∧ H a = some (.ins (He.ga K "Span") dx (spanF s.1 s.2))
theorem SpanAt.mono {K : PySem.W.Frag} {H H' : Hp} {v : V} {s : Int × Int} (e : Same H H') (h : SpanAt K H v s) : SpanAt K H' v s := by
  obtain ⟨a, dx, h1, h2⟩ := h
  exact ⟨a, dx, h1, e _ _ h2⟩
def SpanOk (s : Int × Int) : Prop := 0 ≤ s.1 ∧ s.1 < s.2 ∧ s.2 ≤ 10000
instance (s : Int × Int) : Decidable (SpanOk s) := by unfold SpanOk; infer_instance
structure SpanF (K : PySem.W.Frag) : Prop where
  cl : Cls K (He.ga K "Span")
  n1 : NoAttr K (He.ga K "Span") "first"
  n2 : NoAttr K (He.ga K "Span") "until"
  ha : PySem.W.findIn K (.ref (He.ga K "Span")) "__class__" = some (some (.builtin "object.__class__"))
  hn : PySem.W.specialIn K (.builtin "object.__class__") "__get__" = some (some (.builtin "getset_descriptor.__get__"))
  ht : PySem.W.takesIn K (.builtin "object.__class__") = some true
  hm : PySem.W.mroIn K (He.ga K "Span") (.type "object") = some true
  ks : PySem.W.kitOne K (.ref (He.ga K "Span")) (.ref (He.ga K "Span")) = some true
  kd : ∀ t ∈ ["NoneType", "bool", "int", "str", "list", "tuple", "dict"], PySem.W.kitOne K (.type t) (.ref (He.ga K "Span")) = some false
  kn : ∀ t ∈ ["NoneType", "bool", "int", "str", "list", "tuple", "dict"], PySem.W.subIn K (.type t) (.ref (He.ga K "Span")) = some false
  kt : ∀ t ∈ ["bool", "int", "str", "list", "tuple"], PySem.W.kitOne K (.ref (He.ga K "Span")) (.type t) = some false
def spanB (K : PySem.W.Frag) : Bool :=
  He.Fa.ok K (.cls "Span") && (He.Fa.ok K (.noat "Span" "first") && (He.Fa.ok K (.noat "Span" "until") &&
  (He.eqO (PySem.W.findIn K (.ref (He.ga K "Span")) "__class__") (some (some (.builtin "object.__class__"))) &&
  (He.eqO (PySem.W.specialIn K (.builtin "object.__class__") "__get__") (some (some (.builtin "getset_descriptor.__get__"))) &&
  (decide (PySem.W.takesIn K (.builtin "object.__class__") = some true) &&
  (decide (PySem.W.mroIn K (He.ga K "Span") (.type "object") = some true) &&
  (decide (PySem.W.kitOne K (.ref (He.ga K "Span")) (.ref (He.ga K "Span")) = some true) &&
  ((["NoneType", "bool", "int", "str", "list", "tuple", "dict"].all fun t => decide (PySem.W.kitOne K (.type t) (.ref (He.ga K "Span")) = some false)) &&
  ((["NoneType", "bool", "int", "str", "list", "tuple", "dict"].all fun t => decide (PySem.W.subIn K (.type t) (.ref (He.ga K "Span")) = some false)) &&
  (["bool", "int", "str", "list", "tuple"].all fun t => decide (PySem.W.kitOne K (.ref (He.ga K "Span")) (.type t) = some false)))))))))))
theorem spanB_ok {K : PySem.W.Frag} (h : spanB K = true) : SpanF K := by
  unfold spanB at h
  obtain ⟨a1, h⟩ := He.ba h
  obtain ⟨a2, h⟩ := He.ba h
  obtain ⟨a3, h⟩ := He.ba h
  obtain ⟨a4, h⟩ := He.ba h
  obtain ⟨a5, h⟩ := He.ba h
  obtain ⟨a6, h⟩ := He.ba h
  obtain ⟨a7, h⟩ := He.ba h
  obtain ⟨a8, h⟩ := He.ba h
  obtain ⟨a9, h⟩ := He.ba h
  obtain ⟨b1, b2⟩ := He.ba h
  exact ⟨He.cls_ok a1, He.noat_ok a2, He.noat_ok a3, He.eqO_ok a4, He.eqO_ok a5, of_decide_eq_true a6, of_decide_eq_true a7, of_decide_eq_true a8, fun t ht => of_decide_eq_true (List.all_eq_true.mp a9 t ht), fun t ht => of_decide_eq_true (List.all_eq_true.mp b1 t ht), fun t ht => of_decide_eq_true (List.all_eq_true.mp b2 t ht)⟩
theorem SpanAt.ty {K : PySem.W.Frag} {H : Hp} {v : V} {s : Int × Int} (F : SpanF K) (h : SpanAt K H v s) : TyX K H v (.ref (He.ga K "Span")) := by
  obtain ⟨a, dx, rfl, h⟩ := h
  exact .base (.ins h F.cl F.ha F.hn F.ht F.hm)
theorem tyN_mem (d : PyData) : tyN d ∈ ["NoneType", "bool", "int", "str", "list", "tuple", "dict"] := by
  cases d <;> simp [tyN]
theorem SpanF.nf {K : PySem.W.Frag} (F : SpanF K) (d : PyData) : PySem.W.notFirst K (He.ga K "Span") (.type (tyN d)) = true := by
  unfold PySem.W.notFirst
  rw [F.kn _ (tyN_mem d)]
  simp
theorem SpanF.nfs {K : PySem.W.Frag} : PySem.W.notFirst K (He.ga K "Span") (.ref (He.ga K "Span")) = true := by
  unfold PySem.W.notFirst
  simp
theorem span_first {f u : Int} : (spanF f u).lookup ("first" : Str) = some (V.int f) := rfl
theorem span_until {f u : Int} : (spanF f u).lookup ("until" : Str) = some (V.int u) := rfl
theorem span_put {f u : Int} : putF "until" (V.int u) (putF "first" (V.int f) []) = spanF f u := rfl
/-- a span or None; a pair or None -/
def SpanOpt (K : PySem.W.Frag) (H : Hp) (v : V) : Option (Int × Int) → Prop
  | none => v = .non
  | some s => SpanAt K H v s
def PairOpt (H : Hp) (v : V) : Option (Int × Int) → Prop
  | none => v = .non
  | some s => ∃ p, v = .ref p ∧ H p = some (.tup [.int s.1, .int s.2])
theorem SpanOpt.mono {K : PySem.W.Frag} {H H' : Hp} {v : V} : ∀ {o : Option (Int × Int)}, Same H H' → SpanOpt K H v o → SpanOpt K H' v o
  | none, _, h => h
  | some _, e, h => SpanAt.mono e h
theorem PairOpt.mono {H H' : Hp} {v : V} : ∀ {o : Option (Int × Int)}, Same H H' → PairOpt H v o → PairOpt H' v o
  | none, _, h => h
  | some _, e, ⟨p, h1, h2⟩ => ⟨p, h1, e _ _ h2⟩
/-- e.first, e.until -/
theorem t_first {K : PySem.W.Frag} (F : SpanF K) {ta : TE} {σ : L2.St} {H : Hp} {v : V} {s : Int × Int} {Q : VK} (h : SpanAt K H v s) (ha : ∀ Q' : VK, Q' v H → ta σ H Q') (q : Q (.int s.1) H) : tFld K ta "first" σ H Q := by
  obtain ⟨a, dx, rfl, h⟩ := h
  exact ha _ ⟨a, _, dx, _, _, rfl, h, F.cl, F.n1, span_first, q⟩
theorem t_until {K : PySem.W.Frag} (F : SpanF K) {ta : TE} {σ : L2.St} {H : Hp} {v : V} {s : Int × Int} {Q : VK} (h : SpanAt K H v s) (ha : ∀ Q' : VK, Q' v H → ta σ H Q') (q : Q (.int s.2) H) : tFld K ta "until" σ H Q := by
  obtain ⟨a, dx, rfl, h⟩ := h
  exact ha _ ⟨a, _, dx, _, _, rfl, h, F.cl, F.n2, span_until, q⟩
theorem t_var {i : Nat} {σ : L2.St} {H : Hp} {v : V} (h : σ[i]? = some (some v)) : ∀ Q' : VK, Q' v H → tVar i σ H Q' := fun _ q => ⟨v, h, q⟩
end LH

set_option Elab.async false
set_option linter.all false
set_option maxRecDepth 100000
set_option maxHeartbeats 4000000
/-! rows, days, runs; len(set(xs)) of any ints -/
namespace LH
open PySem PySem.Spec PyProof.Rows L2
theorem fm_mem (f : Nat → Int) : ∀ i j, j < i → f j ∈ PyProof.Rows.firstMet f i
  | 0, j, h => absurd h (Nat.not_lt_zero j)
  | i + 1, j, h => by
    rw [PyProof.Rows.firstMet_succ]
    unfold PyProof.Rows.step_dedup
    rcases Nat.lt_succ_iff_lt_or_eq.mp h with h | rfl
    · have := fm_mem f i j h
      split
      · exact this
      · exact List.mem_append_left _ this
    · split
      · rename_i c
        obtain ⟨x, hx, e⟩ := List.any_eq_true.mp c
        rw [← beq_iff_eq.mp e]
        exact hx
      · exact List.mem_append_right _ (List.mem_singleton.mpr rfl)
theorem fm_ne (f : Nat → Int) : ∀ i, (PyProof.Rows.firstMet f i).length = i → ∀ j k, j < k → k < i → f j ≠ f k
  | 0, _, j, k, _, h => absurd h (Nat.not_lt_zero k)
  | i + 1, hl, j, k, hj, hk => by
    have le := PyProof.Rows.firstMet_length_le f i
    rw [PyProof.Rows.firstMet_succ] at hl
    unfold PyProof.Rows.step_dedup at hl
    split at hl
    · omega
    · rename_i c
      rw [List.length_append, List.length_singleton] at hl
      rcases Nat.lt_succ_iff_lt_or_eq.mp hk with hk | rfl
      · exact fm_ne f i (by omega) j k hj hk
      · intro e
        exact c (List.any_eq_true.mpr ⟨f j, fm_mem f k j hj, by rw [e]; exact beq_self_eq_true _⟩)
/-- how many unlike ones -/
def dedN (ns : List Int) : Nat := (PyProof.Rows.firstMet (fun i => ns.getD i 0) ns.length).length
theorem dedN_le (ns : List Int) : dedN ns ≤ ns.length := PyProof.Rows.firstMet_length_le _ _
theorem dedN_iff (ns : List Int) : dedN ns = ns.length ↔ ns.Nodup := by
  constructor
  · intro h
    refine List.pairwise_iff_getElem.mpr fun j k hj hk hjk => ?_
    have := fm_ne _ _ h j k hjk hk
    rw [List.getD_eq_getElem?_getD, List.getD_eq_getElem?_getD, List.getElem?_eq_getElem hj, List.getElem?_eq_getElem hk] at this
    exact this
  · intro h
    unfold dedN
    rw [RZ.firstMet_nodup h ns.length (Nat.le_refl _), List.take_length]
def tLenSetG (K : PySem.W.Frag) (ta : TE) : TE := fun σ H Q => ta σ H fun x H1 => ∃ (l : Addr) (ns : List Int), x = .ref l ∧ SqL K H1 l (ns.map V.int) ∧ ns.length ≤ 4000 ∧ Q (.int (dedN ns : Nat)) H1
theorem pe_lenSetG {X : Cx} (K : PySem.W.Frag) {a : Expr} {ta : TE} {p p2 q pos : Pos} (hg : Gl X "len") (hm : X.mg "len" = none) (hg2 : Gl X "set") (hm2 : X.mg "set" = none) (ha : PE X a ta) (hc : X.calm = true := by rfl) (hK : X.K = K := by rfl)
    (na : starEach [a] X.env = (false, eval a X.env) :: starEach [] X.env := by rfl) : PE X (.Call (.Name "len" p) [.Call (.Name "set" p2) [a] [] q] [] pos) (tLenSetG K ta) := by
  subst hK
  refine ⟨fun pins s σ H Q I h => ?_⟩
  refine Call_ (ld_blt I hg hm boot_len ?_)
  refine PyProof.Rows.callWith_builtin1 (PyProof.Rows.args_cons ?_ rfl) rfl rfl
  refine Call_ (ld_blt I hg2 hm2 boot_set ?_)
  refine PyProof.Rows.callWith_type1 (PyProof.Rows.args_cons (thn (ha.run pins s σ H _ I h) fun v s1 ⟨x, H1, I1, r1, q1⟩ => PyProof.Rows.args_nil ?_) na) na rfl
  obtain ⟨l, ns, rfl, hq, hl, q1⟩ := q1
  cases r1
  obtain ⟨its, r, pl, hz⟩ := I1.list hq
  have hlen : its.toArray.size = ns.length := by rw [List.size_toArray, ← r.length, List.length_map]
  refine call_set_list (I1.ok.hd hc) pl.isList (by simpa using RZ.intsAre_vals r) (by rw [hlen]; unfold scanBound; omega) fun h' tk hS hk => ?_
  refine PyProof.Rows.args_nil ?_
  rw [hlen] at hS
  obtain ⟨o, es, ep, t, ho, hex, hd, _, _, _, hf, hn⟩ := hS
  have le := dedN_le ns
  have I2 : Inv X pins σ H1 { s1 with heap := h', toks := tk } := I1.kept fun b o e => hk b o (Heap.lt_size e) e
  exact call_len_set ho hex hd hf (by rw [hn]; show ((dedN ns : Nat) : Int) < 2 ^ 63; omega) ⟨.int (dedN ns : Nat), H1, I2.tok _, ⟨_, by rw [hn]; rfl⟩, q1⟩
/-! what is asked of rows, days, runs -/
def DayOk (d : Int) : Prop := 0 ≤ d ∧ d ≤ 9999
instance (d : Int) : Decidable (DayOk d) := by unfold DayOk; infer_instance
def DaysOk (ds : List Int) : Prop := ∀ x ∈ ds, DayOk x
instance (ds : List Int) : Decidable (DaysOk ds) := by unfold DaysOk; infer_instance
def UnlikeOk (r : List Int) : Prop := 1 ≤ r.length ∧ r.length ≤ 4 ∧ r.Nodup
instance (r : List Int) : Decidable (UnlikeOk r) := by unfold UnlikeOk; infer_instance
def RowOk (m : Int) (r : List Int) : Prop := UnlikeOk r ∧ ∀ x ∈ r, 0 ≤ x ∧ x < m
instance (m : Int) (r : List Int) : Decidable (RowOk m r) := by unfold RowOk; infer_instance
def optV : Option Int → V
  | none => .non
  | some i => .int i
def RunOk (s : Int) (o : Option Int) : Prop := DayOk s ∧ ∀ e, o = some e → s < e ∧ e ≤ 10000
def belowOf (o : Option Int) : Int := o.getD 10000
theorem RunOk.below {s : Int} {o : Option Int} (h : RunOk s o) : s < belowOf o ∧ belowOf o ≤ 10000 := by
  obtain ⟨h1, h2⟩ := h
  cases o with
  | none =>
    show s < 10000 ∧ (10000 : Int) ≤ 10000
    unfold DayOk at h1
    omega
  | some e => exact h2 e rfl
def holderOf (r ds : List Int) (d : Int) : Int := (r.find? fun l => decide (d < dayOf ds l)).getD (-1)
theorem holder_first {r ds : List Int} {d x : Int} {i : Nat} (hi : r[i]? = some x) (h : d < dayOf ds x) (hb : ∀ j, j < i → ∀ y, r[j]? = some y → ¬ d < dayOf ds y) : holderOf r ds d = x := by
  unfold holderOf
  have : (r.find? fun l => decide (d < dayOf ds l)) = some x := by
    obtain ⟨h1, h2⟩ := List.getElem?_eq_some_iff.mp hi
    rw [List.find?_eq_some_iff_getElem]
    refine ⟨decide_eq_true h, i, h1, h2, fun j hj => ?_⟩
    have := hb j hj _ (List.getElem?_eq_getElem (by omega))
    simpa using this
  rw [this]
  rfl
theorem holder_none {r ds : List Int} {d : Int} (hb : ∀ (j : Nat) (y : Int), r[j]? = some y → ¬ d < dayOf ds y) : holderOf r ds d = -1 := by
  unfold holderOf
  have : (r.find? fun l => decide (d < dayOf ds l)) = none := by
    rw [List.find?_eq_none]
    intro x hx
    obtain ⟨j, hj⟩ := List.mem_iff_getElem?.mp hx
    have := hb j x hj
    simpa using this
  rw [this]
  rfl
theorem holder_head (r ds : List Int) (d : Int) : holderOf r ds d = ((r.filter fun l => decide (d < dayOf ds l)).head?).getD (-1) := by
  unfold holderOf
  rw [List.head?_filter]
end LH
namespace LH
theorem filt_take {α : Type} {l : List α} {j : Nat} {x : α} (p : α → Bool) (h : l[j]? = some x) : (l.take (j + 1)).filter p = (l.take j).filter p ++ if p x = true then [x] else [] := by
  rw [List.take_succ, h, List.filter_append]
  cases e : p x <;> simp [e]
end LH
namespace LH
open PySem PySem.Spec PyProof.Rows L2
theorem iteN {c A B : Prop} [Decidable c] (hc : ¬ c) (h : A) : if (!decide c) = true then A else B := by
  rw [decide_eq_false hc]
  exact iteT h
end LH

set_option Elab.async false
set_option linter.all false
set_option maxRecDepth 100000
set_option maxHeartbeats 4000000
/-! defs with defaults: called by place and by name -/
namespace LH
open PySem PySem.Spec PyProof.Rows L2
section
variable {K : PySem.W.Frag} {x qual : Str} {params : Arguments} {body : List Stmt} {scope : Scope} {dvs : List V} {f : Addr} {fd : FuncData} {ps : List Str}
theorem kbinds1 (F : FunD K x qual params body scope dvs [] f fd) (n : Nat) (ks : List Str) (g : {α : Type} → List α → List α → List α → List α) (hd : dvs ≠ [])
    (hrel : ∀ {vs ds zs : List V} {us its ws : List Value}, Vals vs us → Vals ds its → Vals zs ws → Vals (g vs ds zs) (g us its ws))
    (h : ∀ (T : Addr) (kV doc pm : Value) (an : Option Addr) (cdv ct : Value) (us its ws : List Value), us.length = n → its.length = dvs.length → ws.length = ks.length →
      ∃ k, bindArgs (PySem.W.fnOf x qual params body scope (.ref T) kV doc pm an cdv ct) ⟨us, ks.zip ws⟩ = seqItems? (.ref T) >>= k ∧ k (some its.toArray) = pure (ps.zip (g us its ws))) :
    ∃ its : List Value, KBn K fd ps n ks (fun us ws => g us its ws) (fun vs zs => g vs dvs zs) := by
  obtain ⟨oc, od, dV, kV, doc, pm, an, cdv, ct, osl, rfl, lk, hcd, hD, hK⟩ := F.ex
  rcases hD with ⟨e, _⟩ | ⟨_, T, o, its, m, rfl, lT, oT, rT⟩
  · exact absurd e hd
  · refine ⟨its, ⟨fun s us ws X l1 l2 => ?_, fun r1 r2 => hrel r1 rT r2⟩⟩
    obtain ⟨k, e1, e2⟩ := h T kV doc pm an cdv ct us its ws l1 rT.length.symm l2
    refine BindsTo.of_looks fun M => ?_
    rw [e1]
    exact looks_items X lT oT (.of_pure e2)
end
/-- a def with defaults that may raise, by its name -/
structure OwnD (P : Program) (w : World) (K : PySem.W.Frag) (mg : Str → Option Value) (base : Heap) (x : Str) (st : Stmt) (ps : List Str) (dvs : List V) (k : Nat) (sp : Sp) : Prop where
  ex : ∃ (f : Addr) (fd : FuncData), FnOk P w K mg base (L2N.CX P w) k f fd ps sp ∧ mg x = some (.ref f) ∧ FunD K x x (defArgs st) (defBody st) (defScope st) dvs [] f fd
def tCallND (n m : Nat) (sp : Sp) (gV : List V → List V → List V) (E : L2.St → XK) (t tk : TA) : TE := fun σ H Q => t σ H fun vs H1 => tk σ H1 fun zs H2 => vs.length = n ∧ zs.length = m ∧ sp (gV vs zs) H2 Q (E σ)
section
variable {X : Cx} {k n : Nat} {ps ks : List Str} {sp : Sp} {x : Str} {p pos : Pos} {e : Expr} {es : List Expr} {kws : List Keyword} {t tk : TA} {st : Stmt} {dvs : List V}
theorem pe_ownDX {W : WX} (n : Nat) (ks : List Str) (g : {α : Type} → List α → List α → List α → List α) (C : OwnD X.prog X.w X.K X.mg X.base x st ps dvs k sp) (hr : Room k X.A) (tw : L2N.Takes X W)
    (hrel : ∀ {vs ds zs : List V} {us its ws : List Value}, Vals vs us → Vals ds its → Vals zs ws → Vals (g vs ds zs) (g us its ws))
    (h : ∀ (T : Addr) (kV doc pm : Value) (an : Option Addr) (cdv ct : Value) (us its ws : List Value), us.length = n → its.length = dvs.length → ws.length = ks.length →
      ∃ k, bindArgs (PySem.W.fnOf x x (defArgs st) (defBody st) (defScope st) (.ref T) kV doc pm an cdv ct) ⟨us, ks.zip ws⟩ = seqItems? (.ref T) >>= k ∧ k (some its.toArray) = pure (ps.zip (g us its ws)))
    (ha : PA X (e :: es) t) (hkw : PK X kws tk) (hd : dvs ≠ [] := by simp) (hg : Gl X x := by rfl) (hall : (backToKw pos (keywordEach kws X.env)).all (·.1.isSome) = true := by rfl) (hks : (backToKw pos (keywordEach kws X.env)).filterMap (·.1) = ks := by rfl)
    (hdb : (x == ("__debug__" : Str)) = false := by decide) (he : starEach (e :: es) X.env = (false, eval e X.env) :: starEach es X.env := by rfl)
    (hpl : ((backTo pos (starEach (e :: es) X.env)).any (·.1) || (backToKw pos (keywordEach kws X.env)).any (·.1.isNone)) = false := by rfl) :
    PE X (.Call (.Name x p) (e :: es) kws pos) (tCallND n ks.length sp (fun vs zs => g vs dvs zs) (WE W) t tk) := by
  obtain ⟨f, fd, F, hm, D⟩ := C.ex
  obtain ⟨its, hb⟩ := kbinds1 (ps := ps) D n ks g hd hrel h
  refine ⟨fun pins s σ H Q I h => ?_⟩
  refine wpAny_Call_Name_kw (ld_glob I hg hm ?_ hdb)
  refine PySem.W.callWith_KW (h₀ := X.base) I.ok.mod.kin D.kp hall (thn (ha.run pos pins s σ H _ I h) fun us s1 ⟨vs, H1, I1, r, q⟩ => ?_) hpl he
  refine thn (hkw.run pos pins s1 σ H1 _ I1 q) fun ws s2 ⟨zs, H2, I2, rz, l1, l2, q2⟩ => ⟨I2.kIn, ?_⟩
  rw [hks]
  have r2 := hb.rel r rz
  refine wpAny_call (codeAny_mono (F.run X.A X.stack s2 H2 ⟨us, ks.zip ws⟩ (g us its ws) (g vs dvs zs) Q (WE W σ) hr I2.env0 (hb.to s2 us ws I2.kIn (r.length.symm.trans l1) (rz.length.symm.trans l2)) r2 q2) fun r s' hq => ?_)
  cases r with
  | error e => exact L2N.passAt tw σ pins _ _ e s' I2 hq
  | ok fl =>
    cases fl with
    | ret u => exact I2.after hq
    | next => exact False.elim hq
    | brk => exact False.elim hq
    | cont => exact False.elim hq
theorem pe_ownDN (n : Nat) (ks : List Str) (g : {α : Type} → List α → List α → List α → List α) (C : OwnD X.prog X.w X.K X.mg X.base x st ps dvs k sp) (hr : Room k X.A)
    (hrel : ∀ {vs ds zs : List V} {us its ws : List Value}, Vals vs us → Vals ds its → Vals zs ws → Vals (g vs ds zs) (g us its ws))
    (h : ∀ (T : Addr) (kV doc pm : Value) (an : Option Addr) (cdv ct : Value) (us its ws : List Value), us.length = n → its.length = dvs.length → ws.length = ks.length →
      ∃ k, bindArgs (PySem.W.fnOf x x (defArgs st) (defBody st) (defScope st) (.ref T) kV doc pm an cdv ct) ⟨us, ks.zip ws⟩ = seqItems? (.ref T) >>= k ∧ k (some its.toArray) = pure (ps.zip (g us its ws)))
    (ha : PA X (e :: es) t) (hkw : PK X kws tk) (hd : dvs ≠ [] := by simp) (hg : Gl X x := by rfl) (hall : (backToKw pos (keywordEach kws X.env)).all (·.1.isSome) = true := by rfl) (hks : (backToKw pos (keywordEach kws X.env)).filterMap (·.1) = ks := by rfl)
    (hdb : (x == ("__debug__" : Str)) = false := by decide) (he : starEach (e :: es) X.env = (false, eval e X.env) :: starEach es X.env := by rfl)
    (hpl : ((backTo pos (starEach (e :: es) X.env)).any (·.1) || (backToKw pos (keywordEach kws X.env)).any (·.1.isNone)) = false := by rfl) :
    PE X (.Call (.Name x p) (e :: es) kws pos) (tCallN n ks.length sp (fun vs zs => g vs dvs zs) E0 t tk) := by
  obtain ⟨f, fd, F, hm, D⟩ := C.ex
  obtain ⟨its, hb⟩ := kbinds1 (ps := ps) D n ks g hd hrel h
  exact pe_callN F hr hg hm D.kp hb passX0 ha hkw hall hks hdb he hpl
end
end LH

set_option Elab.async false
set_option linter.all false
set_option maxRecDepth 100000
set_option maxHeartbeats 4000000
namespace LH
/-! days raised with their causes -/
section
variable (n : Nat) (ev : List Tie)
def srcP (p : Nat) : Nat := nd n (ev.getD p tie0).1
def dstP (p : Nat) : Nat := nd n (ev.getD p tie0).2.1
def wtP (p : Nat) : Int := (ev.getD p tie0).2.2
/-- the one behind, by the causes -/
def nx (C : Nat → Option Nat) (v : Nat) : Nat := match C v with
  | some p => dstP n ev p
  | none => v
def itN (C : Nat → Option Nat) : Nat → Nat → Nat
  | 0, v => v
  | k + 1, v => itN C k (nx n ev C v)
/-- k causes, one behind another, from v -/
def Ch (C : Nat → Option Nat) : Nat → Nat → Prop
  | 0, _ => True
  | k + 1, v => (∃ p, C v = some p) ∧ Ch C k (nx n ev C v)
def sumC (C : Nat → Option Nat) : Nat → Nat → Int
  | 0, _ => 0
  | k + 1, v => (match C v with | some p => wtP ev p | none => 0) + sumC C k (nx n ev C v)
/-- v is met within k steps from x -/
def Met (C : Nat → Option Nat) (v : Nat) : Nat → Nat → Prop
  | 0, _ => False
  | k + 1, x => x = v ∨ Met C v k (nx n ev C x)
structure Pred (D : Nat → Int) (C : Nat → Option Nat) : Prop where
  a : ∀ v p, C v = some p → p < ev.length ∧ srcP n ev p = v ∧ D v ≤ D (dstP n ev p) + wtP ev p
  b : ∀ v k, 0 < k → Ch n ev C k v → itN n ev C k v = v → 0 < sumC n ev C k v
def setI (D : Nat → Int) (v : Nat) (x : Int) : Nat → Int := fun i => if i = v then x else D i
def setC (C : Nat → Option Nat) (v p : Nat) : Nat → Option Nat := fun i => if i = v then some p else C i
end
section
variable {n : Nat} {ev : List Tie}
theorem Pred.start : Pred n ev (fun _ => 0) (fun _ => none) := by
  refine ⟨(fun v p h => by cases h), fun v k hk h => ?_⟩
  cases k with
  | zero => exact absurd hk (Nat.lt_irrefl 0)
  | succ k =>
    obtain ⟨⟨p, hp⟩, _⟩ := h
    cases hp
/-- along causes that are new in one place the old days rise by no more than the leasts -/
theorem chain_le {D : Nat → Int} {C : Nat → Option Nat} (h : Pred n ev D C) {v p : Nat} (hs : srcP n ev p = v) (hlt : D v < D (dstP n ev p) + wtP ev p) : ∀ (k x : Nat), Ch n ev (setC C v p) k x →
    D x ≤ D (itN n ev (setC C v p) k x) + sumC n ev (setC C v p) k x ∧ (Met n ev (setC C v p) v k x → D x < D (itN n ev (setC C v p) k x) + sumC n ev (setC C v p) k x) ∧
    (¬ Met n ev (setC C v p) v k x → Ch n ev C k x ∧ itN n ev C k x = itN n ev (setC C v p) k x ∧ sumC n ev C k x = sumC n ev (setC C v p) k x)
  | 0, x, _ => ⟨by simp [itN, sumC], fun z => z.elim, fun _ => ⟨trivial, rfl, rfl⟩⟩
  | k + 1, x, hc => by
    obtain ⟨⟨q, hq⟩, hr⟩ := hc
    obtain ⟨i1, i2, i3⟩ := chain_le h hs hlt k _ hr
    have en : nx n ev (setC C v p) x = dstP n ev q := by
      unfold nx
      rw [hq]
    have es : sumC n ev (setC C v p) (k + 1) x = wtP ev q + sumC n ev (setC C v p) k (nx n ev (setC C v p) x) := by
      show (match setC C v p x with | some p => wtP ev p | none => 0) + _ = _
      rw [hq]
    have ei : itN n ev (setC C v p) (k + 1) x = itN n ev (setC C v p) k (nx n ev (setC C v p) x) := rfl
    rw [es, ei]
    by_cases e : x = v
    · have hq2 : q = p := by
        unfold setC at hq
        rw [if_pos e] at hq
        exact (Option.some.inj hq).symm
      rw [en] at i1 i2 ⊢
      rw [hq2] at i1 i2 ⊢
      rw [e]
      refine ⟨by omega, fun _ => by omega, fun z => absurd (show Met n ev (setC C v p) v (k + 1) v from .inl rfl) z⟩
    · have hq2 : C x = some q := by
        unfold setC at hq
        rw [if_neg e] at hq
        exact hq
      have le := (h.a x q hq2).2.2
      have en2 : nx n ev C x = nx n ev (setC C v p) x := by
        rw [en]
        unfold nx
        rw [hq2]
      rw [en] at i1 i2
      refine ⟨by rw [en]; omega, fun z => ?_, fun z => ?_⟩
      · rcases z with z | z
        · exact absurd z e
        · rw [en] at z ⊢
          have := i2 z
          omega
      · obtain ⟨j1, j2, j3⟩ := i3 fun y => z (.inr y)
        refine ⟨⟨⟨q, hq2⟩, by rw [en2]; exact j1⟩, ?_, ?_⟩
        · show itN n ev C k (nx n ev C x) = _
          rw [en2]
          exact j2
        · show (match C x with | some p => wtP ev p | none => 0) + sumC n ev C k (nx n ev C x) = _
          rw [hq2, en2, j3]
theorem Pred.raise {D : Nat → Int} {C : Nat → Option Nat} (h : Pred n ev D C) {v p : Nat} (hp : p < ev.length) (hs : srcP n ev p = v) (hlt : D v < D (dstP n ev p) + wtP ev p) : Pred n ev (setI D v (D (dstP n ev p) + wtP ev p)) (setC C v p) := by
  have up : ∀ i, D i ≤ setI D v (D (dstP n ev p) + wtP ev p) i := fun i => by
    unfold setI
    split
    · rename_i e
      rw [e]
      omega
    · exact Int.le_refl _
  refine ⟨fun x q hq => ?_, fun x k hk hc he => ?_⟩
  · by_cases e : x = v
    · have hq2 : q = p := by
        unfold setC at hq
        rw [if_pos e] at hq
        exact (Option.some.inj hq).symm
      subst hq2
      refine ⟨hp, hs.trans e.symm, ?_⟩
      have := up (dstP n ev q)
      have e2 : setI D v (D (dstP n ev q) + wtP ev q) x = D (dstP n ev q) + wtP ev q := if_pos e
      rw [e2]
      omega
    · have hq2 : C x = some q := by
        unfold setC at hq
        rw [if_neg e] at hq
        exact hq
      obtain ⟨h1, h2, h3⟩ := h.a x q hq2
      refine ⟨h1, h2, ?_⟩
      have := up (dstP n ev q)
      have e2 : setI D v (D (dstP n ev p) + wtP ev p) x = D x := if_neg e
      rw [e2]
      omega
  · obtain ⟨i1, i2, i3⟩ := chain_le h hs hlt k x hc
    rw [he] at i1 i2 i3
    rcases Classical.em (Met n ev (setC C v p) v k x) with m | m
    · have := i2 m
      omega
    · obtain ⟨j1, j2, j3⟩ := i3 m
      have := h.b x k hk j1 j2
      omega
/-- when each was raised last -/
structure Late (r j : Nat) (D : Nat → Int) (C : Nat → Option Nat) (ρ : Nat → Nat) (last : Nat) : Prop where
  le : ∀ v, ρ v ≤ r
  cs : ∀ v, 1 ≤ ρ v → ∃ p, C v = some p
  bk : ∀ v p, C v = some p → ρ v ≤ ρ (dstP n ev p) + 1
  d1 : ∀ q, q < j → q < ev.length → D (dstP n ev q) + wtP ev q ≤ D (srcP n ev q) ∨ r ≤ ρ (dstP n ev q)
  d2 : ∀ q, j ≤ q → q < ev.length → D (dstP n ev q) + wtP ev q ≤ D (srcP n ev q) ∨ r ≤ ρ (dstP n ev q) + 1
  la : ∀ v, ρ v ≤ ρ last
theorem Late.start : Late (n := n) (ev := ev) 1 0 (fun _ => 0) (fun _ => none) (fun _ => 0) n :=
  ⟨fun _ => Nat.zero_le _, fun v h => absurd h (by decide), (fun v p h => by cases h), (fun q h => absurd h (Nat.not_lt_zero q)), (fun q _ _ => .inr (Nat.le_refl _)), fun _ => Nat.le_refl _⟩
theorem Late.round {r : Nat} {D : Nat → Int} {C : Nat → Option Nat} {ρ : Nat → Nat} {last : Nat} (h : Late (n := n) (ev := ev) r ev.length D C ρ last) : Late (n := n) (ev := ev) (r + 1) 0 D C ρ last :=
  ⟨fun v => Nat.le_succ_of_le (h.le v), h.cs, h.bk, fun q hq => absurd hq (Nat.not_lt_zero q), fun q _ hl => (h.d1 q hl hl).imp id fun z => by omega, h.la⟩
theorem Late.pass {r j : Nat} {D : Nat → Int} {C : Nat → Option Nat} {ρ : Nat → Nat} {last : Nat} (h : Late (n := n) (ev := ev) r j D C ρ last) (hc : D (dstP n ev j) + wtP ev j ≤ D (srcP n ev j)) : Late (n := n) (ev := ev) r (j + 1) D C ρ last := by
  refine ⟨h.le, h.cs, h.bk, fun q hq hl => ?_, fun q hq hl => h.d2 q (by omega) hl, h.la⟩
  rcases Nat.lt_or_ge q j with z | z
  · exact h.d1 q z hl
  · have e : q = j := by omega
    rw [e]
    exact .inl hc
theorem Late.raise {r j : Nat} {D : Nat → Int} {C : Nat → Option Nat} {ρ : Nat → Nat} {last : Nat} (h : Late (n := n) (ev := ev) r j D C ρ last) (hj : j < ev.length) (h1 : 1 ≤ r) (hne : dstP n ev j ≠ srcP n ev j) (hlt : D (srcP n ev j) < D (dstP n ev j) + wtP ev j) :
    Late (n := n) (ev := ev) r (j + 1) (setI D (srcP n ev j) (D (dstP n ev j) + wtP ev j)) (setC C (srcP n ev j) j) (fun i => if i = srcP n ev j then r else ρ i) (srcP n ev j) := by
  have hd : r ≤ ρ (dstP n ev j) + 1 := by
    rcases h.d2 j (Nat.le_refl j) hj with z | z
    · omega
    · exact z
  have up : ∀ i, ρ i ≤ (if i = srcP n ev j then r else ρ i) := fun i => by
    split
    · exact h.le i
    · exact Nat.le_refl _
  have vu : ∀ i, D i ≤ setI D (srcP n ev j) (D (dstP n ev j) + wtP ev j) i := fun i => by
    unfold setI
    split
    · rename_i e
      rw [e]
      omega
    · exact Int.le_refl _
  have keep : ∀ q, D (dstP n ev q) + wtP ev q ≤ D (srcP n ev q) → setI D (srcP n ev j) (D (dstP n ev j) + wtP ev j) (dstP n ev q) + wtP ev q ≤ setI D (srcP n ev j) (D (dstP n ev j) + wtP ev j) (srcP n ev q) ∨ r ≤ (if dstP n ev q = srcP n ev j then r else ρ (dstP n ev q)) := fun q hq => by
    by_cases e : dstP n ev q = srcP n ev j
    · rw [if_pos e]
      exact .inr (Nat.le_refl _)
    · left
      have e1 : setI D (srcP n ev j) (D (dstP n ev j) + wtP ev j) (dstP n ev q) = D (dstP n ev q) := if_neg e
      rw [e1]
      exact Int.le_trans hq (vu _)
  refine ⟨fun v => ?_, fun (v : Nat) hv => ?_, fun v p hp => ?_, fun q hq hl => ?_, fun q hq hl => ?_, fun v => ?_⟩
  · split
    · exact Nat.le_refl _
    · exact h.le v
  · by_cases e : v = srcP n ev j
    · exact ⟨j, if_pos e⟩
    · skip
      rw [if_neg e] at hv
      obtain ⟨p, hp⟩ := h.cs v hv
      exact ⟨p, by unfold setC; rw [if_neg e]; exact hp⟩
  · by_cases e : v = srcP n ev j
    · have e2 : p = j := by
        unfold setC at hp
        rw [if_pos e] at hp
        exact (Option.some.inj hp).symm
      rw [e2]
      rw [if_pos e]
      have := up (dstP n ev j)
      omega
    · have e2 : C v = some p := by
        unfold setC at hp
        rw [if_neg e] at hp
        exact hp
      have := h.bk v p e2
      have := up (dstP n ev p)
      rw [if_neg e]
      omega
  · rcases Nat.lt_or_ge q j with z | z
    · rcases h.d1 q z hl with y | y
      · exact keep q y
      · exact .inr (Nat.le_trans y (up _))
    · have e : q = j := by omega
      rw [e]
      left
      have e1 : setI D (srcP n ev j) (D (dstP n ev j) + wtP ev j) (srcP n ev j) = D (dstP n ev j) + wtP ev j := if_pos rfl
      have e2 : setI D (srcP n ev j) (D (dstP n ev j) + wtP ev j) (dstP n ev j) = D (dstP n ev j) := if_neg hne
      rw [e1, e2]
      exact Int.le_refl _
  · rcases h.d2 q (by omega) hl with y | y
    · rcases keep q y with w | w
      · exact .inl w
      · exact .inr (Nat.le_succ_of_le w)
    · exact .inr (Nat.le_trans y (Nat.succ_le_succ (up _)))
  · rw [if_pos rfl]
    split
    · exact Nat.le_refl _
    · exact h.le v
/-- behind the last round: where no days keep all, the one raised last was raised in it -/
theorem Late.fresh {r : Nat} {D : Nat → Int} {C : Nat → Option Nat} {ρ : Nat → Nat} {last : Nat} (h : Late (n := n) (ev := ev) r ev.length D C ρ last) (hno : ¬ ∀ q, q < ev.length → D (dstP n ev q) + wtP ev q ≤ D (srcP n ev q)) : ρ last = r := by
  rcases Classical.em (∃ q, q < ev.length ∧ r ≤ ρ (dstP n ev q)) with z | z
  · obtain ⟨q, _, hq⟩ := z
    have h1 := h.la (dstP n ev q)
    have h2 := h.le last
    omega
  · exfalso
    refine hno fun q hq => ?_
    rcases h.d1 q hq hq with y | y
    · exact y
    · exact absurd ⟨q, hq, y⟩ z
theorem back_late {r : Nat} {j : Nat} {D : Nat → Int} {C : Nat → Option Nat} {ρ : Nat → Nat} {last : Nat} (h : Late (n := n) (ev := ev) r j D C ρ last) : ∀ (k v : Nat), k ≤ ρ v → Ch n ev C k v
  | 0, _, _ => trivial
  | k + 1, v, hk => by
    obtain ⟨p, hp⟩ := h.cs v (by omega)
    have hb := h.bk v p hp
    have e : nx n ev C v = dstP n ev p := by
      unfold nx
      rw [hp]
    exact ⟨⟨p, hp⟩, back_late h k _ (by rw [e]; omega)⟩
end
/-- ties and bounds that days keep make a way -/
def boundsT (n : Nat) : List Tie := ((List.range n).map fun i : Nat => [((i : Int), -1, 0), (-1, (i : Int), -9999)]).flatten
theorem mem_bounds {n : Nat} {t : Tie} : t ∈ boundsT n ↔ ∃ i : Nat, i < n ∧ (t = ((i : Int), -1, 0) ∨ t = (-1, (i : Int), -9999)) := by
  unfold boundsT
  rw [List.mem_flatten]
  constructor
  · rintro ⟨l, hl, ht⟩
    obtain ⟨i, hi, rfl⟩ := List.mem_map.mp hl
    refine ⟨i, List.mem_range.mp hi, ?_⟩
    simpa using ht
  · rintro ⟨i, hi, h⟩
    exact ⟨_, List.mem_map.mpr ⟨i, List.mem_range.mpr hi, rfl⟩, by simpa using h⟩
theorem can_of_days {n : Nat} {ts : List Tie} {D : Nat → Int} (h : ∀ q, q < (ts ++ boundsT n).length → D (dstP n (ts ++ boundsT n) q) + wtP (ts ++ boundsT n) q ≤ D (srcP n (ts ++ boundsT n) q)) : Can n ts := by
  have all : ∀ t ∈ ts ++ boundsT n, D (nd n t.2.1) + t.2.2 ≤ D (nd n t.1) := fun t ht => by
    obtain ⟨q, hq⟩ := List.getElem?_of_mem ht
    have := h q (List.getElem?_eq_some_iff.mp hq).1
    unfold dstP srcP wtP at this
    rw [getD_of hq] at this
    exact this
  refine ⟨fun i => D i - D n, by show D n - D n = 0; omega, fun i hi => ?_, fun i hi => ?_, fun t ht => ?_⟩
  · have := all ((i : Int), -1, 0) (List.mem_append_right _ (mem_bounds.mpr ⟨i, hi, .inl rfl⟩))
    dsimp only at this
    rw [nd_neg (n := n) (o := -1) (by decide), nd_nat (n := n) (o := (i : Int)) (by omega), show (i : Int).toNat = i by omega] at this
    show 0 ≤ D i - D n
    omega
  · have := all (-1, (i : Int), -9999) (List.mem_append_right _ (mem_bounds.mpr ⟨i, hi, .inr rfl⟩))
    dsimp only at this
    rw [nd_neg (n := n) (o := -1) (by decide), nd_nat (n := n) (o := (i : Int)) (by omega), show (i : Int).toNat = i by omega] at this
    show D i - D n ≤ 9999
    omega
  · have := all t (List.mem_append_left _ ht)
    show t.2.2 ≤ D (nd n t.1) - D n - (D (nd n t.2.1) - D n)
    omega
end LH

set_option Elab.async false
set_option linter.all false
set_option maxRecDepth 100000
set_option maxHeartbeats 4000000
namespace LH
open PySem PySem.Spec PyProof.Rows L2
/-! the way back along the causes -/
def nxO (n : Nat) (ev : List Tie) (C : Nat → Option Nat) (o : Int) : Int := match C (nd n o) with
  | some p => (ev.getD p tie0).2.1
  | none => o
def seqO (n : Nat) (ev : List Tie) (C : Nat → Option Nat) (o : Int) : Nat → Int
  | 0 => o
  | k + 1 => nxO n ev C (seqO n ev C o k)
theorem nd_inj {n : Nat} {a b : Int} (a1 : -1 ≤ a) (a2 : a < n) (b1 : -1 ≤ b) (b2 : b < n) (e : nd n a = nd n b) : a = b := by
  unfold nd at e
  split at e <;> split at e <;> omega
theorem nodup_le : ∀ (m : Nat) (l : List Nat), l.Nodup → (∀ x ∈ l, x < m) → l.length ≤ m
  | 0, l, _, h => by
    cases l with
    | nil => exact Nat.le_refl _
    | cons a l => exact absurd (h a List.mem_cons_self) (Nat.not_lt_zero a)
  | m + 1, l, hn, h => by
    by_cases hm : m ∈ l
    · have p := List.perm_cons_erase hm
      have ih := nodup_le m (l.erase m) (hn.erase m) fun x hx => by
        have h1 := h x (List.mem_of_mem_erase hx)
        have h2 : x ≠ m := fun e => by
          rw [e] at hx
          exact hn.not_mem_erase hx
        omega
      have e := p.length_eq
      rw [List.length_cons] at e
      omega
    · have ih := nodup_le m l hn fun x hx => by
        have h1 := h x hx
        have h2 : x ≠ m := fun e => hm (e ▸ hx)
        omega
      omega
theorem nodup_range_map {α : Type} {f : Nat → α} {m : Nat} (h : ∀ a b, a < b → b < m → f a ≠ f b) : ((List.range m).map f).Nodup := by
  unfold List.Nodup
  rw [List.pairwise_map]
  exact List.Pairwise.imp_of_mem (fun _ hb hab => h _ _ hab (List.mem_range.mp hb)) List.pairwise_lt_range
structure Back (n : Nat) (ev : List Tie) (C : Nat → Option Nat) (o : Int) : Prop where
  ok : ∀ t ∈ ev, TieOk (n : Int) t
  o1 : -1 ≤ o
  o2 : o < n
  ch : Ch n ev C (n + 1) (nd n o)
  pr : ∃ D, Pred n ev D C
section
variable {n : Nat} {ev : List Tie} {C : Nat → Option Nat} {o : Int} (B : Back n ev C o)
include B
theorem seq_in : ∀ k, k ≤ n + 1 → -1 ≤ seqO n ev C o k ∧ seqO n ev C o k < n ∧ Ch n ev C (n + 1 - k) (nd n (seqO n ev C o k))
  | 0, _ => ⟨B.o1, B.o2, B.ch⟩
  | k + 1, hk => by
    obtain ⟨h1, h2, h3⟩ := seq_in k (by omega)
    rw [show n + 1 - k = (n + 1 - (k + 1)) + 1 by omega] at h3
    obtain ⟨⟨p, hp⟩, h4⟩ := h3
    obtain ⟨D, P⟩ := B.pr
    obtain ⟨q1, _, _⟩ := P.a _ p hp
    have ok := B.ok (ev.getD p tie0) (by
      rw [List.getD_eq_getElem?_getD, List.getElem?_eq_getElem q1]
      exact List.getElem_mem _)
    have e : seqO n ev C o (k + 1) = (ev.getD p tie0).2.1 := by
      show nxO n ev C (seqO n ev C o k) = _
      unfold nxO
      rw [hp]
    have e2 : nx n ev C (nd n (seqO n ev C o k)) = nd n (seqO n ev C o (k + 1)) := by
      rw [e]
      unfold nx
      rw [hp]
      rfl
    rw [e2] at h4
    rw [e] at h4 ⊢
    exact ⟨ok.2.2.1, ok.2.2.2.1, h4⟩
/-- the cause of each on the way -/
theorem seq_cause {k : Nat} (hk : k ≤ n) : ∃ p, C (nd n (seqO n ev C o k)) = some p ∧ p < ev.length ∧ (ev.getD p tie0).1 = seqO n ev C o k ∧ (ev.getD p tie0).2.1 = seqO n ev C o (k + 1) ∧ TieOk (n : Int) (ev.getD p tie0) := by
  obtain ⟨h1, h2, h3⟩ := seq_in B k (by omega)
  rw [show n + 1 - k = (n - k) + 1 by omega] at h3
  obtain ⟨⟨p, hp⟩, _⟩ := h3
  obtain ⟨D, P⟩ := B.pr
  obtain ⟨q1, q2, _⟩ := P.a _ p hp
  have ok := B.ok (ev.getD p tie0) (by
    rw [List.getD_eq_getElem?_getD, List.getElem?_eq_getElem q1]
    exact List.getElem_mem _)
  refine ⟨p, hp, q1, nd_inj ok.1 ok.2.1 h1 h2 q2, ?_, ok⟩
  show _ = nxO n ev C (seqO n ev C o k)
  unfold nxO
  rw [hp]
theorem seq_nx {k : Nat} (hk : k ≤ n) : nx n ev C (nd n (seqO n ev C o k)) = nd n (seqO n ev C o (k + 1)) := by
  obtain ⟨p, hp, _, _, e, _⟩ := seq_cause B hk
  unfold nx
  rw [hp, ← e]
  rfl
theorem seq_it : ∀ (m k : Nat), k + m ≤ n + 1 → itN n ev C m (nd n (seqO n ev C o k)) = nd n (seqO n ev C o (k + m)) ∧ Ch n ev C m (nd n (seqO n ev C o k)) ∧
    sumC n ev C m (nd n (seqO n ev C o k)) = ((List.range m).map fun a => wtP ev ((C (nd n (seqO n ev C o (k + a)))).getD 0)).sum
  | 0, k, _ => ⟨rfl, trivial, rfl⟩
  | m + 1, k, h => by
    obtain ⟨i1, i2, i3⟩ := seq_it m (k + 1) (by omega)
    obtain ⟨p, hp, _⟩ := seq_cause B (k := k) (by omega)
    have e := seq_nx B (k := k) (by omega)
    refine ⟨?_, ⟨⟨p, hp⟩, by rw [e]; exact i2⟩, ?_⟩
    · show itN n ev C m (nx n ev C (nd n (seqO n ev C o k))) = _
      rw [e, i1]
      congr 2
      omega
    · show (match C (nd n (seqO n ev C o k)) with | some p => wtP ev p | none => 0) + sumC n ev C m (nx n ev C (nd n (seqO n ev C o k))) = _
      rw [e, i3, List.range_succ_eq_map, List.map_cons, List.sum_cons, List.map_map, Nat.add_zero]
      congr 1
      · rw [show k + 0 = k from rfl, hp]
        rfl
      · congr 1
        refine List.map_congr_left fun a _ => ?_
        show _ = wtP ev ((C (nd n (seqO n ev C o (k + (a + 1))))).getD 0)
        rw [show k + 1 + a = k + (a + 1) by omega]
/-- so many unlike ones there aren't -/
theorem seq_most {i : Nat} (hi : i ≤ n + 1) (hn : ((List.range i).map (seqO n ev C o)).Nodup) (hx : seqO n ev C o i ∉ (List.range i).map (seqO n ev C o)) : i ≤ n := by
  have h1 : ((List.range (i + 1)).map fun k => nd n (seqO n ev C o k)).Nodup := by
    rw [List.range_succ, List.map_append, List.nodup_append]
    refine ⟨?_, by simp, fun a ha b hb => ?_⟩
    · refine nodup_range_map fun a b hab hb heq => ?_
      have sa := seq_in B a (by omega)
      have sb := seq_in B b (by omega)
      have e := nd_inj sa.1 sa.2.1 sb.1 sb.2.1 heq
      have q := nd_ix hn (i := a) (j := b) (x := seqO n ev C o b) (by rw [List.getElem?_map, List.getElem?_range (by omega), ← e]; rfl) (by rw [List.getElem?_map, List.getElem?_range hb]; rfl)
      omega
    · obtain ⟨k, hk, rfl⟩ := List.mem_map.mp ha
      have hk := List.mem_range.mp hk
      rw [List.map_cons, List.map_nil, List.mem_singleton] at hb
      rw [hb]
      intro heq
      have sa := seq_in B k (by omega)
      have sb := seq_in B i (by omega)
      have e := nd_inj sa.1 sa.2.1 sb.1 sb.2.1 heq
      exact hx (List.mem_map.mpr ⟨k, List.mem_range.mpr hk, e⟩)
  have h2 := nodup_le (n + 1) _ h1 fun x hx => by
    obtain ⟨k, hk, rfl⟩ := List.mem_map.mp hx
    have hk := List.mem_range.mp hk
    have := nd_le (seq_in B k (by omega)).2.1
    omega
  simp at h2
  omega
end
theorem sum_rev (f : Nat → Int) : ∀ k : Nat, ((List.range k).map fun a => f (k - 1 - a)).sum = ((List.range k).map f).sum
  | 0 => rfl
  | k + 1 => by
    rw [List.range_succ_eq_map, List.map_cons, List.sum_cons, List.map_map, ← List.range_succ_eq_map, List.range_succ, List.map_append, List.sum_append, ← sum_rev f k]
    simp only [List.map_cons, List.map_nil, List.sum_cons, List.sum_nil]
    have e : ((List.range k).map ((fun a => f (k + 1 - 1 - a)) ∘ Nat.succ)) = (List.range k).map fun a => f (k - 1 - a) := List.map_congr_left fun a _ => by
      show f (k + 1 - 1 - (a + 1)) = f (k - 1 - a)
      congr 1
      omega
    rw [e, show k + 1 - 1 - 0 = k by omega]
    omega
/-- a ring -/
structure RingT (n : Nat) (rs : List Tie) : Prop where
  l2 : 2 ≤ rs.length
  lm : rs.length ≤ n + 1
  ch : ∀ k, k < rs.length → (rs.getD k tie0).2.1 = (rs.getD (if k = 0 then rs.length - 1 else k - 1) tie0).1
  nd : (rs.map fun t => t.1).Nodup
  pos : 0 < (rs.map fun t => t.2.2).sum
def pl (n : Nat) (ev : List Tie) (C : Nat → Option Nat) (o : Int) (k : Nat) : Nat := (C (LH.nd n (seqO n ev C o k))).getD 0
def backPl (n : Nat) (ev : List Tie) (C : Nat → Option Nat) (o : Int) (i j : Nat) : List Nat := (List.range (i - j)).map fun a => pl n ev C o (i - 1 - a)
theorem back_ring {n : Nat} {ev : List Tie} {C : Nat → Option Nat} {o : Int} (B : Back n ev C o) {i j : Nat} (hi : i ≤ n + 1) (hj : j < i) (hn : ((List.range i).map (seqO n ev C o)).Nodup) (he : seqO n ev C o j = seqO n ev C o i) :
    RingT n ((backPl n ev C o i j).map fun p => ev.getD p tie0) ∧ ∀ p ∈ backPl n ev C o i j, p < ev.length := by
  have tie : ∀ k, k ≤ n → pl n ev C o k < ev.length ∧ (ev.getD (pl n ev C o k) tie0).1 = seqO n ev C o k ∧ (ev.getD (pl n ev C o k) tie0).2.1 = seqO n ev C o (k + 1) ∧ TieOk (n : Int) (ev.getD (pl n ev C o k) tie0) := fun k hk => by
    obtain ⟨p, hp, h1, h2, h3, h4⟩ := seq_cause B hk
    have e : pl n ev C o k = p := by
      unfold pl
      rw [hp]
      rfl
    rw [e]
    exact ⟨h1, h2, h3, h4⟩
  have len : (backPl n ev C o i j).length = i - j := by simp [backPl]
  have lenT : ((backPl n ev C o i j).map fun p => ev.getD p tie0).length = i - j := by rw [List.length_map, len]
  have get : ∀ a, a < i - j → ((backPl n ev C o i j).map fun p => ev.getD p tie0).getD a tie0 = ev.getD (pl n ev C o (i - 1 - a)) tie0 := fun a ha => by
    unfold backPl
    rw [List.map_map, List.getD_eq_getElem?_getD, List.getElem?_map, List.getElem?_range ha]
    rfl
  refine ⟨⟨?_, by rw [lenT]; omega, fun k hk => ?_, ?_, ?_⟩, fun p hp => ?_⟩
  · rw [lenT]
    rcases Nat.lt_or_ge (i - j) 2 with z | z
    · exfalso
      obtain ⟨_, t1, t2, t3⟩ := tie j (by omega)
      have e : i = j + 1 := by omega
      rw [e] at he
      exact t3.2.2.2.2.1 (by rw [t1, t2]; exact he)
    · exact z
  · rw [lenT] at hk
    rw [get k hk, lenT]
    obtain ⟨_, _, t2, _⟩ := tie (i - 1 - k) (by omega)
    rw [t2]
    by_cases k0 : k = 0
    · rw [if_pos k0, get _ (by omega)]
      obtain ⟨_, t1, _, _⟩ := tie (i - 1 - (i - j - 1)) (by omega)
      rw [t1, k0, show i - 1 - 0 + 1 = i by omega, show i - 1 - (i - j - 1) = j by omega]
      exact he.symm
    · rw [if_neg k0, get _ (by omega)]
      obtain ⟨_, t1, _, _⟩ := tie (i - 1 - (k - 1)) (by omega)
      rw [t1]
      congr 1
      omega
  · have e : ((backPl n ev C o i j).map fun p => ev.getD p tie0).map (fun t => t.1) = (List.range (i - j)).map fun a => seqO n ev C o (i - 1 - a) := by
      unfold backPl
      rw [List.map_map, List.map_map]
      refine List.map_congr_left fun a ha => ?_
      have ha := List.mem_range.mp ha
      exact (tie (i - 1 - a) (by omega)).2.1
    rw [e]
    refine nodup_range_map fun a b hab hb heq => ?_
    have q := nd_ix hn (i := i - 1 - a) (j := i - 1 - b) (x := seqO n ev C o (i - 1 - b)) (by rw [List.getElem?_map, List.getElem?_range (by omega), ← heq]; rfl) (by rw [List.getElem?_map, List.getElem?_range (by omega)]; rfl)
    omega
  · have e : ((backPl n ev C o i j).map fun p => ev.getD p tie0).map (fun t => t.2.2) = (List.range (i - j)).map fun a => (fun b => wtP ev (pl n ev C o (j + b))) (i - j - 1 - a) := by
      unfold backPl
      rw [List.map_map, List.map_map]
      refine List.map_congr_left fun a ha => ?_
      have ha := List.mem_range.mp ha
      show wtP ev (pl n ev C o (i - 1 - a)) = wtP ev (pl n ev C o (j + (i - j - 1 - a)))
      rw [show j + (i - j - 1 - a) = i - 1 - a by omega]
    rw [e, sum_rev (fun b => wtP ev (pl n ev C o (j + b))) (i - j)]
    obtain ⟨D, P⟩ := B.pr
    obtain ⟨s1, s2, s3⟩ := seq_it B (i - j) j (by omega)
    have b := P.b _ (i - j) (by omega) s2 (by rw [s1, show j + (i - j) = i by omega, he])
    rw [s3] at b
    exact b
  · obtain ⟨a, ha, rfl⟩ := List.mem_map.mp hp
    have ha := List.mem_range.mp ha
    exact (tie (i - 1 - a) (by omega)).1
/-! the causes as a list -/
def cV : Option Nat → V
  | none => .non
  | some p => .int (p : Int)
theorem inV_ints (x : Int) (ns : List Int) : inV (.int x) (ns.map V.int) = decide (x ∈ ns) := by
  unfold inV
  rw [List.any_map]
  induction ns with
  | nil => rfl
  | cons a ns ih =>
    rw [List.any_cons, ih]
    show (eqV (.int a) (.int x) || decide (x ∈ ns)) = decide (x ∈ a :: ns)
    by_cases e : a = x
    · subst e
      simp [eqV]
    · simp [eqV, e, Ne.symm e]
theorem flat_ints (ns : List Int) : (ns.map V.int).all flatV = true := by
  rw [List.all_map, List.all_eq_true]
  intro x _
  rfl
theorem Late.fresh2 {n : Nat} {ev : List Tie} {r : Nat} {D : Nat → Int} {C : Nat → Option Nat} {ρ : Nat → Nat} {last : Nat} (h : Late (n := n) (ev := ev) (r + 1) 0 D C ρ last) (hno : ¬ ∀ q, q < ev.length → D (dstP n ev q) + wtP ev q ≤ D (srcP n ev q)) : r ≤ ρ last := by
  rcases Classical.em (∃ q, q < ev.length ∧ r ≤ ρ (dstP n ev q)) with z | z
  · obtain ⟨q, _, hq⟩ := z
    exact Nat.le_trans hq (h.la _)
  · exfalso
    refine hno fun q hq => ?_
    rcases h.d2 q (Nat.zero_le q) hq with y | y
    · exact y
    · exact absurd ⟨q, hq, by omega⟩ z
theorem bounds_ok {n : Nat} : ∀ t ∈ boundsT n, TieOk (n : Int) t := by
  intro t ht
  obtain ⟨i, hi, h⟩ := mem_bounds.mp ht
  unfold TieOk
  rcases h with rfl | rfl <;> dsimp only <;> omega
theorem bounds_succ (i : Nat) : boundsT (i + 1) = boundsT i ++ [((i : Int), -1, 0)] ++ [(-1, (i : Int), -9999)] := by
  unfold boundsT
  rw [List.range_succ, List.map_append, List.flatten_append, List.append_assoc]
  rfl
theorem bounds_len : ∀ n : Nat, (boundsT n).length = 2 * n
  | 0 => rfl
  | n + 1 => by
    rw [bounds_succ, List.length_append, List.length_append, bounds_len n]
    simp
    omega
end LH

set_option Elab.async false
set_option linter.all false
set_option maxRecDepth 100000
set_option maxHeartbeats 4000000
namespace LH
open PySem PySem.Spec PyProof.Rows L2
/-! lists of lists of ints; lists of pairs -/
def RowAt (H : Hp) (v : V) (r : List Int) : Prop := ∃ a, v = .ref a ∧ H a = some (.lst (r.map V.int))
def PairAt (H : Hp) (v : V) (w : Int × Int) : Prop := ∃ a, v = .ref a ∧ H a = some (.tup [.int w.1, .int w.2])
def AllAt {α : Type} (P : V → α → Prop) : List V → List α → Prop
  | [], [] => True
  | v :: vs, x :: xs => P v x ∧ AllAt P vs xs
  | _, _ => False
theorem AllAt.imp {α : Type} {P Q : V → α → Prop} (e : ∀ v x, P v x → Q v x) : ∀ {vs : List V} {xs : List α}, AllAt P vs xs → AllAt Q vs xs
  | [], [], _ => trivial
  | _ :: _, _ :: _, h => ⟨e _ _ h.1, AllAt.imp e h.2⟩
theorem AllAt.length {α : Type} {P : V → α → Prop} : ∀ {vs : List V} {xs : List α}, AllAt P vs xs → vs.length = xs.length
  | [], [], _ => rfl
  | _ :: _, _ :: _, h => by simp [AllAt.length h.2]
theorem AllAt.app {α : Type} {P : V → α → Prop} : ∀ {vs ws : List V} {xs ys : List α}, AllAt P vs xs → AllAt P ws ys → AllAt P (vs ++ ws) (xs ++ ys)
  | [], _, [], _, _, h2 => h2
  | _ :: _, _, _ :: _, _, h, h2 => ⟨h.1, AllAt.app h.2 h2⟩
theorem AllAt.get {α : Type} {P : V → α → Prop} : ∀ {vs : List V} {xs : List α} {i : Nat} {v : V}, AllAt P vs xs → vs[i]? = some v → ∃ x, xs[i]? = some x ∧ P v x
  | [], [], i, v, _, h2 => by simp at h2
  | v :: vs, x :: xs, 0, w, h, h2 => by
    have e : v = w := Option.some.inj h2
    subst e
    exact ⟨x, rfl, h.1⟩
  | v :: vs, x :: xs, i + 1, w, h, h2 => AllAt.get (i := i) h.2 h2
theorem RowAt.mono {H H' : Hp} {v : V} {r : List Int} (e : Same H H') (h : RowAt H v r) : RowAt H' v r := by
  obtain ⟨a, h1, h2⟩ := h
  exact ⟨a, h1, e _ _ h2⟩
theorem PairAt.mono {H H' : Hp} {v : V} {r : Int × Int} (e : Same H H') (h : PairAt H v r) : PairAt H' v r := by
  obtain ⟨a, h1, h2⟩ := h
  exact ⟨a, h1, e _ _ h2⟩
abbrev RowsAt (H : Hp) : List V → List (List Int) → Prop := AllAt (RowAt H)
abbrev PairsAt (H : Hp) : List V → List (Int × Int) → Prop := AllAt (PairAt H)
theorem rows_mono {H H' : Hp} {vs : List V} {Rs : List (List Int)} (e : Same H H') (h : RowsAt H vs Rs) : RowsAt H' vs Rs := AllAt.imp (fun _ _ => RowAt.mono e) h
theorem pairs_mono {H H' : Hp} {vs : List V} {ws : List (Int × Int)} (e : Same H H') (h : PairsAt H vs ws) : PairsAt H' vs ws := AllAt.imp (fun _ _ => PairAt.mono e) h
/-- a fresh address is changed: none of these is it -/
theorem rows_mut {H H' : Hp} {vs : List V} {Rs : List (List Int)} {D : Addr} {o : HO} (e : Same H H') (hD : H D = none) (h : RowsAt H vs Rs) : RowsAt (upd H' D o) vs Rs := rows_mono (same_mut e hD) h
theorem pairs_updL {H : Hp} {l : Addr} {o : HO} {zs : List V} (hl : H l = some (.lst zs)) {vs : List V} {ws : List (Int × Int)} (h : PairsAt H vs ws) : PairsAt (upd H l o) vs ws := AllAt.imp (fun v w ⟨a, h1, h2⟩ => ⟨a, h1, by rw [upd_ne (ne_of h2 hl (by intro z; cases z))]; exact h2⟩) h
def rowsD (Rs : List (List Int)) : PyData := .list (Rs.map intsD)
theorem dpAll_rows {K : PySem.W.Frag} {H : Hp} : ∀ {vs : List V} {Rs : List (List Int)}, RowsAt H vs Rs → DpAll K H vs (Rs.map intsD)
  | [], [], _ => .nil
  | _ :: _, _ :: _, h => by
    obtain ⟨⟨a, rfl, ha⟩, h2⟩ := h
    exact .cons (dp_ints (SqL.of ha)) (dpAll_rows h2)
theorem shaped_rows (Rs : List (List Int)) : SeqAt.shaped (rowsD Rs) = true := by
  have key : ∀ Rs : List (List Int), PyData.canLayAll0 (Rs.map intsD) = true ∧ PyData.depthAll (Rs.map intsD) ≤ 1 := fun Rs => by
    induction Rs with
    | nil => exact ⟨rfl, Nat.zero_le _⟩
    | cons r Rs ih =>
      constructor
      · simp only [List.map_cons, PyData.canLayAll0, ih.1, SeqAt.canLay_of_shaped (shaped_ints r), Bool.and_self]
      · simp only [List.map_cons, PyData.depthAll]
        have := depth_ints r
        omega
  refine shaped_mk ?_ ?_
  · show PyData.canLayAll0 _ = true
    exact (key Rs).1
  · show PyData.depthAll _ + 1 ≤ 64
    have := (key Rs).2
    omega
theorem eqv_rows_nil (Rs : List (List Int)) : PyData.eqv (rowsD Rs) (.list []) = decide (Rs = []) := by
  cases Rs with
  | nil => rfl
  | cons r Rs => simp [rowsD, PyData.eqv, PyData.eqvAll]
/-! all ways within windows -/
def daysI (lo hi : Int) : List Int := (List.range (hi + 1 - lo).toNat).map fun i : Nat => lo + (i : Int)
def extW (Rs : List (List Int)) (w : Int × Int) : List (List Int) := (Rs.map fun r => (daysI w.1 w.2).map fun d => r ++ [d]).flatten
def allW (ws : List (Int × Int)) : List (List Int) := ws.foldl extW [[]]
def InW : List (Int × Int) → List Int → Prop
  | [], [] => True
  | w :: ws, d :: ds => w.1 ≤ d ∧ d ≤ w.2 ∧ InW ws ds
  | _, _ => False
theorem mem_days {lo hi d : Int} : d ∈ daysI lo hi ↔ lo ≤ d ∧ d ≤ hi := by
  unfold daysI
  rw [List.mem_map]
  constructor
  · rintro ⟨i, hi, rfl⟩
    have := List.mem_range.mp hi
    omega
  · intro h
    exact ⟨(d - lo).toNat, List.mem_range.mpr (by omega), by omega⟩
theorem mem_ext {Rs : List (List Int)} {w : Int × Int} {ds : List Int} : ds ∈ extW Rs w ↔ ∃ r ∈ Rs, ∃ d, w.1 ≤ d ∧ d ≤ w.2 ∧ ds = r ++ [d] := by
  unfold extW
  rw [List.mem_flatten]
  constructor
  · rintro ⟨l, hl, hd⟩
    obtain ⟨r, hr, rfl⟩ := List.mem_map.mp hl
    obtain ⟨d, hd2, rfl⟩ := List.mem_map.mp hd
    exact ⟨r, hr, d, (mem_days.mp hd2).1, (mem_days.mp hd2).2, rfl⟩
  · rintro ⟨r, hr, d, h1, h2, rfl⟩
    exact ⟨_, List.mem_map.mpr ⟨r, hr, rfl⟩, List.mem_map.mpr ⟨d, mem_days.mpr ⟨h1, h2⟩, rfl⟩⟩
theorem mem_fold : ∀ (ws : List (Int × Int)) (Rs : List (List Int)) (ds : List Int), ds ∈ ws.foldl extW Rs ↔ ∃ r ∈ Rs, ∃ es, InW ws es ∧ ds = r ++ es
  | [], Rs, ds => by
    constructor
    · intro h
      exact ⟨ds, h, [], trivial, (List.append_nil _).symm⟩
    · rintro ⟨r, hr, es, he, rfl⟩
      cases es with
      | nil => rw [List.append_nil]; exact hr
      | cons a b => exact he.elim
  | w :: ws, Rs, ds => by
    rw [List.foldl_cons, mem_fold ws]
    constructor
    · rintro ⟨r, hr, es, he, rfl⟩
      obtain ⟨r', hr', d, h1, h2, rfl⟩ := mem_ext.mp hr
      exact ⟨r', hr', d :: es, ⟨h1, h2, he⟩, by rw [List.append_assoc]; rfl⟩
    · rintro ⟨r, hr, es, he, rfl⟩
      cases es with
      | nil => exact he.elim
      | cons d es => exact ⟨r ++ [d], mem_ext.mpr ⟨r, hr, d, he.1, he.2.1, rfl⟩, es, he.2.2, by rw [List.append_assoc]; rfl⟩
theorem mem_all {ws : List (Int × Int)} {ds : List Int} : ds ∈ allW ws ↔ InW ws ds := by
  unfold allW
  rw [mem_fold]
  constructor
  · rintro ⟨r, hr, es, he, rfl⟩
    rw [List.mem_singleton.mp hr]
    exact he
  · intro h
    exact ⟨[], List.mem_singleton.mpr rfl, ds, h, rfl⟩
theorem inW_iff : ∀ {ws : List (Int × Int)} {ds : List Int}, InW ws ds ↔ ds.length = ws.length ∧ ∀ i w, ws[i]? = some w → w.1 ≤ ds.getD i 0 ∧ ds.getD i 0 ≤ w.2
  | [], [] => ⟨fun _ => ⟨rfl, fun i w h => by simp at h⟩, fun _ => trivial⟩
  | [], d :: ds => ⟨fun h => h.elim, fun h => by have := h.1; simp at this⟩
  | w :: ws, [] => ⟨fun h => h.elim, fun h => by have := h.1; simp at this⟩
  | w :: ws, d :: ds => by
    constructor
    · rintro ⟨h1, h2, h3⟩
      obtain ⟨l, g⟩ := inW_iff.mp h3
      refine ⟨by simp [l], fun i u hu => ?_⟩
      cases i with
      | zero =>
        have e : w = u := Option.some.inj hu
        subst e
        exact ⟨h1, h2⟩
      | succ i => exact g i u hu
    · rintro ⟨l, g⟩
      refine ⟨(g 0 w rfl).1, (g 0 w rfl).2, inW_iff.mpr ⟨by simpa using l, fun i u hu => g (i + 1) u hu⟩⟩
theorem ext_len {Rs : List (List Int)} {w : Int × Int} (h : w.2 ≤ w.1 + 3) : (extW Rs w).length ≤ 4 * Rs.length := by
  unfold extW
  induction Rs with
  | nil => simp
  | cons r Rs ih =>
    rw [List.map_cons, List.flatten_cons, List.length_append, List.length_cons]
    have : ((daysI w.1 w.2).map fun d => r ++ [d]).length ≤ 4 := by
      unfold daysI
      simp
      omega
    omega
/-- what least and greatest of all ways are -/
theorem min_gap {n : Nat} {ts : List Tie} {W : List (List Int)} (hok : ∀ t ∈ ts, TieIx (n : Int) t) (hW : ∀ ds, ds ∈ W ↔ Way n ts ds) {i j : Nat} (hi : i ≤ n) (hj : j ≤ n) {m : Int} (h1 : m ∈ W.map fun ds => wayF n ds i - wayF n ds j) (h2 : ∀ y ∈ W.map fun ds => wayF n ds i - wayF n ds j, m ≤ y) : m = gapsG n ts i j := by
  obtain ⟨ds, hd, rfl⟩ := List.mem_map.mp h1
  have f := ((hW ds).mp hd).feas hok
  have d := (can_iff hok).mp ⟨_, f⟩
  have a1 := gap_le f hi hj
  have fs := feas_gap hok d hj
  have w := fs.way hok
  have b := h2 _ (List.mem_map.mpr ⟨_, (hW _).mpr w, rfl⟩)
  have e : ∀ k, k ≤ n → wayF n ((List.range n).map fun i => gapsG n ts i j - gapsG n ts n j) k = gapsG n ts k j - gapsG n ts n j := fun k hk => by
    unfold wayF
    split
    · rename_i z
      rw [z]
      omega
    · rw [List.getD_eq_getElem?_getD, List.getElem?_map, List.getElem?_range (by omega)]
      rfl
  rw [e i hi, e j hj] at b
  have := d j hj
  omega
theorem max_gap {n : Nat} {ts : List Tie} {W : List (List Int)} (hok : ∀ t ∈ ts, TieIx (n : Int) t) (hW : ∀ ds, ds ∈ W ↔ Way n ts ds) {i j : Nat} (hi : i ≤ n) (hj : j ≤ n) {m : Int} (h1 : m ∈ W.map fun ds => wayF n ds i - wayF n ds j) (h2 : ∀ y ∈ W.map fun ds => wayF n ds i - wayF n ds j, y ≤ m) : m = - gapsG n ts j i := by
  have e : -m = gapsG n ts j i := by
    refine min_gap hok hW hj hi ?_ ?_
    · obtain ⟨ds, hd, rfl⟩ := List.mem_map.mp h1
      exact List.mem_map.mpr ⟨ds, hd, by omega⟩
    · intro y hy
      obtain ⟨ds, hd, rfl⟩ := List.mem_map.mp hy
      have := h2 _ (List.mem_map.mpr ⟨ds, hd, rfl⟩)
      omega
  omega
theorem can_W {n : Nat} {ts : List Tie} {W : List (List Int)} (hok : ∀ t ∈ ts, TieIx (n : Int) t) (hW : ∀ ds, ds ∈ W ↔ Way n ts ds) : Can n ts ↔ W ≠ [] := by
  constructor
  · rintro ⟨φ, f⟩ e
    have := (hW _).mpr (f.way hok)
    rw [e] at this
    cases this
  · intro h
    obtain ⟨ds, hd⟩ := List.exists_mem_of_ne_nil W h
    exact ⟨_, ((hW ds).mp hd).feas hok⟩
/-- the word of a tie more -/
def wordT (n : Nat) (ts : List Tie) (t : Tie) : Str :=
  if t.2.2 ≤ gapsG n ts (nd n t.1) (nd n t.2.1) then "known" else if - t.2.2 < gapsG n ts (nd n t.2.1) (nd n t.1) then "against" else "news"
/-- rows that are not at D -/
def RowN (H : Hp) (D : Addr) (v : V) (r : List Int) : Prop := ∃ a, v = .ref a ∧ a ≠ D ∧ H a = some (.lst (r.map V.int))
theorem rowsN_mono {H H' : Hp} {D : Addr} {vs : List V} {Rs : List (List Int)} (e : Same H H') (h : AllAt (RowN H D) vs Rs) : AllAt (RowN H' D) vs Rs := AllAt.imp (fun _ _ ⟨a, h1, h2, h3⟩ => ⟨a, h1, h2, e _ _ h3⟩) h
theorem rowsN_upd {H : Hp} {D : Addr} {o : HO} {vs : List V} {Rs : List (List Int)} (h : AllAt (RowN H D) vs Rs) : AllAt (RowN (upd H D o) D) vs Rs := AllAt.imp (fun _ _ ⟨a, h1, h2, h3⟩ => ⟨a, h1, h2, by rw [upd_ne h2]; exact h3⟩) h
theorem rowsN_at {H : Hp} {D : Addr} {vs : List V} {Rs : List (List Int)} (h : AllAt (RowN H D) vs Rs) : RowsAt H vs Rs := AllAt.imp (fun _ _ ⟨a, h1, _, h3⟩ => ⟨a, h1, h3⟩) h
theorem ext_app (Rs : List (List Int)) (r : List Int) (w : Int × Int) : extW (Rs ++ [r]) w = extW Rs w ++ (daysI w.1 w.2).map fun d => r ++ [d] := by
  unfold extW
  simp
theorem ext_row {Rs : List (List Int)} {w : Int × Int} {n : Nat} (h : ∀ r ∈ Rs, r.length = n) : ∀ r ∈ extW Rs w, r.length = n + 1 := fun r hr => by
  obtain ⟨q, hq, d, _, _, rfl⟩ := mem_ext.mp hr
  rw [List.length_append, h q hq]
  rfl
theorem inW_len {ws : List (Int × Int)} {ds : List Int} (h : InW ws ds) : ds.length = ws.length := (inW_iff.mp h).1
/-- small sets of lives, drawn -/
structure SmallAt (H H' : Hp) (p q l : Addr) (ys xs : List V) (ws : List (Int × Int)) (ts : List Tie) : Prop where
  same : Same H H'
  np : H p = none
  tup : H' p = some (.tup [.int (ws.length : Int), .ref q, .ref l])
  wl : H' q = some (.lst ys)
  wp : PairsAt H' ys ws
  lst : H' l = some (.lst xs)
  ties : TiesAt H' xs ts
  m1 : 1 ≤ ws.length
  m4 : ws.length ≤ 4
  wd : ∀ w ∈ ws, 0 ≤ w.1 ∧ w.1 ≤ w.2 ∧ w.2 ≤ w.1 + 3 ∧ w.2 ≤ 9999
  hi9 : ∀ w ∈ ws, w.2 ≤ 9987
  ok : ∀ t ∈ ts, TieOk (ws.length : Int) t
  tl : ts.length ≤ 20
  win : ∀ (i : Nat) w, ws[i]? = some w → ((i : Int), -1, w.1) ∈ ts ∧ (-1, (i : Int), -w.2) ∈ ts
theorem small_way {ws : List (Int × Int)} {ts : List Tie} {ds : List Int} (wd : ∀ w ∈ ws, 0 ≤ w.1 ∧ w.1 ≤ w.2 ∧ w.2 ≤ w.1 + 3 ∧ w.2 ≤ 9999) (win : ∀ (i : Nat) w, ws[i]? = some w → ((i : Int), -1, w.1) ∈ ts ∧ (-1, (i : Int), -w.2) ∈ ts) : (InW ws ds ∧ ∀ t ∈ ts, KeptW ds t) ↔ Way ws.length ts ds := by
  constructor
  · rintro ⟨h, k⟩
    obtain ⟨l, g⟩ := inW_iff.mp h
    refine ⟨l, fun x hx => ?_, k⟩
    obtain ⟨i, hi, rfl⟩ := List.getElem_of_mem hx
    have e := List.getElem?_eq_getElem (l := ws) (i := i) (by omega)
    have a := g i _ e
    have b := wd _ (List.mem_of_getElem? e)
    rw [List.getD_eq_getElem?_getD, List.getElem?_eq_getElem hi] at a
    have c : (some ds[i]).getD 0 = ds[i] := rfl
    rw [c] at a
    omega
  · rintro ⟨l, r, k⟩
    refine ⟨inW_iff.mpr ⟨l, fun i w hw => ?_⟩, k⟩
    obtain ⟨a, b⟩ := win i w hw
    have a := k _ a
    have b := k _ b
    unfold KeptW dayOf at a b
    dsimp only at a b
    rw [if_neg (by omega), if_pos (by decide), show ((i : Int)).toNat = i by omega] at a
    rw [if_pos (by decide), if_neg (by omega), show ((i : Int)).toNat = i by omega] at b
    omega
def bodyS (st : Stmt) : List Stmt := match st with
  | .For _ _ b _ _ => b
  | .While _ b _ _ => b
  | .If _ b _ _ => b
  | _ => []
def valS (st : Stmt) : Expr := match st with
  | .Assign _ e _ => e
  | _ => .Constant .none 0 ⟨0, 0, 0, 0⟩
def stAt (l : List Stmt) (i : Nat) : Stmt := l.getD i (.Pass ⟨0, 0, 0, 0⟩)
theorem size_ints (ns : List Int) : sizeD (intsD ns) = ns.length := by
  have key : ∀ ns : List Int, sizeAll (ns.map PyData.int) = 0 := fun ns => by
    induction ns with
    | nil => rfl
    | cons n ns ih => simp only [List.map_cons, sizeAll, sizeD, ih]
  simp only [intsD, sizeD, key, List.length_map, Nat.add_zero]
theorem min_day {n : Nat} {ts : List Tie} {W : List (List Int)} (hok : ∀ t ∈ ts, TieIx (n : Int) t) (hW : ∀ ds, ds ∈ W ↔ Way n ts ds) {o : Int} (h0 : 0 ≤ o) (hi : o < n) {m : Int} (h1 : m ∈ W.map fun ds => dayOf ds o) (h2 : ∀ y ∈ W.map fun ds => dayOf ds o, m ≤ y) : m = gapsG n ts o.toNat n := by
  have e : (W.map fun ds => dayOf ds o) = W.map fun ds => wayF n ds o.toNat - wayF n ds n := List.map_congr_left fun ds _ => by
    rw [dayOf_nd hi, nd_nat (by omega)]
    unfold wayF
    rw [if_pos rfl]
    omega
  rw [e] at h1 h2
  exact min_gap hok hW (by omega) (Nat.le_refl n) h1 h2
theorem max_day {n : Nat} {ts : List Tie} {W : List (List Int)} (hok : ∀ t ∈ ts, TieIx (n : Int) t) (hW : ∀ ds, ds ∈ W ↔ Way n ts ds) {o : Int} (h0 : 0 ≤ o) (hi : o < n) {m : Int} (h1 : m ∈ W.map fun ds => dayOf ds o) (h2 : ∀ y ∈ W.map fun ds => dayOf ds o, y ≤ m) : m = - gapsG n ts n o.toNat := by
  have e : (W.map fun ds => dayOf ds o) = W.map fun ds => wayF n ds o.toNat - wayF n ds n := List.map_congr_left fun ds _ => by
    rw [dayOf_nd hi, nd_nat (by omega)]
    unfold wayF
    rw [if_pos rfl]
    omega
  rw [e] at h1 h2
  exact max_gap hok hW (by omega) (Nat.le_refl n) h1 h2
theorem steps_eq {n : Nat} {W : List (List Int)} {o u : Int} (ho : o < n) (hu : u < n) : (W.map fun ds => dayOf ds o - dayOf ds u) = W.map fun ds => wayF n ds (nd n o) - wayF n ds (nd n u) := List.map_congr_left fun ds _ => by
  rw [dayOf_nd ho, dayOf_nd hu]
theorem min_step {n : Nat} {ts : List Tie} {W : List (List Int)} (hok : ∀ t ∈ ts, TieIx (n : Int) t) (hW : ∀ ds, ds ∈ W ↔ Way n ts ds) {o u : Int} (ho : o < n) (hu : u < n) {m : Int} (h1 : m ∈ W.map fun ds => dayOf ds o - dayOf ds u) (h2 : ∀ y ∈ W.map fun ds => dayOf ds o - dayOf ds u, m ≤ y) : m = gapsG n ts (nd n o) (nd n u) := by
  rw [steps_eq ho hu] at h1 h2
  exact min_gap hok hW (nd_le ho) (nd_le hu) h1 h2
theorem max_step {n : Nat} {ts : List Tie} {W : List (List Int)} (hok : ∀ t ∈ ts, TieIx (n : Int) t) (hW : ∀ ds, ds ∈ W ↔ Way n ts ds) {o u : Int} (ho : o < n) (hu : u < n) {m : Int} (h1 : m ∈ W.map fun ds => dayOf ds o - dayOf ds u) (h2 : ∀ y ∈ W.map fun ds => dayOf ds o - dayOf ds u, y ≤ m) : m = - gapsG n ts (nd n u) (nd n o) := by
  rw [steps_eq ho hu] at h1 h2
  exact max_gap hok hW (nd_le ho) (nd_le hu) h1 h2
/-- the ties about the gap -/
def moreT (o u g : Int) : List Int → List Tie
  | [] => []
  | b :: bs => if g + b < 10000 then (o, u, g + b) :: moreT o u g bs else moreT o u g bs
theorem more_app (o u g b : Int) : ∀ bs : List Int, moreT o u g (bs ++ [b]) = moreT o u g bs ++ if g + b < 10000 then [(o, u, g + b)] else []
  | [] => rfl
  | c :: bs => by
    have := more_app o u g b bs
    show (if g + c < 10000 then (o, u, g + c) :: moreT o u g (bs ++ [b]) else moreT o u g (bs ++ [b])) = (if g + c < 10000 then (o, u, g + c) :: moreT o u g bs else moreT o u g bs) ++ _
    rw [this]
    split <;> rfl
theorem gap_most {n : Nat} {ts : List Tie} (c : Can n ts) {i j : Nat} (hi : i ≤ n) (hj : j ≤ n) : gapsG n ts i j ≤ 9999 := by
  obtain ⟨φ, f⟩ := c
  have a := gap_le f hi hj
  have b := f.lo' hj
  have d : φ i ≤ 9999 := by
    rcases Nat.lt_or_ge i n with h | h
    · exact f.hi i h
    · have e : i = n := by omega
      rw [e, f.z]
      decide
  omega
theorem more_ok {n : Nat} {ts : List Tie} (c : Can n ts) {o u : Int} (h1 : -1 ≤ o) (h2 : o < n) (h3 : -1 ≤ u) (h4 : u < n) (ne : o ≠ u) : ∀ t ∈ moreT o u (gapsG n ts (nd n o) (nd n u)) [0, 1], TieOk (n : Int) t := by
  have lo := gap_hi (n := n) (ts := ts) (nd n o) (nd n u)
  intro t ht
  unfold moreT moreT moreT at ht
  generalize gapsG n ts (nd n o) (nd n u) = g at *
  have key : ∀ b : Int, 0 ≤ b → g + b < 10000 → TieOk (n : Int) (o, u, g + b) := fun b hb hl => ⟨h1, h2, h3, h4, ne, by show -9999 ≤ g + b; omega, by show g + b ≤ 9999; omega⟩
  split at ht
  · split at ht
    · simp only [List.mem_cons, List.not_mem_nil, or_false] at ht
      rcases ht with rfl | rfl
      · exact key 0 (by decide) (by assumption)
      · exact key 1 (by decide) (by assumption)
    · rw [List.mem_singleton.mp ht]
      exact key 0 (by decide) (by assumption)
  · split at ht
    · rw [List.mem_singleton.mp ht]
      exact key 1 (by decide) (by assumption)
    · cases ht
def lastW (n : Nat) (ts : List Tie) (o u : Int) : Str := if gapsG n ts (nd n o) (nd n u) < - gapsG n ts (nd n u) (nd n o) then "news" else "against"
theorem more_words {n : Nat} {ts : List Tie} (c : Can n ts) {o u : Int} (h2 : o < n) (h4 : u < n) : (moreT o u (gapsG n ts (nd n o) (nd n u)) [0, 1]).map (wordT n ts) = [("known" : Str), lastW n ts o u].take (moreT o u (gapsG n ts (nd n o) (nd n u)) [0, 1]).length := by
  have hi := gap_most c (nd_le h2) (nd_le h4)
  have w0 : wordT n ts (o, u, gapsG n ts (nd n o) (nd n u) + 0) = "known" := by
    unfold wordT
    exact if_pos (by show gapsG n ts (nd n o) (nd n u) + 0 ≤ gapsG n ts (nd n o) (nd n u); omega)
  have w1 : wordT n ts (o, u, gapsG n ts (nd n o) (nd n u) + 1) = lastW n ts o u := by
    unfold wordT lastW
    dsimp only
    rw [if_neg (by omega)]
    split <;> split <;> first | rfl | omega
  unfold moreT moreT moreT
  rw [if_pos (by omega)]
  split
  · show [_, _] = _
    rw [w0, w1]
    rfl
  · show [_] = _
    rw [w0]
    rfl
theorem shaped_strs {xs : List Str} (h : ∀ x ∈ xs, (PyData.str x).canLay0 = true) : SeqAt.shaped (.list (xs.map PyData.str)) = true := by
  have key : ∀ xs : List Str, (∀ x ∈ xs, (PyData.str x).canLay0 = true) → PyData.canLayAll0 (xs.map PyData.str) = true ∧ PyData.depthAll (xs.map PyData.str) = 0 := fun xs h => by
    induction xs with
    | nil => exact ⟨rfl, rfl⟩
    | cons x xs ih =>
      obtain ⟨a, b⟩ := ih fun y hy => h y (List.mem_cons_of_mem _ hy)
      constructor
      · simp only [List.map_cons, PyData.canLayAll0, a, h x (List.mem_cons_self ..), Bool.and_self]
      · simp only [List.map_cons, PyData.depthAll, PyData.depth, b, Nat.max_self]
  refine shaped_mk (key xs h).1 ?_
  show PyData.depthAll _ + 1 ≤ 64
  rw [(key xs h).2]
  decide
theorem dpAll_strs {K : PySem.W.Frag} {H : Hp} : ∀ xs : List Str, DpAll K H (xs.map V.str) (xs.map PyData.str)
  | [] => .nil
  | x :: xs => .cons (.str x) (dpAll_strs xs)
theorem dp_strs {K : PySem.W.Frag} {H : Hp} {a : Addr} {xs : List Str} (h : H a = some (.lst (xs.map V.str))) : Dp K H (.ref a) (.list (xs.map PyData.str)) := .lst (SqL.of h) (dpAll_strs xs)
theorem lay_word (n : Nat) (ts : List Tie) (o u : Int) : ∀ x ∈ [("known" : Str), lastW n ts o u], (PyData.str x).canLay0 = true := by
  intro x hx
  unfold lastW at hx
  split at hx <;> simp only [List.mem_cons, List.not_mem_nil, or_false] at hx <;> rcases hx with rfl | rfl <;> decide +kernel
end LH

set_option Elab.async false
set_option linter.all false
set_option maxRecDepth 100000
set_option maxHeartbeats 4000000
/-! turns -/
namespace LH
open PySem PySem.Spec PyProof.Rows L2
theorem snoc_ind {α : Type} {P : List α → Prop} (h0 : P []) (h1 : ∀ l x, P l → P (l ++ [x])) (l : List α) : P l := by
  have key : ∀ l : List α, P l.reverse := fun l => by
    induction l with
    | nil => exact h0
    | cons x l ih =>
      rw [List.reverse_cons]
      exact h1 _ _ ih
  have := key l.reverse
  rw [List.reverse_reverse] at this
  exact this
theorem min_if (a b : Int) : (if b < a then b else a) = min a b := by
  split <;> omega
def stepT (ds : List Int) (b : Int) (st : List (Int × Int × Int) × Int) (l : Int) : List (Int × Int × Int) × Int :=
  if st.2 < min (dayOf ds l) b then (st.1 ++ [(l, st.2, min (dayOf ds l) b)], min (dayOf ds l) b) else st
def turnsS (r ds : List Int) (s b : Int) : List (Int × Int × Int) × Int := r.foldl (stepT ds b) ([], s)
def turnsOf (r ds : List Int) (s b : Int) : List (Int × Int × Int) := (turnsS r ds s b).1
theorem turnsS_take {r ds : List Int} {s b x : Int} {i : Nat} (h : r[i]? = some x) : turnsS (r.take (i + 1)) ds s b = stepT ds b (turnsS (r.take i) ds s b) x := by
  unfold turnsS
  rw [List.take_succ, h, List.foldl_append]
  rfl
theorem turnsS_snoc (r ds : List Int) (s b x : Int) : turnsS (r ++ [x]) ds s b = stepT ds b (turnsS r ds s b) x := by
  unfold turnsS
  rw [List.foldl_append]
  rfl
theorem turnsS_len (ds : List Int) (s b : Int) : ∀ r : List Int, (turnsS r ds s b).1.length ≤ r.length := by
  intro r
  refine snoc_ind (P := fun r => (turnsS r ds s b).1.length ≤ r.length) (Nat.le_refl _) (fun r x ih => ?_) r
  · rw [turnsS_snoc, List.length_append]
    unfold stepT
    split
    · simp
      exact ih
    · simp
      omega
theorem turnsS_ge (ds : List Int) (s b : Int) : ∀ r : List Int, s ≤ (turnsS r ds s b).2 := by
  intro r
  refine snoc_ind (P := fun r => s ≤ (turnsS r ds s b).2) (Int.le_refl _) (fun r x ih => ?_) r
  · rw [turnsS_snoc]
    unfold stepT
    split
    · show s ≤ min (dayOf ds x) b
      omega
    · exact ih
/-- a turn as it is told -/
def TurnAt (K : PySem.W.Frag) (H : Hp) (v : V) (t : Int × Int × Int) : Prop := ∃ p q, v = .ref p ∧ H p = some (.tup [.int t.1, q]) ∧ SpanAt K H q t.2
abbrev TurnsAt (K : PySem.W.Frag) (H : Hp) : List V → List (Int × Int × Int) → Prop := AllAt (TurnAt K H)
theorem TurnAt.mono {K : PySem.W.Frag} {H H' : Hp} {v : V} {t : Int × Int × Int} (e : Same H H') (h : TurnAt K H v t) : TurnAt K H' v t := by
  obtain ⟨p, q, h1, h2, h3⟩ := h
  exact ⟨p, q, h1, e _ _ h2, h3.mono e⟩
theorem turns_mono {K : PySem.W.Frag} {H H' : Hp} {vs : List V} {ts : List (Int × Int × Int)} (e : Same H H') (h : TurnsAt K H vs ts) : TurnsAt K H' vs ts := AllAt.imp (fun _ _ => TurnAt.mono e) h
theorem SpanAt.updL {K : PySem.W.Frag} {H : Hp} {l : Addr} {o : HO} {zs : List V} {v : V} {s : Int × Int} (hl : H l = some (.lst zs)) (h : SpanAt K H v s) : SpanAt K (upd H l o) v s := by
  obtain ⟨a, dx, h1, h2⟩ := h
  exact ⟨a, dx, h1, by rw [upd_ne (ne_of h2 hl (by intro z; cases z))]; exact h2⟩
theorem turns_updL {K : PySem.W.Frag} {H : Hp} {l : Addr} {o : HO} {zs : List V} {vs : List V} {ts : List (Int × Int × Int)} (hl : H l = some (.lst zs)) (h : TurnsAt K H vs ts) : TurnsAt K (upd H l o) vs ts :=
  AllAt.imp (fun v t ⟨p, q, h1, h2, h3⟩ => ⟨p, q, h1, by rw [upd_ne (ne_of h2 hl (by intro z; cases z))]; exact h2, h3.updL hl⟩) h
def deadOf (r ds : List Int) (s b : Int) : List Int := ((turnsOf r ds s b).filter fun t => decide (t.2.2 = dayOf ds t.1)).map fun t => t.1
/-- what is true of each turn -/
theorem turns_ok {ds : List Int} {s b : Int} (h0 : 0 ≤ s) (hb : b ≤ 10000) : ∀ r : List Int, ∀ t ∈ (turnsS r ds s b).1, SpanOk t.2 ∧ t.1 ∈ r := by
  intro r
  refine snoc_ind (P := fun r => ∀ t ∈ (turnsS r ds s b).1, SpanOk t.2 ∧ t.1 ∈ r) (fun t ht => by cases ht) (fun r x ih => ?_) r
  · intro t ht
    have g := turnsS_ge ds s b r
    rw [turnsS_snoc] at ht
    unfold stepT at ht
    split at ht
    · rename_i c
      rcases List.mem_append.mp ht with ht | ht
      · exact ⟨(ih t ht).1, List.mem_append_left _ (ih t ht).2⟩
      · rw [List.mem_singleton.mp ht]
        exact ⟨⟨by show 0 ≤ (turnsS r ds s b).2; omega, c, by show min (dayOf ds x) b ≤ 10000; omega⟩, List.mem_append_right _ (List.mem_singleton.mpr rfl)⟩
    · exact ⟨(ih t ht).1, List.mem_append_left _ (ih t ht).2⟩
theorem TurnAt.len {K : PySem.W.Frag} {H : Hp} {vs : List V} {ts : List (Int × Int × Int)} (h : TurnsAt K H vs ts) : vs.length = ts.length := AllAt.length h
end LH
namespace LH
open PySem PySem.Spec PyProof.Rows L2
theorem ty_list {K : PySem.W.Frag} {H : Hp} {a : Addr} {xs : List V} (h : SqL K H a xs) : TyX K H (.ref a) (.type "list") := by
  rcases h with (h | ⟨o, h⟩) | ⟨o, its, n, h1, h2, _⟩
  · exact .base (.lst h)
  · exact .base (.frz h)
  · exact .kList h1 h2
theorem ty_tup {K : PySem.W.Frag} {H : Hp} {a : Addr} {xs : List V} (h : SqT K H a xs) : TyX K H (.ref a) (.type "tuple") := by
  rcases h with (h | ⟨o, h⟩) | ⟨o, its, n, h1, h2, _⟩
  · exact .base (.tup h)
  · exact .fTuple h
  · exact .kTuple h1 h2
theorem kit_list {K : PySem.W.Frag} : PySem.W.kitOne K (.type "list") (.type "list") = some true := kit_ty (by decide +kernel)
theorem kit_tuple {K : PySem.W.Frag} : PySem.W.kitOne K (.type "tuple") (.type "tuple") = some true := kit_ty (by decide +kernel)
end LH
namespace LH
open PySem PySem.Spec PyProof.Rows L2
theorem turns_seen {ds : List Int} {s b : Int} (r : List Int) : ∀ l ∈ r, min (dayOf ds l) b ≤ (turnsS r ds s b).2 := by
  refine snoc_ind (P := fun r => ∀ l ∈ r, min (dayOf ds l) b ≤ (turnsS r ds s b).2) (fun l hl => by cases hl) (fun r x ih => ?_) r
  intro l hl
  rw [turnsS_snoc]
  unfold stepT
  rcases List.mem_append.mp hl with hl | hl
  · have := ih l hl
    split
    · show min (dayOf ds l) b ≤ min (dayOf ds x) b
      omega
    · exact this
  · rw [List.mem_singleton.mp hl]
    split
    · exact Int.le_refl _
    · omega
def hereOf (ts : List (Int × Int × Int)) (s : Int) : Int := (ts.getLast?.map fun t => t.2.2).getD s
theorem hereOf_snoc (ts : List (Int × Int × Int)) (t : Int × Int × Int) (s : Int) : hereOf (ts ++ [t]) s = t.2.2 := by
  unfold hereOf
  rw [List.getLast?_append]
  rfl
theorem turns_here {ds : List Int} {s b : Int} (r : List Int) : (turnsS r ds s b).2 = hereOf (turnsS r ds s b).1 s := by
  refine snoc_ind (P := fun r => (turnsS r ds s b).2 = hereOf (turnsS r ds s b).1 s) rfl (fun r x ih => ?_) r
  rw [turnsS_snoc]
  unfold stepT
  split
  · rw [hereOf_snoc]
  · exact ih
theorem turns_next {ds : List Int} {s b : Int} (r : List Int) : ∀ (i : Nat) (t : Int × Int × Int), (turnsS r ds s b).1[i]? = some t → t.2.1 = hereOf ((turnsS r ds s b).1.take i) s := by
  refine snoc_ind (P := fun r => ∀ (i : Nat) (t : Int × Int × Int), (turnsS r ds s b).1[i]? = some t → t.2.1 = hereOf ((turnsS r ds s b).1.take i) s) (fun i t h => by simp [turnsS] at h) (fun r x ih => ?_) r
  intro i t h
  have hh := turns_here (ds := ds) (s := s) (b := b) r
  rw [turnsS_snoc] at h ⊢
  unfold stepT at h ⊢
  split at h
  · rename_i c
    rw [if_pos c]
    rcases Nat.lt_or_ge i (turnsS r ds s b).1.length with h1 | h1
    · rw [List.getElem?_append_left h1] at h
      rw [List.take_append_of_le_length (Nat.le_of_lt h1)]
      exact ih i t h
    · rw [List.getElem?_append_right h1] at h
      have e : i - (turnsS r ds s b).1.length = 0 := by
        rcases Nat.eq_zero_or_pos (i - (turnsS r ds s b).1.length) with z | z
        · exact z
        · rw [List.getElem?_eq_none (by simp; omega)] at h
          cases h
      rw [e] at h
      cases h
      have e2 : i = (turnsS r ds s b).1.length := by omega
      rw [e2, List.take_left']
      · exact hh
      · rfl
  · rename_i c
    rw [if_neg c]
    exact ih i t h
theorem turns_find {ds : List Int} {s b : Int} (r : List Int) : ∀ t ∈ (turnsS r ds s b).1, (∀ d, t.2.1 ≤ d → d < t.2.2 → (r.find? fun l => decide (d < dayOf ds l)) = some t.1) ∧ (t.2.2 < b → dayOf ds t.1 = t.2.2) := by
  refine snoc_ind (P := fun r => ∀ t ∈ (turnsS r ds s b).1, (∀ d, t.2.1 ≤ d → d < t.2.2 → (r.find? fun l => decide (d < dayOf ds l)) = some t.1) ∧ (t.2.2 < b → dayOf ds t.1 = t.2.2)) (fun t h => by cases h) (fun r x ih => ?_) r
  intro t ht
  have seen := turns_seen (ds := ds) (s := s) (b := b) r
  rw [turnsS_snoc] at ht
  unfold stepT at ht
  have old : t ∈ (turnsS r ds s b).1 → (∀ d, t.2.1 ≤ d → d < t.2.2 → ((r ++ [x]).find? fun l => decide (d < dayOf ds l)) = some t.1) ∧ (t.2.2 < b → dayOf ds t.1 = t.2.2) := fun ht => by
    refine ⟨fun d h1 h2 => ?_, (ih t ht).2⟩
    rw [List.find?_append, (ih t ht).1 d h1 h2]
    rfl
  split at ht
  · rename_i c
    rcases List.mem_append.mp ht with ht | ht
    · exact old ht
    · rw [List.mem_singleton.mp ht]
      refine ⟨fun d h1 h2 => ?_, fun h => ?_⟩
      · have h1 : (turnsS r ds s b).2 ≤ d := h1
        have h2 : d < min (dayOf ds x) b := h2
        have no : (r.find? fun l => decide (d < dayOf ds l)) = none := by
          rw [List.find?_eq_none]
          intro l hl
          have := seen l hl
          have : ¬ d < dayOf ds l := by omega
          simpa using this
        rw [List.find?_append, no]
        have : d < dayOf ds x := by omega
        simp [this]
      · show dayOf ds x = min (dayOf ds x) b
        have h : min (dayOf ds x) b < b := h
        omega
  · exact old ht
theorem turns_holder {ds : List Int} {s b : Int} (r : List Int) {t : Int × Int × Int} (ht : t ∈ (turnsS r ds s b).1) {d : Int} (h1 : t.2.1 ≤ d) (h2 : d < t.2.2) : holderOf r ds d = t.1 := by
  unfold holderOf
  rw [((turns_find r t ht).1 d h1 h2)]
  rfl
theorem holder_day {r ds : List Int} {d x : Int} (h : holderOf r ds d = x) (h0 : 0 ≤ x) : d < dayOf ds x := by
  unfold holderOf at h
  cases e : r.find? fun l => decide (d < dayOf ds l) with
  | none =>
    rw [e] at h
    have h : (-1 : Int) = x := h
    omega
  | some y =>
    rw [e] at h
    have h : y = x := h
    subst h
    have := List.find?_some e
    simpa using this
theorem turns_end {ds : List Int} {s b : Int} (r : List Int) (h : (turnsS r ds s b).2 < b) : holderOf r ds (turnsS r ds s b).2 = -1 := by
  refine holder_none fun j y hy => ?_
  have := turns_seen (ds := ds) (s := s) (b := b) r y (List.mem_of_getElem? hy)
  omega
theorem turns_ranks {ds : List Int} {s b : Int} (r : List Int) : r.Nodup → ((turnsS r ds s b).1.map fun t => (r.idxOf t.1 : Int)).Pairwise (· < ·) := by
  refine snoc_ind (P := fun r => r.Nodup → ((turnsS r ds s b).1.map fun t => (r.idxOf t.1 : Int)).Pairwise (· < ·)) (fun _ => List.Pairwise.nil) (fun r x ih => ?_) r
  intro nd
  have n1 := (List.nodup_append.mp nd).1
  have nx : x ∉ r := fun z => (List.nodup_append.mp nd).2.2 x z x (List.mem_singleton.mpr rfl) rfl
  have mem : ∀ t ∈ (turnsS r ds s b).1, t.1 ∈ r := fun t ht => by
    obtain ⟨h1, h2⟩ := (snoc_ind (P := fun r => ∀ t ∈ (turnsS r ds s b).1, t.1 ∈ r ∧ True) (fun t h => by cases h) (fun r x ih t ht => by
      rw [turnsS_snoc] at ht
      unfold stepT at ht
      split at ht
      · rcases List.mem_append.mp ht with ht | ht
        · exact ⟨List.mem_append_left _ (ih t ht).1, trivial⟩
        · rw [List.mem_singleton.mp ht]
          exact ⟨List.mem_append_right _ (List.mem_singleton.mpr rfl), trivial⟩
      · exact ⟨List.mem_append_left _ (ih t ht).1, trivial⟩) r) t ht
    exact h1
  have old : ((turnsS r ds s b).1.map fun t => ((r ++ [x]).idxOf t.1 : Int)) = (turnsS r ds s b).1.map fun t => (r.idxOf t.1 : Int) := List.map_congr_left fun t ht => by
    rw [List.idxOf_append, if_pos (mem t ht)]
  rw [turnsS_snoc]
  unfold stepT
  split
  · rw [List.map_append, old, List.pairwise_append]
    refine ⟨ih n1, by simp, fun a ha c hc => ?_⟩
    obtain ⟨t, ht, rfl⟩ := List.mem_map.mp ha
    have hc := List.mem_singleton.mp hc
    rw [hc]
    have h1 := List.idxOf_lt_length_iff.mpr (mem t ht)
    show (r.idxOf t.1 : Int) < ((r ++ [x]).idxOf x : Int)
    rw [List.idxOf_append, if_neg nx]
    omega
  · rw [old]
    exact ih n1
theorem turns_sum {ds : List Int} {s b : Int} (r : List Int) : ((turnsS r ds s b).1.map fun t => (((t.2.2 - t.2.1).toNat : Nat) : Int)).sum = (turnsS r ds s b).2 - s := by
  refine snoc_ind (P := fun r => ((turnsS r ds s b).1.map fun t => (((t.2.2 - t.2.1).toNat : Nat) : Int)).sum = (turnsS r ds s b).2 - s) (by simp [turnsS]) (fun r x ih => ?_) r
  rw [turnsS_snoc]
  unfold stepT
  split
  · rw [List.map_append, List.sum_append, ih]
    show _ + List.sum [(((min (dayOf ds x) b - (turnsS r ds s b).2).toNat : Nat) : Int)] = min (dayOf ds x) b - s
    simp only [List.sum_cons, List.sum_nil]
    omega
  · exact ih
end LH
namespace LH
theorem sum_nats (ts : List (Int × Int × Int)) : 0 ≤ (ts.map fun t => (((t.2.2 - t.2.1).toNat : Nat) : Int)).sum := by
  induction ts with
  | nil => exact Int.le_refl _
  | cons t ts ih =>
    rw [List.map_cons, List.sum_cons]
    omega
end LH
namespace LH
open PySem PySem.Spec PyProof.Rows L2
open Classical in
noncomputable def dueW (door : Int) (r ds : List Int) (s : Int) (o : Option Int) : Str :=
  if ¬ CountOk (ds.length : Int) then "BadCount" else if ¬ DaysOk ds then "BadDay" else if ¬ RowOk (ds.length : Int) r then "BadRow" else
    if door = 0 then (if ¬ DayOk s then "BadDay" else "") else if ¬ RunOk s o then "BadDay" else ""
end LH

set_option Elab.async false
set_option linter.all false
set_option maxRecDepth 100000
set_option maxHeartbeats 4000000
namespace K19
open PySem PySem.Spec PyProof.Rows L2 LH
def top (i : Nat) : Stmt := PySem.Challenge.pw_lifehold_k19_rows_days_and_runs_refused.main.body.getD i (.Pass ⟨0, 0, 0, 0⟩)
abbrev s_is_day : Stmt := top 25
abbrev N_is_day : List Str := ["number"]
abbrev s_check_count : Stmt := top 29
abbrev N_check_count : List Str := ["many"]
abbrev s_check_day : Stmt := top 33
abbrev N_check_day : List Str := ["day"]
abbrev s_check_unlike : Stmt := top 34
abbrev N_check_unlike : List Str := ["row"]
abbrev s_check_row : Stmt := top 35
abbrev N_check_row : List Str := ["many", "row", "life"]
abbrev s_check_run : Stmt := top 36
abbrev N_check_run : List Str := ["start", "end"]
abbrev s_check_way : Stmt := top 37
abbrev N_check_way : List Str := ["days", "day"]
abbrev s_holder : Stmt := top 38
abbrev N_holder : List Str := ["row", "days", "day", "life"]
abbrev s_turns : Stmt := top 39
abbrev N_turns : List Str := ["row", "days", "start", "end", "below", "told", "first", "life", "until"]
abbrev s_in_holding : Stmt := top 40
abbrev N_in_holding : List Str := ["row", "days", "start", "end", "life", "span"]
abbrev s_lkin : Stmt := top 42
abbrev N_lkin : List Str := ["_law_e", "_law_found", "_law_words", "_law_word_here", "_law_kin_here"]
abbrev s_lmix : Stmt := top 43
abbrev N_lmix : List Str := ["_law_seed", "_law_one", "_law_two"]
abbrev s_lraw : Stmt := top 44
abbrev N_lraw : List Str := ["_law_script", "_law_k", "_law_cell", "_law_found", "_law_turn"]
abbrev s_ldigits : Stmt := top 45
abbrev N_ldigits : List Str := ["_law_script", "_law_k", "_law_sizes", "_law_rest", "_law_found", "_law_size"]
abbrev s_ldays : Stmt := top 46
abbrev N_ldays : List Str := ["_law_script", "_law_k", "_law_many", "_law_near", "_law_days_here", "_law_day"]
abbrev s_lrow : Stmt := top 47
abbrev N_lrow : List Str := ["_law_script", "_law_k", "_law_many", "_law_places", "_law_left", "_law_found", "_law_place"]
abbrev s_lrun : Stmt := top 48
abbrev N_lrun : List Str := ["_law_script", "_law_k", "_law_days_here", "_law_near", "_law_at", "_law_shift", "_law_wide", "_law_way", "_law_begin", "_law_stop"]
abbrev s_lfar : Stmt := top 49
abbrev N_lfar : List Str := ["_law_number", "_law_way"]
abbrev s_lword : Stmt := top 50
abbrev N_lword : List Str := ["_law_door", "_law_row_here", "_law_days_here", "_law_day", "_law_stop", "_law_word_here", "_law_e"]
abbrev s_ldue : Stmt := top 51
abbrev N_ldue : List Str := ["_law_door", "_law_row_here", "_law_days_here", "_law_day", "_law_stop", "_law_one"]
abbrev s_law : Stmt := top 52
abbrev N_law : List Str := ["_law_script", "_law_k", "_law_days_here", "_law_row_here", "_law_day", "_law_stop", "_law_spoilt", "_law_far_here", "_law_side", "_law_at", "_law_more", "_law_odd", "_law_handed", "_law_door"]
abbrev s_Span___init__ : Stmt := inClass (top 26) 0
abbrev N_Span___init__ : List Str := ["self", "first", "until"]
structure Txt (K : PySem.W.Frag) (mg : Str → Option Value) : Prop where
  n_LookupError : mg "LookupError" = none
  n_ValueError : mg "ValueError" = none
  n_all : mg "all" = none
  n_isinstance : mg "isinstance" = none
  n_len : mg "len" = none
  n_list : mg "list" = none
  n_max : mg "max" = none
  n_min : mg "min" = none
  n_range : mg "range" = none
  n_set : mg "set" = none
  n_zip : mg "zip" = none
  c_LAST_DAY : ∃ t, mg "LAST_DAY" = some (.int (9999) t)
  c_MOST_IN_ROW : ∃ t, mg "MOST_IN_ROW" = some (.int (4) t)
  c_MOST_LIVES : ∃ t, mg "MOST_LIVES" = some (.int (10) t)
  c_NOBODY : ∃ t, mg "NOBODY" = some (.int (-1) t)
  g_Against : mg "Against" = some (.ref (He.ga K "Against"))
  g_BadCount : mg "BadCount" = some (.ref (He.ga K "BadCount"))
  g_BadDay : mg "BadDay" = some (.ref (He.ga K "BadDay"))
  g_BadName : mg "BadName" = some (.ref (He.ga K "BadName"))
  g_BadRow : mg "BadRow" = some (.ref (He.ga K "BadRow"))
  g_BadText : mg "BadText" = some (.ref (He.ga K "BadText"))
  g_BadTie : mg "BadTie" = some (.ref (He.ga K "BadTie"))
  g_CantBe : mg "CantBe" = some (.ref (He.ga K "CantBe"))
  g_Full : mg "Full" = some (.ref (He.ga K "Full"))
  g_GivenUp : mg "GivenUp" = some (.ref (He.ga K "GivenUp"))
  g_Held : mg "Held" = some (.ref (He.ga K "Held"))
  g_HoldError : mg "HoldError" = some (.ref (He.ga K "HoldError"))
  g_Idle : mg "Idle" = some (.ref (He.ga K "Idle"))
  g_NoHolding : mg "NoHolding" = some (.ref (He.ga K "NoHolding"))
  g_NoLife : mg "NoLife" = some (.ref (He.ga K "NoLife"))
  g_NoPlace : mg "NoPlace" = some (.ref (He.ga K "NoPlace"))
  g_NoPresentment : mg "NoPresentment" = some (.ref (He.ga K "NoPresentment"))
  g_Nothing : mg "Nothing" = some (.ref (He.ga K "Nothing"))
  g_Span : mg "Span" = some (.ref (He.ga K "Span"))
  g_Taken : mg "Taken" = some (.ref (He.ga K "Taken"))
  g_Twice : mg "Twice" = some (.ref (He.ga K "Twice"))
  e_BadCount : ErrF K "BadCount" false
  e_BadDay : ErrF K "BadDay" false
  e_BadRow : ErrF K "BadRow" false
  f_Span : SpanF K

section
variable {P : Program} {w : World} {K : PySem.W.Frag} {mg : Str → Option Value} {base : Heap}
theorem sc_is_day : FnScope N_is_day ["number"] (defScope s_is_day) := ⟨rfl, rfl, rfl, by decide +kernel, rfl, by decide +kernel, by decide +kernel⟩
def sp_is_day : Sp := fun vs H Q _ => ∃ n : Int, vs = [.int n] ∧ Q (.bl (decide (0 ≤ n ∧ n ≤ 9999))) H
theorem ok_is_day {f : Addr} {fd : FuncData} (F : FnP K "is_day" s_is_day f fd) (T : Txt K mg) : FnOk P w K mg base CX0 1 f fd ["number"] (sp_is_day) := by
  refine F.ok sc_is_day (fun vs H Q E h => ?_) (fun cdv A outer s H vs Q E hr h => ?_)
  · obtain ⟨n, rfl, _⟩ := h
    rfl
  · obtain ⟨n, rfl, k⟩ := h
    refine ⟨_, PSs.nox (pss_one (ps_ret (pe_chain op_le op_le pe_int (pv 0) (pe_const T.c_LAST_DAY)))), ?_⟩
    refine ⟨_, rfl, _, _, rfl, rfl, _, rfl, ?_⟩
    refine ite2 (fun c1 => ?_) (fun c1 => ?_)
    · have c1 := of_decide_eq_true c1
      refine ⟨_, _, rfl, rfl, ?_⟩
      have e : decide (0 ≤ n ∧ n ≤ 9999) = decide (n ≤ 9999) := by simp [c1]
      rw [e] at k
      exact k
    · have e : decide (0 ≤ n ∧ n ≤ 9999) = false := decide_eq_false (fun z => c1 (decide_eq_true z.1))
      rw [e] at k
      exact k

theorem sc_check_count : FnScope N_check_count ["many"] (defScope s_check_count) := ⟨rfl, rfl, rfl, by decide +kernel, rfl, by decide +kernel, by decide +kernel⟩
def sp_check_count (K : PySem.W.Frag) : Sp := fun vs H Q E => ∃ m : Int, vs = [.int m] ∧ Ways (CountOk m) (Q .non H) (E (.ref (He.ga K "BadCount")) none H)
theorem ok_check_count {f : Addr} {fd : FuncData} (F : FnP K "check_count" s_check_count f fd) (T : Txt K mg) : FnOk P w K mg base (L2N.CX P w) 1 f fd ["many"] (sp_check_count K) := by
  refine F.ok sc_check_count (fun vs H Q E h => ?_) (fun cdv A outer s H vs Q E hr h => ?_)
  · obtain ⟨m, rfl, _⟩ := h
    rfl
  · obtain ⟨m, rfl, k1, k2⟩ := h
    refine ⟨_, (pss_one (ps_if (pt_not (pt_chain op_le op_le pe_int (pv 0) (pe_const T.c_MOST_LIVES))) (pss_one (rise T.e_BadCount.w T.g_BadCount rfl (L2N.takes_of rfl rfl rfl rfl))) pss_nil)), ?_⟩
    refine ⟨_, rfl, _, _, rfl, rfl, _, rfl, ?_⟩
    refine ite2 (fun c1 => ?_) (fun c1 => ⟨_, rfl, iteT (k2 fun z => c1 (decide_eq_true z.1))⟩)
    refine ⟨_, _, rfl, rfl, _, rfl, ?_⟩
    by_cases c2 : m ≤ 10
    · rw [decide_eq_true c2]
      exact iteF (k1 ⟨of_decide_eq_true c1, c2⟩)
    · rw [decide_eq_false c2]
      exact iteT (k2 fun z => c2 z.2)

theorem sc_check_day : FnScope N_check_day ["day"] (defScope s_check_day) := ⟨rfl, rfl, rfl, by decide +kernel, rfl, by decide +kernel, by decide +kernel⟩
def sp_check_day (K : PySem.W.Frag) : Sp := fun vs H Q E => ∃ d : Int, vs = [.int d] ∧ Ways (DayOk d) (Q .non H) (E (.ref (He.ga K "BadDay")) none H)
theorem ok_check_day {f : Addr} {fd : FuncData} (F : FnP K "check_day" s_check_day f fd) (T : Txt K mg) (C_is_day : Own P w K mg base "is_day" ["number"] 1 (sp_is_day)) : FnOk P w K mg base (L2N.CX P w) 2 f fd ["day"] (sp_check_day K) := by
  refine F.ok sc_check_day (fun vs H Q E h => ?_) (fun cdv A outer s H vs Q E hr h => ?_)
  · obtain ⟨d, rfl, _⟩ := h
    rfl
  · obtain ⟨d, rfl, k1, k2⟩ := h
    refine ⟨_, (pss_one (ps_if (pt_not (pt_val (pe_own C_is_day (hr.mono (by omega)) (pa_cons (pv 0) pa_nil)))) (pss_one (rise T.e_BadDay.w T.g_BadDay rfl (L2N.takes_of rfl rfl rfl rfl))) pss_nil)), ?_⟩
    refine ⟨_, rfl, d, rfl, _, rfl, ?_⟩
    by_cases c : 0 ≤ d ∧ d ≤ 9999
    · rw [decide_eq_true c]
      exact iteF (k1 c)
    · rw [decide_eq_false c]
      exact iteT (k2 c)

theorem sc_check_unlike : FnScope N_check_unlike ["row"] (defScope s_check_unlike) := ⟨rfl, rfl, rfl, by decide +kernel, rfl, by decide +kernel, by decide +kernel⟩
def sp_check_unlike (K : PySem.W.Frag) : Sp := fun vs H Q E => ∃ (a : Addr) (r : List Int), vs = [.ref a] ∧ SqL K H a (r.map V.int) ∧ r.length ≤ 1000 ∧ Ways (UnlikeOk r) (Q .non H) (E (.ref (He.ga K "BadRow")) none H)
theorem ok_check_unlike {f : Addr} {fd : FuncData} (F : FnP K "check_unlike" s_check_unlike f fd) (T : Txt K mg) : FnOk P w K mg base (L2N.CX P w) 1 f fd ["row"] (sp_check_unlike K) := by
  refine F.ok sc_check_unlike (fun vs H Q E h => ?_) (fun cdv A outer s H vs Q E hr h => ?_)
  · obtain ⟨a, r, rfl, _⟩ := h
    rfl
  · obtain ⟨a, r, rfl, hS, hl, k1, k2⟩ := h
    refine ⟨_, (pss_one (ps_if (PW.pt (pw_or (pt_not (pt_chain op_le op_le pe_int (pe_callB (lenK K) (by rfl) T.n_len (by decide +kernel) (pa_cons (pv 0) pa_nil)) (pe_const T.c_MOST_IN_ROW))) (pw_or1 (pt_cmpR op_ne (pe_lenSetG K (by rfl) T.n_len (by rfl) T.n_set (pv 0)) (pe_callB (lenK K) (by rfl) T.n_len (by decide +kernel) (pa_cons (pv 0) pa_nil)) (nomark _))))) (pss_one (rise T.e_BadRow.w T.g_BadRow rfl (L2N.takes_of rfl rfl rfl rfl))) pss_nil)), ?_⟩
    have e : ((r.map V.int).length : Int) = (r.length : Int) := by rw [List.length_map]
    refine ⟨_, rfl, _, _, rfl, .inl hS, _, _, rfl, rfl, _, rfl, ?_⟩
    rw [e]
    by_cases c1 : 1 ≤ (r.length : Int)
    · refine iteD c1 ⟨_, _, rfl, rfl, _, rfl, ?_⟩
      by_cases c2 : (r.length : Int) ≤ 4
      · rw [decide_eq_true c2]
        refine iteF ?_
        refine ⟨_, rfl, a, r, rfl, hS, by omega, _, rfl, _, _, rfl, .inl hS, rfl, _, rfl, ?_⟩
        rw [e]
        by_cases c3 : r.Nodup
        · rw [decide_eq_true (show V.int (dedN r : Nat) = V.int (r.length : Int) by rw [(dedN_iff r).mpr c3])]
          exact iteF (k1 ⟨by omega, by omega, c3⟩)
        · rw [decide_eq_false (show ¬ V.int (dedN r : Nat) = V.int (r.length : Int) from fun z => c3 ((dedN_iff r).mp (by injection z; omega)))]
          exact iteT (k2 fun z => c3 z.2.2)
      · rw [decide_eq_false c2]
        exact iteT (k2 fun z => c2 (by have := z.2.1; omega))
    · exact iteDF c1 ⟨_, rfl, iteT (k2 fun z => c1 (by have := z.1; omega))⟩

theorem sc_check_row : FnScope N_check_row ["many", "row"] (defScope s_check_row) := ⟨rfl, rfl, rfl, by decide +kernel, rfl, by decide +kernel, by decide +kernel⟩
def sp_check_row (K : PySem.W.Frag) : Sp := fun vs H Q E => ∃ (m : Int) (a : Addr) (r : List Int), vs = [.int m, .ref a] ∧ SqL K H a (r.map V.int) ∧ r.length ≤ 1000 ∧ Ways (RowOk m r) (Q .non H) (E (.ref (He.ga K "BadRow")) none H)
theorem ok_check_row {f : Addr} {fd : FuncData} (F : FnP K "check_row" s_check_row f fd) (T : Txt K mg) (C_check_unlike : OwnX P w K mg base "check_unlike" ["row"] 1 (sp_check_unlike K)) : FnOk P w K mg base (L2N.CX P w) 2 f fd ["many", "row"] (sp_check_row K) := by
  refine F.ok sc_check_row (fun vs H Q E h => ?_) (fun cdv A outer s H vs Q E hr h => ?_)
  · obtain ⟨m, a, r, rfl, _⟩ := h
    rfl
  · obtain ⟨m, a, r, rfl, hS, hl, k1, k2⟩ := h
    refine ⟨_, (pss_cons (ps_expr (pe_ownX C_check_unlike (hr.mono (by omega)) (L2N.takes_of rfl rfl rfl rfl) (pa_cons (pv 1) pa_nil)))
          (pss_one (ps_for (passes_of rfl) rfl (pilK K (pv 1)) (pg_name (i := 2) sc_check_row.nd rfl (Or.inl rfl))
            (pss_one (ps_if (pt_not (pt_chain op_le op_lt pe_int (pv 2) (pv 0))) (pss_one (rise T.e_BadRow.w T.g_BadRow rfl (L2N.takes_of rfl rfl rfl rfl))) pss_nil))))), ?_⟩
    refine ⟨_, rfl, a, r, rfl, hS, hl, .or (fun un => ?_) (fun no => k2 fun z => no z.1)⟩
    refine ⟨_, rfl, a, rfl, ⟨_, hS⟩, for_list (K := K) (a := a) (xs := r.map V.int) (fun i σ H1 => (∃ v, σ = [some (.int m), some (.ref a), v]) ∧ H1 = H ∧ ∀ j, j < i → ∀ x, r[j]? = some x → 0 ≤ x ∧ x < m) ⟨⟨none, rfl⟩, rfl, fun j z => absurd z (Nat.not_lt_zero j)⟩ (fun i σ H1 _ ⟨_, e, _⟩ => by rw [e]; exact hS) ?_ ?_⟩
    · rintro i y σ H1 hi ⟨⟨v, rfl⟩, rfl, ok⟩
      obtain ⟨x, hx, rfl⟩ := get_ints hi
      have nx : 0 ≤ x ∧ x < m → ∀ j, j < i + 1 → ∀ y, r[j]? = some y → 0 ≤ y ∧ y < m := fun c j hj y hy => by
        rcases Nat.lt_succ_iff_lt_or_eq.mp hj with q | q
        · exact ok j q y hy
        · rw [q, hx] at hy
          cases hy
          exact c
      refine ⟨_, rfl, _, _, rfl, rfl, _, rfl, ?_⟩
      by_cases c1 : 0 ≤ x
      · refine iteD c1 ⟨_, rfl, _, _, rfl, rfl, _, rfl, ?_⟩
        by_cases c2 : x < m
        · rw [decide_eq_true c2]
          exact iteF ⟨⟨_, rfl⟩, rfl, nx ⟨c1, c2⟩⟩
        · rw [decide_eq_false c2]
          exact iteT (k2 fun z => c2 (z.2 x (List.mem_of_getElem? hx)).2)
      · exact iteDF c1 ⟨_, rfl, iteT (k2 fun z => c1 (z.2 x (List.mem_of_getElem? hx)).1)⟩
    · rintro σ H1 ⟨⟨v, rfl⟩, rfl, ok⟩
      refine k1 ⟨un, fun x hx => ?_⟩
      obtain ⟨j, hj, e⟩ := List.mem_iff_getElem.mp hx
      exact ok j (by rw [List.length_map]; omega) x (by rw [List.getElem?_eq_getElem hj, e])

theorem sc_check_run : FnScope N_check_run ["start", "end"] (defScope s_check_run) := ⟨rfl, rfl, rfl, by decide +kernel, rfl, by decide +kernel, by decide +kernel⟩
def sp_check_run (K : PySem.W.Frag) : Sp := fun vs H Q E => ∃ (s : Int) (o : Option Int), vs = [.int s, optV o] ∧ Ways (RunOk s o) (Q (.int (belowOf o)) H) (E (.ref (He.ga K "BadDay")) none H)
theorem ok_check_run {f : Addr} {fd : FuncData} (F : FnP K "check_run" s_check_run f fd) (T : Txt K mg) (C_check_day : OwnX P w K mg base "check_day" ["day"] 2 (sp_check_day K)) : FnOk P w K mg base (L2N.CX P w) 3 f fd ["start", "end"] (sp_check_run K) := by
  refine F.ok sc_check_run (fun vs H Q E h => ?_) (fun cdv A outer s H vs Q E hr h => ?_)
  · obtain ⟨s, o, rfl, _⟩ := h
    rfl
  · obtain ⟨s, o, rfl, k1, k2⟩ := h
    refine ⟨_, (pss_cons (ps_expr (pe_ownX C_check_day (hr.mono (by omega)) (L2N.takes_of rfl rfl rfl rfl) (pa_cons (pv 0) pa_nil)))
          (C8.pss_cut (ps_if (pt_cmpR op_isN (pv 1) pe_non (nomark _)) (pss_one (ps_ret (pe_op op_add (pe_const T.c_LAST_DAY) pe_int))) pss_nil)
          (C8.pss_cut (ps_if (pt_not (pt_chain op_lt op_le (pv 0) (pv 1) (pe_op op_add (pe_const T.c_LAST_DAY) pe_int))) (pss_one (rise T.e_BadDay.w T.g_BadDay rfl (L2N.takes_of rfl rfl rfl rfl))) pss_nil)
          (pss_one (ps_ret (pv 1)))))), ?_⟩
    refine ⟨_, rfl, s, rfl, .or (fun hd => ?_) (fun no => k2 fun z => no z.1)⟩
    refine ⟨fun σ H1 => σ = [some (.int s), some (optV o)] ∧ H1 = H ∧ ∃ e, o = some e, ?_, ?_⟩
    · refine ⟨_, rfl, rfl, _, rfl, ?_⟩
      cases o with
      | none => exact iteD rfl ⟨_, _, rfl, rfl, k1 ⟨hd, fun e z => by cases z⟩⟩
      | some e => exact iteDF (by intro z; cases z) ⟨rfl, rfl, e, rfl⟩
    rintro σ H1 ⟨rfl, rfl, e, rfl⟩
    refine ⟨fun σ H2 => σ = [some (.int s), some (.int e)] ∧ H2 = H1 ∧ s < e ∧ e ≤ 10000, ?_, ?_⟩
    · refine ⟨_, rfl, _, rfl, _, _, rfl, rfl, _, rfl, ?_⟩
      by_cases c1 : s < e
      · refine iteD c1 ⟨_, _, rfl, rfl, _, _, rfl, rfl, _, rfl, ?_⟩
        by_cases c2 : e ≤ 9999 + 1
        · rw [decide_eq_true c2]
          exact iteF ⟨rfl, rfl, c1, c2⟩
        · rw [decide_eq_false c2]
          exact iteT (k2 fun z => c2 (z.2 e rfl).2)
      · exact iteDF c1 ⟨_, rfl, iteT (k2 fun z => c1 (z.2 e rfl).1)⟩
    · rintro σ H2 ⟨rfl, rfl, c1, c2⟩
      exact ⟨_, rfl, k1 ⟨hd, fun x z => by cases z; exact ⟨c1, c2⟩⟩⟩

theorem sc_check_way : FnScope N_check_way ["days"] (defScope s_check_way) := ⟨rfl, rfl, rfl, by decide +kernel, rfl, by decide +kernel, by decide +kernel⟩
def sp_check_way (K : PySem.W.Frag) : Sp := fun vs H Q E => ∃ (a : Addr) (ds : List Int), vs = [.ref a] ∧ SqL K H a (ds.map V.int) ∧ Ways (CountOk (ds.length : Int)) (Ways (DaysOk ds) (Q .non H) (E (.ref (He.ga K "BadDay")) none H)) (E (.ref (He.ga K "BadCount")) none H)
theorem ok_check_way {f : Addr} {fd : FuncData} (F : FnP K "check_way" s_check_way f fd) (T : Txt K mg) (C_check_count : OwnX P w K mg base "check_count" ["many"] 1 (sp_check_count K)) (C_check_day : OwnX P w K mg base "check_day" ["day"] 2 (sp_check_day K)) : FnOk P w K mg base (L2N.CX P w) 3 f fd ["days"] (sp_check_way K) := by
  refine F.ok sc_check_way (fun vs H Q E h => ?_) (fun cdv A outer s H vs Q E hr h => ?_)
  · obtain ⟨a, ds, rfl, _⟩ := h
    rfl
  · obtain ⟨a, ds, rfl, hS, k1, k2⟩ := h
    refine ⟨_, (pss_cons (ps_expr (pe_ownX C_check_count (hr.mono (by omega)) (L2N.takes_of rfl rfl rfl rfl) (pa_cons (pe_callB (lenK K) (by rfl) T.n_len (by decide +kernel) (pa_cons (pv 0) pa_nil)) pa_nil)))
          (pss_one (ps_for (passes_of rfl) rfl (pilK K (pv 0)) (pg_name (i := 1) sc_check_way.nd rfl (Or.inl rfl))
            (pss_one (ps_expr (pe_ownX C_check_day (hr.mono (by omega)) (L2N.takes_of rfl rfl rfl rfl) (pa_cons (pv 1) pa_nil))))))), ?_⟩
    refine ⟨_, rfl, _, _, rfl, .inl hS, _, rfl, ?_⟩
    rw [List.length_map]
    refine .or (fun hc => ?_) k2
    obtain ⟨k1, k3⟩ := k1 hc
    refine ⟨_, rfl, a, rfl, ⟨_, hS⟩, for_list (K := K) (a := a) (xs := ds.map V.int) (fun i σ H1 => (∃ v, σ = [some (.ref a), v]) ∧ H1 = H ∧ ∀ j, j < i → ∀ x, ds[j]? = some x → DayOk x) ⟨⟨none, rfl⟩, rfl, fun j z => absurd z (Nat.not_lt_zero j)⟩ (fun i σ H1 _ ⟨_, e, _⟩ => by rw [e]; exact hS) ?_ ?_⟩
    · rintro i y σ H1 hi ⟨⟨v, rfl⟩, rfl, ok⟩
      obtain ⟨x, hx, rfl⟩ := get_ints hi
      refine ⟨_, rfl, x, rfl, .or (fun c => ⟨⟨_, rfl⟩, rfl, fun j hj y hy => ?_⟩) (fun no => k3 fun z => no (z x (List.mem_of_getElem? hx)))⟩
      rcases Nat.lt_succ_iff_lt_or_eq.mp hj with q | q
      · exact ok j q y hy
      · rw [q, hx] at hy
        cases hy
        exact c
    · rintro σ H1 ⟨⟨v, rfl⟩, rfl, ok⟩
      refine k1 fun x hx => ?_
      obtain ⟨j, hj, e⟩ := List.mem_iff_getElem.mp hx
      exact ok j (by rw [List.length_map]; omega) x (by rw [List.getElem?_eq_getElem hj, e])

theorem sc_holder : FnScope N_holder ["row", "days", "day"] (defScope s_holder) := ⟨rfl, rfl, rfl, by decide +kernel, rfl, by decide +kernel, by decide +kernel⟩
def sp_holder (K : PySem.W.Frag) : Sp := fun vs H Q E => ∃ (a b : Addr) (r ds : List Int) (d : Int), vs = [.ref a, .ref b, .int d] ∧ SqL K H a (r.map V.int) ∧ r.length ≤ 1000 ∧ SqL K H b (ds.map V.int) ∧
  Ways (CountOk (ds.length : Int)) (Ways (DaysOk ds) (Ways (RowOk (ds.length : Int) r) (Ways (DayOk d) (Q (.int (holderOf r ds d)) H) (E (.ref (He.ga K "BadDay")) none H)) (E (.ref (He.ga K "BadRow")) none H)) (E (.ref (He.ga K "BadDay")) none H)) (E (.ref (He.ga K "BadCount")) none H)
theorem ok_holder {f : Addr} {fd : FuncData} (F : FnP K "holder" s_holder f fd) (T : Txt K mg) (C_check_day : OwnX P w K mg base "check_day" ["day"] 2 (sp_check_day K)) (C_check_row : OwnX P w K mg base "check_row" ["many", "row"] 2 (sp_check_row K)) (C_check_way : OwnX P w K mg base "check_way" ["days"] 3 (sp_check_way K)) : FnOk P w K mg base (L2N.CX P w) 4 f fd ["row", "days", "day"] (sp_holder K) := by
  refine F.ok sc_holder (fun vs H Q E h => ?_) (fun cdv A outer s H vs Q E hr h => ?_)
  · obtain ⟨a, b, r, ds, d, rfl, _⟩ := h
    rfl
  · obtain ⟨a, b, r, ds, d, rfl, hR, hrl, hD, k1, k2⟩ := h
    refine ⟨_, (pss_cons (ps_expr (pe_ownX C_check_way (hr.mono (by omega)) (L2N.takes_of rfl rfl rfl rfl) (pa_cons (pv 1) pa_nil)))
          (pss_cons (ps_expr (pe_ownX C_check_row (hr.mono (by omega)) (L2N.takes_of rfl rfl rfl rfl) (pa_cons (pe_callB (lenK K) (by rfl) T.n_len (by decide +kernel) (pa_cons (pv 1) pa_nil)) (pa_cons (pv 0) pa_nil))))
          (pss_cons (ps_expr (pe_ownX C_check_day (hr.mono (by omega)) (L2N.takes_of rfl rfl rfl rfl) (pa_cons (pv 2) pa_nil)))
          (C8.pss_cut (ps_for (passes_of rfl) rfl (pilK K (pv 0)) (pg_name (i := 3) sc_holder.nd rfl (Or.inl rfl))
            (pss_one (ps_if (pt_cmpR op_lt (pv 2) (pe_ix (ixl K) (pv 1) (pv 3) (fun _ _ => rfl)) (nomark _)) (pss_one (ps_ret (pv 3))) pss_nil)))
          (pss_one (ps_ret (pe_const T.c_NOBODY))))))), ?_⟩
    refine ⟨_, rfl, b, ds, rfl, hD, .or (fun hc => .or (fun hd => ?_) (k1 hc).2) k2⟩
    obtain ⟨k1, k3⟩ := (k1 hc).1 hd
    refine ⟨_, rfl, _, _, rfl, .inl hD, ?_⟩
    rw [List.length_map]
    refine ⟨_, rfl, _, a, r, rfl, hR, hrl, .or (fun ok => ?_) k3⟩
    obtain ⟨k1, k4⟩ := k1 ok
    refine ⟨_, rfl, d, rfl, .or (fun hdd => ?_) k4⟩
    have k := k1 hdd
    refine ⟨fun σ H1 => H1 = H ∧ holderOf r ds d = -1, ?_, ?_⟩
    · refine ⟨_, rfl, a, rfl, ⟨_, hR⟩, for_list (K := K) (a := a) (xs := r.map V.int) (fun i σ H1 => (∃ v, σ = [some (.ref a), some (.ref b), some (.int d), v]) ∧ H1 = H ∧ ∀ j, j < i → ∀ x, r[j]? = some x → ¬ d < dayOf ds x) ⟨⟨none, rfl⟩, rfl, fun j z => absurd z (Nat.not_lt_zero j)⟩ (fun i σ H1 _ ⟨_, e, _⟩ => by rw [e]; exact hR) ?_ ?_⟩
      · rintro i y σ H1 hi ⟨⟨v, rfl⟩, rfl, no⟩
        obtain ⟨x, hx, rfl⟩ := get_ints hi
        have bx := ok.2 x (List.mem_of_getElem? hx)
        refine ⟨_, rfl, _, rfl, _, rfl, b, _, _, _, rfl, rfl, hD, at_ints (by omega) (by omega), _, _, rfl, rfl, _, rfl, ?_⟩
        by_cases c : d < dayOf ds x
        · refine iteD c ⟨_, rfl, ?_⟩
          rw [holder_first hx c no] at k
          exact k
        · refine iteDF c ⟨⟨_, rfl⟩, rfl, fun j hj y hy => ?_⟩
          rcases Nat.lt_succ_iff_lt_or_eq.mp hj with q | q
          · exact no j q y hy
          · rw [q, hx] at hy
            cases hy
            exact c
      · rintro σ H1 ⟨⟨v, rfl⟩, rfl, no⟩
        refine ⟨rfl, holder_none fun j y hy => ?_⟩
        have := (List.getElem?_eq_some_iff.mp hy).1
        exact no j (by rw [List.length_map]; omega) y hy
    · rintro σ H1 ⟨rfl, e⟩
      rw [e] at k
      exact k

theorem sc_Span___init__ : FnScope N_Span___init__ ["self", "first", "until"] (defScope s_Span___init__) := ⟨rfl, rfl, rfl, by decide +kernel, rfl, by decide +kernel, by decide +kernel⟩
def sp_Span___init__ (K : PySem.W.Frag) : Sp := fun vs H Q E => ∃ (x dx : Addr) (f u : Int), vs = [.ref x, .int f, .int u] ∧ H x = some (.ins (He.ga K "Span") dx []) ∧ (SpanOk (f, u) → Q .non (upd H x (.ins (He.ga K "Span") dx (spanF f u)))) ∧ (¬ SpanOk (f, u) → E (.ref (He.ga K "BadDay")) none H)
/-- Span(f, u) -/
theorem mk_span {K : PySem.W.Frag} {H : Hp} {f u : Int} {Q : VK} {E : XK} {x dx : Addr} (hx : H x = none) (hdx : H dx = none) (k : SpanOk (f, u) → ∀ H', Same H H' → SpanAt K H' (.ref x) (f, u) → Q .non H') (k2 : ¬ SpanOk (f, u) → ∀ H', Same H H' → E (.ref (He.ga K "BadDay")) none H') :
    sp_Span___init__ K [.ref x, .int f, .int u] (upd (upd H dx (.own x)) x (.ins (He.ga K "Span") dx [])) Q E := by
  have s1 := same_mut (o := .ins (He.ga K "Span") dx []) (same_new (o := .own x) hdx) hx
  exact ⟨x, dx, f, u, rfl, upd_same, fun ok => k ok _ (same_mut s1 hx) ⟨x, dx, rfl, upd_same⟩, fun no => k2 no _ s1⟩
theorem ok_Span___init__ {f : Addr} {fd : FuncData} (F : FunD K "__init__" "Span.__init__" (defArgs s_Span___init__) (defBody s_Span___init__) (defScope s_Span___init__) [] [] f fd) (T : Txt K mg) : FnOk P w K mg base (L2N.CX P w) 1 f fd ["self", "first", "until"] (sp_Span___init__ K) := by
  refine F.ok sc_Span___init__ (fun vs H Q E h => ?_) (fun cdv A outer s H vs Q E hr h => ?_)
  · obtain ⟨x, dx, f, u, rfl, _⟩ := h
    rfl
  · obtain ⟨x, dx, f, u, rfl, hx, k1, k2⟩ := h
    refine ⟨_, (C8.pss_cut (ps_if (pt_not (pt_chain3 op_le op_lt op_le pe_int (pv 1) (pv 2) (pe_op op_add (pe_const T.c_LAST_DAY) pe_int))) (pss_one (rise T.e_BadDay.w T.g_BadDay rfl (L2N.takes_of rfl rfl rfl rfl))) pss_nil)
          (pss_cons (setfK K (pv 0) (pv 1) rfl)
          (pss_one (setfK K (pv 0) (pv 2) rfl)))), ?_⟩
    refine ⟨fun σ H1 => σ = [some (.ref x), some (.int f), some (.int u)] ∧ H1 = H ∧ SpanOk (f, u), ?_, ?_⟩
    · refine ⟨_, rfl, _, _, rfl, rfl, _, rfl, ?_⟩
      refine ite2 (fun c1 => ?_) (fun c1 => ⟨_, rfl, iteT (k2 fun z => c1 (decide_eq_true z.1))⟩)
      refine ⟨_, rfl, _, _, rfl, rfl, _, rfl, ?_⟩
      refine ite2 (fun c2 => ?_) (fun c2 => ⟨_, rfl, iteT (k2 fun z => c2 (decide_eq_true z.2.1))⟩)
      refine ⟨_, _, rfl, rfl, _, _, rfl, rfl, _, rfl, ?_⟩
      by_cases c3 : u ≤ 9999 + 1
      · rw [decide_eq_true c3]
        exact iteF ⟨rfl, rfl, of_decide_eq_true c1, of_decide_eq_true c2, c3⟩
      · rw [decide_eq_false c3]
        exact iteT (k2 fun z => c3 z.2.2)
    · rintro σ H1 ⟨rfl, rfl, ok⟩
      refine ⟨_, rfl, _, rfl, x, _, dx, _, rfl, hx, T.f_Span.cl, T.f_Span.n1, (by decide), ?_⟩
      refine ⟨_, rfl, _, rfl, x, _, dx, _, rfl, upd_same, T.f_Span.cl, T.f_Span.n2, Nat.le_of_ble_eq_true rfl, ?_⟩
      rw [upd_upd, span_put]
      exact k1 ok

theorem sc_turns : FnScope N_turns ["row", "days", "start", "end"] (defScope s_turns) := ⟨rfl, rfl, rfl, by decide +kernel, rfl, by decide +kernel, by decide +kernel⟩
def sp_turns (K : PySem.W.Frag) : Sp := fun vs H Q E => ∃ (a b : Addr) (r ds : List Int) (s : Int) (o : Option Int), vs = [.ref a, .ref b, .int s, optV o] ∧ SqL K H a (r.map V.int) ∧ r.length ≤ 1000 ∧ SqL K H b (ds.map V.int) ∧
  Ways (CountOk (ds.length : Int)) (Ways (DaysOk ds) (Ways (RowOk (ds.length : Int) r) (Ways (RunOk s o) (∀ (p : Addr) (xs : List V) (H' : Hp), Same H H' → H p = none → H' p = some (.lst xs) → TurnsAt K H' xs (turnsOf r ds s (belowOf o)) → Q (.ref p) H') (E (.ref (He.ga K "BadDay")) none H)) (E (.ref (He.ga K "BadRow")) none H)) (E (.ref (He.ga K "BadDay")) none H)) (E (.ref (He.ga K "BadCount")) none H)
theorem ok_turns {f : Addr} {fd : FuncData} (F : FunD K "turns" "turns" (defArgs s_turns) (defBody s_turns) (defScope s_turns) [V.int 0, V.non] [] f fd) (T : Txt K mg) (C_check_row : OwnX P w K mg base "check_row" ["many", "row"] 2 (sp_check_row K)) (C_check_run : OwnX P w K mg base "check_run" ["start", "end"] 3 (sp_check_run K)) (C_check_way : OwnX P w K mg base "check_way" ["days"] 3 (sp_check_way K)) (C_Span___init__ : MakX P w K mg base "Span" ["self", "first", "until"] 1 (sp_Span___init__ K)) : FnOk P w K mg base (L2N.CX P w) 4 f fd ["row", "days", "start", "end"] (sp_turns K) := by
  refine F.ok sc_turns (fun vs H Q E h => ?_) (fun cdv A outer s H vs Q E hr h => ?_)
  · obtain ⟨a, b, r, ds, s, o, rfl, _⟩ := h
    rfl
  · obtain ⟨a, b, r, ds, s, o, rfl, hR, hrl, hD, k1, k2⟩ := h
    refine ⟨_, (pss_cons (ps_expr (pe_ownX C_check_way (hr.mono (by omega)) (L2N.takes_of rfl rfl rfl rfl) (pa_cons (pv 1) pa_nil)))
          (pss_cons (ps_expr (pe_ownX C_check_row (hr.mono (by omega)) (L2N.takes_of rfl rfl rfl rfl) (pa_cons (pe_callB (lenK K) (by rfl) T.n_len (by decide +kernel) (pa_cons (pv 1) pa_nil)) (pa_cons (pv 0) pa_nil))))
          (pss_cons (ps_set (i := 4) sc_turns.nd rfl (Or.inl rfl) (pe_ownX C_check_run (hr.mono (by omega)) (L2N.takes_of rfl rfl rfl rfl) (pa_cons (pv 2) (pa_cons (pv 3) pa_nil))))
          (pss_cons (ps_set (i := 5) sc_turns.nd rfl (Or.inl rfl) (pe_lst pa_nil))
          (pss_cons (ps_set (i := 6) sc_turns.nd rfl (Or.inl rfl) (pv 2))
          (C8.pss_cut (ps_for (passes_of rfl) rfl (pilK K (pv 0)) (pg_name (i := 7) sc_turns.nd rfl (Or.inl rfl))
            (pss_cons (ps_set (i := 8) sc_turns.nd rfl (Or.inl rfl) (pe_callB (call_min2 rfl) (by rfl) T.n_min (by decide +kernel) (pa_cons (pe_ix (ixl K) (pv 1) (pv 7) (fun _ _ => rfl)) (pa_cons (pv 4) pa_nil))))
              (pss_one (ps_if (pt_cmpR op_lt (pv 6) (pv 8) (nomark _)) (pss_cons (ps_expr (pe_bm PySem.F.plainAttrs_list PySem.F.slot_list_append PySem.F.type_list_append mt_append (pv 5) (pa_cons (pe_tup (pa_cons (pv 7) (pa_cons (pe_mkX K C_Span___init__ (hr.mono (by omega)) (L2N.takes_of rfl rfl rfl rfl) (pa_cons (pv 6) (pa_cons (pv 8) pa_nil))) pa_nil))) pa_nil)))
                (pss_one (ps_set (i := 6) sc_turns.nd rfl (Or.inl rfl) (pv 8)))) pss_nil))))
          (pss_one (ps_ret (pv 5))))))))), ?_⟩
    refine ⟨_, rfl, b, ds, rfl, hD, .or (fun hc => .or (fun hd => ?_) (k1 hc).2) k2⟩
    obtain ⟨k1, k3⟩ := (k1 hc).1 hd
    refine ⟨_, rfl, _, _, rfl, .inl hD, ?_⟩
    rw [List.length_map]
    refine ⟨_, rfl, _, a, r, rfl, hR, hrl, .or (fun ok => ?_) k3⟩
    obtain ⟨k1, k4⟩ := k1 ok
    refine ⟨_, rfl, _, rfl, s, o, rfl, .or (fun run => ?_) k4⟩
    have k := k1 run
    have bw := run.below
    have s0 := run.1.1
    generalize belowOf o = bl at *
    refine ⟨Nat.zero_le _, fun p hp => ?_⟩
    have u1 := same_new (o := .lst []) hp
    refine ⟨_, rfl, ?_⟩
    refine ⟨fun σ H2 => ∃ xs, σ[5]? = some (some (.ref p)) ∧ Same H H2 ∧ H2 p = some (.lst xs) ∧ TurnsAt K H2 xs (turnsOf r ds s bl), ?_, ?_⟩
    · refine ⟨_, rfl, a, rfl, ⟨_, u1.seq hR⟩, for_list (K := K) (a := a) (xs := r.map V.int) (fun i σ H2 => ∃ (xs : List V) (v7 v8 : Option V), σ = [some (.ref a), some (.ref b), some (.int s), some (optV o), some (.int bl), some (.ref p), some (.int (turnsS (r.take i) ds s bl).2), v7, v8] ∧ Same H H2 ∧ H2 p = some (.lst xs) ∧ TurnsAt K H2 xs (turnsS (r.take i) ds s bl).1)
        ⟨[], none, none, rfl, u1, upd_same, trivial⟩ (fun i σ H2 _ ⟨_, _, _, _, s2, _⟩ => s2.seq hR) ?_ ?_⟩
      · rintro i y σ H2 hi ⟨xs, v7, v8, rfl, s2, hp2, ht⟩
        obtain ⟨x, hx, rfl⟩ := get_ints hi
        have bx := ok.2 x (List.mem_of_getElem? hx)
        have ge := turnsS_ge ds s bl (r.take i)
        have ln := turnsS_len ds s bl (r.take i)
        have il := (List.getElem?_eq_some_iff.mp hx).1
        have tl := AllAt.length ht
        rw [List.length_take] at ln
        refine ⟨_, rfl, _, rfl, b, _, _, _, rfl, rfl, s2.seq hD, at_ints (by omega) (by omega), _, rfl, _, _, rfl, ?_⟩
        rw [min_if]
        refine ⟨_, rfl, _, rfl, _, _, rfl, rfl, _, rfl, ?_⟩
        have st := turnsS_take (ds := ds) (s := s) (b := bl) hx
        by_cases c : (turnsS (r.take i) ds s bl).2 < min (dayOf ds x) bl
        · refine iteD c ?_
          have st2 : turnsS (r.take (i + 1)) ds s bl = ((turnsS (r.take i) ds s bl).1 ++ [(x, (turnsS (r.take i) ds s bl).2, min (dayOf ds x) bl)], min (dayOf ds x) bl) := by
            rw [st]
            exact if_pos c
          have oks : SpanOk ((turnsS (r.take i) ds s bl).2, min (dayOf ds x) bl) := ⟨by show 0 ≤ (turnsS (r.take i) ds s bl).2; omega, c, by show min (dayOf ds x) bl ≤ 10000; omega⟩
          refine ⟨_, rfl, .inl ⟨rfl, _, SqL.of hp2⟩, _, rfl, _, rfl, _, rfl, fun z dz nz ndz nez => mk_span nz ndz (fun _ H5 s5 hz => ⟨rfl, ?_⟩) (fun no => absurd oks no)⟩
          refine ⟨(by show 2 ≤ sizeLine; decide), fun t nt => ?_⟩
          have u6 := same_new (o := .tup [V.int x, .ref z]) nt
          have s26 := s5.trans u6
          have hp6 := s26 _ _ hp2
          refine ⟨p, _, _, rfl, rfl, hp6, sz_lt (by omega), ?_⟩
          refine ⟨_, rfl, ?_⟩
          refine ⟨xs ++ [V.ref t], some (.int x), some (.int (min (dayOf ds x) bl)), ?_, same_mut (s2.trans s26) hp, upd_same, ?_⟩
          · rw [st2]
            rfl
          · rw [st2]
            exact turns_updL hp6 ((turns_mono s26 ht).app ⟨⟨t, _, rfl, upd_same, hz.mono u6⟩, trivial⟩)
        · refine iteDF c ?_
          rw [show turnsS (r.take (i + 1)) ds s bl = turnsS (r.take i) ds s bl by rw [st]; exact if_neg c]
          exact ⟨xs, _, _, rfl, s2, hp2, ht⟩
      · rintro σ H2 ⟨xs, v7, v8, rfl, s2, hp2, ht⟩
        rw [List.length_map, List.take_length] at ht
        exact ⟨xs, rfl, s2, hp2, ht⟩
    · rintro σ H2 ⟨xs, g, s2, hp2, ht⟩
      exact ⟨_, g, k p xs H2 s2 hp hp2 ht⟩

theorem sc_in_holding : FnScope N_in_holding ["row", "days", "start", "end"] (defScope s_in_holding) := ⟨rfl, rfl, rfl, by decide +kernel, rfl, by decide +kernel, by decide +kernel⟩
def sp_in_holding (K : PySem.W.Frag) : Sp := fun vs H Q E => ∃ (a b : Addr) (r ds : List Int) (s : Int) (o : Option Int), vs = [.ref a, .ref b, .int s, optV o] ∧ SqL K H a (r.map V.int) ∧ r.length ≤ 1000 ∧ SqL K H b (ds.map V.int) ∧
  Ways (CountOk (ds.length : Int)) (Ways (DaysOk ds) (Ways (RowOk (ds.length : Int) r) (Ways (RunOk s o) (∀ (p : Addr) (H' : Hp), Same H H' → H p = none → H' p = some (.lst ((deadOf r ds s (belowOf o)).map V.int)) → Q (.ref p) H') (E (.ref (He.ga K "BadDay")) none H)) (E (.ref (He.ga K "BadRow")) none H)) (E (.ref (He.ga K "BadDay")) none H)) (E (.ref (He.ga K "BadCount")) none H)
theorem ok_in_holding {f : Addr} {fd : FuncData} (F : FunD K "in_holding" "in_holding" (defArgs s_in_holding) (defBody s_in_holding) (defScope s_in_holding) [V.int 0, V.non] [] f fd) (T : Txt K mg) (C_turns : OwnD P w K mg base "turns" s_turns ["row", "days", "start", "end"] [V.int 0, V.non] 4 (sp_turns K)) : FnOk P w K mg base (L2N.CX P w) 5 f fd ["row", "days", "start", "end"] (sp_in_holding K) := by
  refine F.ok sc_in_holding (fun vs H Q E h => ?_) (fun cdv A outer s H vs Q E hr h => ?_)
  · obtain ⟨a, b, r, ds, s, o, rfl, _⟩ := h
    rfl
  · obtain ⟨a, b, r, ds, s, o, rfl, hR, hrl, hD, k1, k2⟩ := h
    refine ⟨_, (pss_one (ps_ret (by exact (pe_lc (own := [("life", 4), ("span", 5)]) rfl sc_in_holding.nd (pilK K (pe_ownDX 4 [] (fun {_} us its ws => us ++ []) C_turns (hr.mono (by omega)) (L2N.takes_of rfl rfl rfl rfl) (fun r1 r2 r3 => r1.append .nil) (fun _ _ _ _ _ _ _ us its ws h1 h2 h3 => match us, its, ws, h1, h2, h3 with | [_, _, _, _], [_, _], [], _, _, _ => ⟨_, rfl, rfl⟩) (pa_cons (pv 0) (pa_cons (pv 1) (pa_cons (pv 2) (pa_cons (pv 3) pa_nil)))) pk_nil)) (blkOk_by (own := [("life", 4), ("span", 5)]) (N := N_in_holding) (sc := defScope s_in_holding) (by decide +kernel)) (fun _ _ _ _ _ => by exact (pgtK (n := 2) K rfl (pgs_cons (pg_name (i := 4) sc_in_holding.nd rfl (Or.inl rfl)) (pgs_cons (pg_name (i := 5) sc_in_holding.nd rfl (Or.inl rfl)) pgs_nil)))) (fun _ _ _ _ _ => by exact (pts_one (pt_cmpR op_eq (fldK K (pv 5) rfl) (pe_ix (ixl K) (pv 1) (pv 4) (fun _ _ => rfl)) (nomark _)))) (fun _ _ _ _ _ => by exact (pv 4)))))), ?_⟩
    refine ⟨_, rfl, _, rfl, _, rfl, _, rfl, rfl, rfl, a, b, r, ds, s, o, rfl, hR, hrl, hD, .or (fun hc => .or (fun hd => .or (fun ok => .or (fun run => ?_) (((k1 hc).1 hd).1 ok).2) ((k1 hc).1 hd).2) (k1 hc).2) k2⟩
    have k := (((k1 hc).1 hd).1 ok).1 run
    intro p xs H1 s1 np hp ht
    have tok := turns_ok (ds := ds) (r := r) run.1.1 run.below.2
    have tl := AllAt.length ht
    have tn := turnsS_len ds s (belowOf o) r
    replace tok : ∀ t ∈ turnsOf r ds s (belowOf o), SpanOk t.2 ∧ t.1 ∈ r := tok
    replace tn : (turnsOf r ds s (belowOf o)).length ≤ r.length := tn
    unfold deadOf at k
    generalize turnsOf r ds s (belowOf o) = ts at *
    refine ⟨p, rfl, ⟨_, SqL.of hp⟩, fun D nD => ?_⟩
    refine lc_list (K := K) (a := p) (xs := xs) (fun i H2 => Same H1 H2 ∧ H2 D = some (.lst ((((ts.take i).filter fun t => decide (t.2.2 = dayOf ds t.1)).map fun t => t.1).map V.int))) ⟨same_new nD, upd_same⟩ (fun i H2 _ z => z.1.seq (SqL.of hp)) ?_ ?_
    · rintro i y H2 hi ⟨s2, hq⟩
      obtain ⟨t, hti, q1, q2, rfl, g1, g2⟩ := AllAt.get ht hi
      have bx := ok.2 t.1 (tok t (List.mem_of_getElem? hti)).2
      have til := (List.getElem?_eq_some_iff.mp hti).1
      refine ⟨q1, _, rfl, SqT.of (s2 _ _ g1), rfl, _, _, rfl, _, _, rfl, rfl, rfl, ?_⟩
      refine t_until T.f_Span (g2.mono s2) (t_var rfl) ⟨_, rfl, _, rfl, b, _, _, _, rfl, rfl, (s1.trans s2).seq hD, at_ints (by omega) (by omega), rfl, _, rfl, ?_⟩
      by_cases c : t.2.2 = dayOf ds t.1
      · refine iteD (by rw [c]) ?_
        refine ⟨_, rfl, _, hq, sz_lt ?_, same_mut s2 nD, ?_⟩
        · rw [List.length_map, List.length_map]
          have := List.length_filter_le (fun t : Int × Int × Int => decide (t.2.2 = dayOf ds t.1)) (ts.take i)
          rw [List.length_take] at this
          omega
        · rw [upd_same, filt_take _ hti, if_pos (decide_eq_true c), List.map_append, List.map_append]
          rfl
      · refine iteDF (by intro z; injection z with z; exact c z) ⟨s2, ?_⟩
        rw [filt_take _ hti, if_neg (by rw [decide_eq_false c]; exact Bool.false_ne_true), List.append_nil]
        exact hq
    · rintro H2 ⟨s2, hq⟩
      rw [tl, List.take_length] at hq
      exact k D H2 (s1.trans s2) (s1.free nD) hq

theorem sc_lkin : FnScope N_lkin ["_law_e"] (defScope s_lkin) := ⟨rfl, rfl, rfl, by decide +kernel, rfl, by decide +kernel, by decide +kernel⟩
def sp_lkin (K : PySem.W.Frag) : SpE := fun a c d vs H Q _ => ∃ (D : Str) (look : Bool), D ∈ kinNames ∧ ErrF K D look ∧ vs = [.ref a] ∧ c = .ref (He.ga K D) ∧ d = none ∧ ∀ H', Same H H' → Q (.str D) H'
theorem ok_lkin {f : Addr} {fd : FuncData} (F : FnP K "_law_kin" s_lkin f fd) (T : Txt K mg) : FnE P w K mg base 1 f fd ["_law_e"] (sp_lkin K) := by
  refine okE F sc_lkin (dvs := []) (kws := []) (fun a c d vs H Q E h => ?_) (fun cdv A outer s H vs Q E p c d hot hz hr h => ?_)
  · obtain ⟨D, look, _, _, rfl, _⟩ := h
    rfl
  · obtain ⟨D, look, hD, err, rfl, rfl, rfl, k⟩ := h
    have EX := err.exc
    have hf : ∃ vs, p.2.data = .fields vs := by
      obtain ⟨_, v1, e1, _⟩ := hot
      exact ⟨v1, e1⟩
    refine ⟨_, (pss_cons (ps_set (i := 1) sc_lkin.nd rfl (Or.inl rfl) (pe_lst (pa_cons (pe_callB (isP K (List.mem_singleton.mpr rfl) EX hz hf) (by rfl) T.n_isinstance (by decide +kernel) (pa_cons (pv 0) (pa_cons (pe_cls T.g_BadDay) pa_nil))) (pa_cons (pe_callB (isP K (List.mem_singleton.mpr rfl) EX hz hf) (by rfl) T.n_isinstance (by decide +kernel) (pa_cons (pv 0) (pa_cons (pe_cls T.g_BadCount) pa_nil))) (pa_cons (pe_callB (isP K (List.mem_singleton.mpr rfl) EX hz hf) (by rfl) T.n_isinstance (by decide +kernel) (pa_cons (pv 0) (pa_cons (pe_cls T.g_BadTie) pa_nil))) (pa_cons (pe_callB (isP K (List.mem_singleton.mpr rfl) EX hz hf) (by rfl) T.n_isinstance (by decide +kernel) (pa_cons (pv 0) (pa_cons (pe_cls T.g_CantBe) pa_nil))) pa_nil))))))
          (pss_cons (ps_set (i := 1) sc_lkin.nd rfl (Or.inl rfl) (pe_op op_cat (pv 1) (pe_lst (pa_cons (pe_callB (isP K (List.mem_singleton.mpr rfl) EX hz hf) (by rfl) T.n_isinstance (by decide +kernel) (pa_cons (pv 0) (pa_cons (pe_cls T.g_BadRow) pa_nil))) (pa_cons (pe_callB (isP K (List.mem_singleton.mpr rfl) EX hz hf) (by rfl) T.n_isinstance (by decide +kernel) (pa_cons (pv 0) (pa_cons (pe_cls T.g_BadName) pa_nil))) (pa_cons (pe_callB (isP K (List.mem_singleton.mpr rfl) EX hz hf) (by rfl) T.n_isinstance (by decide +kernel) (pa_cons (pv 0) (pa_cons (pe_cls T.g_Taken) pa_nil))) (pa_cons (pe_callB (isP K (List.mem_singleton.mpr rfl) EX hz hf) (by rfl) T.n_isinstance (by decide +kernel) (pa_cons (pv 0) (pa_cons (pe_cls T.g_Full) pa_nil))) pa_nil)))))))
          (pss_cons (ps_set (i := 1) sc_lkin.nd rfl (Or.inl rfl) (pe_op op_cat (pv 1) (pe_lst (pa_cons (pe_callB (isP K (List.mem_singleton.mpr rfl) EX hz hf) (by rfl) T.n_isinstance (by decide +kernel) (pa_cons (pv 0) (pa_cons (pe_cls T.g_Twice) pa_nil))) (pa_cons (pe_callB (isP K (List.mem_singleton.mpr rfl) EX hz hf) (by rfl) T.n_isinstance (by decide +kernel) (pa_cons (pv 0) (pa_cons (pe_cls T.g_GivenUp) pa_nil))) (pa_cons (pe_callB (isP K (List.mem_singleton.mpr rfl) EX hz hf) (by rfl) T.n_isinstance (by decide +kernel) (pa_cons (pv 0) (pa_cons (pe_cls T.g_Held) pa_nil))) (pa_cons (pe_callB (isP K (List.mem_singleton.mpr rfl) EX hz hf) (by rfl) T.n_isinstance (by decide +kernel) (pa_cons (pv 0) (pa_cons (pe_cls T.g_Idle) pa_nil))) pa_nil)))))))
          (pss_cons (ps_set (i := 1) sc_lkin.nd rfl (Or.inl rfl) (pe_op op_cat (pv 1) (pe_lst (pa_cons (pe_callB (isP K (List.mem_singleton.mpr rfl) EX hz hf) (by rfl) T.n_isinstance (by decide +kernel) (pa_cons (pv 0) (pa_cons (pe_cls T.g_Against) pa_nil))) (pa_cons (pe_callB (isP K (List.mem_singleton.mpr rfl) EX hz hf) (by rfl) T.n_isinstance (by decide +kernel) (pa_cons (pv 0) (pa_cons (pe_cls T.g_BadText) pa_nil))) (pa_cons (pe_callB (isP K (List.mem_singleton.mpr rfl) EX hz hf) (by rfl) T.n_isinstance (by decide +kernel) (pa_cons (pv 0) (pa_cons (pe_cls T.g_NoLife) pa_nil))) pa_nil))))))
          (pss_cons (ps_set (i := 1) sc_lkin.nd rfl (Or.inl rfl) (pe_op op_cat (pv 1) (pe_lst (pa_cons (pe_callB (isP K (List.mem_singleton.mpr rfl) EX hz hf) (by rfl) T.n_isinstance (by decide +kernel) (pa_cons (pv 0) (pa_cons (pe_cls T.g_NoHolding) pa_nil))) (pa_cons (pe_callB (isP K (List.mem_singleton.mpr rfl) EX hz hf) (by rfl) T.n_isinstance (by decide +kernel) (pa_cons (pv 0) (pa_cons (pe_cls T.g_NoPresentment) pa_nil))) (pa_cons (pe_callB (isP K (List.mem_singleton.mpr rfl) EX hz hf) (by rfl) T.n_isinstance (by decide +kernel) (pa_cons (pv 0) (pa_cons (pe_cls T.g_NoPlace) pa_nil))) pa_nil))))))
          (C8.pss_cut (ps_set (i := 1) sc_lkin.nd rfl (Or.inl rfl) (pe_op op_cat (pv 1) (pe_lst (pa_cons (pe_callB (isP K (List.mem_singleton.mpr rfl) EX hz hf) (by rfl) T.n_isinstance (by decide +kernel) (pa_cons (pv 0) (pa_cons (pe_cls T.g_Nothing) pa_nil))) (pa_cons (pe_and (pe_not (pe_callB (isP K (List.mem_singleton.mpr rfl) EX hz hf) (by rfl) T.n_isinstance (by decide +kernel) (pa_cons (pv 0) (pa_cons (pe_bltn (v := .ty "ValueError") (by rfl) T.n_ValueError (by decide +kernel) rfl) pa_nil)))) (pe_one (pe_not (pe_callB (isP K (List.mem_singleton.mpr rfl) EX hz hf) (by rfl) T.n_isinstance (by decide +kernel) (pa_cons (pv 0) (pa_cons (pe_bltn (v := .ty "LookupError") (by rfl) T.n_LookupError (by decide +kernel) rfl) pa_nil)))))) pa_nil)))))
          (pss_cons (ps_set (i := 2) sc_lkin.nd rfl (Or.inl rfl) (pe_lst (pa_cons pe_str (pa_cons pe_str (pa_cons pe_str (pa_cons pe_str (pa_cons pe_str (pa_cons pe_str (pa_cons pe_str (pa_cons pe_str (pa_cons pe_str (pa_cons pe_str pa_nil))))))))))))
          (pss_cons (ps_set (i := 2) sc_lkin.nd rfl (Or.inl rfl) (pe_op op_cat (pv 2) (pe_lst (pa_cons pe_str (pa_cons pe_str (pa_cons pe_str (pa_cons pe_str (pa_cons pe_str (pa_cons pe_str (pa_cons pe_str (pa_cons pe_str pa_nil)))))))))))
          (pss_cons (ps_set (i := 2) sc_lkin.nd rfl (Or.inl rfl) (pe_op op_cat (pv 2) (pe_lst (pa_cons pe_str (pa_cons pe_str pa_nil)))))
          (pss_one (ps_ret (pe_join pe_str (by exact (pe_lcX (own := [("_law_word_here", 3), ("_law_kin_here", 4)]) (hotH hot) sc_lkin.nd (pi_zipX K (hotH hot).hot (by rfl) T.n_zip (pa_cons (pv 2) (pa_cons (pv 1) pa_nil))) (blkOk_by (own := [("_law_word_here", 3), ("_law_kin_here", 4)]) (N := N_lkin) (sc := defScope s_lkin) (by decide +kernel)) (fun _ _ _ _ _ hb => by exact (pg_tupX (n := 2) K hb (pgs_cons (pg_name (i := 3) sc_lkin.nd rfl (Or.inl rfl)) (pgs_cons (pg_name (i := 4) sc_lkin.nd rfl (Or.inl rfl)) pgs_nil)))) (fun _ _ _ _ _ => by exact (pts_one (pt_val (pv 4)))) (fun _ _ _ _ _ => by exact (pv 3)))))))))))))))), ?_⟩
    refine ⟨_, rfl, _, _, _, rfl, is_ref, err.kin "BadDay" (by decide), _, rfl, _, _, _, rfl, is_ref, err.kin "BadCount" (by decide), _, rfl, _, _, _, rfl, is_ref, err.kin "BadTie" (by decide), _, rfl, _, _, _, rfl, is_ref, err.kin "CantBe" (by decide), (by show 4 ≤ sizeLine; decide), fun q0 hq0 => ?_⟩
    have u0 := same_new (o := .lst [V.bl (decide (("BadDay" : Str) = D)), V.bl (decide (("BadCount" : Str) = D)), V.bl (decide (("BadTie" : Str) = D)), V.bl (decide (("CantBe" : Str) = D))]) hq0
    have s0 := u0
    refine ⟨_, rfl, _, rfl, _, _, _, rfl, is_ref, err.kin "BadRow" (by decide), _, rfl, _, _, _, rfl, is_ref, err.kin "BadName" (by decide), _, rfl, _, _, _, rfl, is_ref, err.kin "Taken" (by decide), _, rfl, _, _, _, rfl, is_ref, err.kin "Full" (by decide), (by show 4 ≤ sizeLine; decide), fun q1 hq1 => ?_⟩
    have u1 := same_new (o := .lst [V.bl (decide (("BadRow" : Str) = D)), V.bl (decide (("BadName" : Str) = D)), V.bl (decide (("Taken" : Str) = D)), V.bl (decide (("Full" : Str) = D))]) hq1
    refine ⟨q0, q1, _, _, rfl, rfl, u1 _ _ upd_same, upd_same, (by show 8 ≤ sizeLine; decide), fun q2 hq2 => ?_⟩
    have u2 := same_new (o := .lst [V.bl (decide (("BadDay" : Str) = D)), V.bl (decide (("BadCount" : Str) = D)), V.bl (decide (("BadTie" : Str) = D)), V.bl (decide (("CantBe" : Str) = D)), V.bl (decide (("BadRow" : Str) = D)), V.bl (decide (("BadName" : Str) = D)), V.bl (decide (("Taken" : Str) = D)), V.bl (decide (("Full" : Str) = D))]) hq2
    have s2 := (s0.trans u1).trans u2
    refine ⟨_, rfl, _, rfl, _, _, _, rfl, is_ref, err.kin "Twice" (by decide), _, rfl, _, _, _, rfl, is_ref, err.kin "GivenUp" (by decide), _, rfl, _, _, _, rfl, is_ref, err.kin "Held" (by decide), _, rfl, _, _, _, rfl, is_ref, err.kin "Idle" (by decide), (by show 4 ≤ sizeLine; decide), fun q3 hq3 => ?_⟩
    have u3 := same_new (o := .lst [V.bl (decide (("Twice" : Str) = D)), V.bl (decide (("GivenUp" : Str) = D)), V.bl (decide (("Held" : Str) = D)), V.bl (decide (("Idle" : Str) = D))]) hq3
    refine ⟨q2, q3, _, _, rfl, rfl, u3 _ _ upd_same, upd_same, (by show 12 ≤ sizeLine; decide), fun q4 hq4 => ?_⟩
    have u4 := same_new (o := .lst [V.bl (decide (("BadDay" : Str) = D)), V.bl (decide (("BadCount" : Str) = D)), V.bl (decide (("BadTie" : Str) = D)), V.bl (decide (("CantBe" : Str) = D)), V.bl (decide (("BadRow" : Str) = D)), V.bl (decide (("BadName" : Str) = D)), V.bl (decide (("Taken" : Str) = D)), V.bl (decide (("Full" : Str) = D)), V.bl (decide (("Twice" : Str) = D)), V.bl (decide (("GivenUp" : Str) = D)), V.bl (decide (("Held" : Str) = D)), V.bl (decide (("Idle" : Str) = D))]) hq4
    have s4 := (s2.trans u3).trans u4
    refine ⟨_, rfl, _, rfl, _, _, _, rfl, is_ref, err.kin "Against" (by decide), _, rfl, _, _, _, rfl, is_ref, err.kin "BadText" (by decide), _, rfl, _, _, _, rfl, is_ref, err.kin "NoLife" (by decide), (by show 3 ≤ sizeLine; decide), fun q5 hq5 => ?_⟩
    have u5 := same_new (o := .lst [V.bl (decide (("Against" : Str) = D)), V.bl (decide (("BadText" : Str) = D)), V.bl (decide (("NoLife" : Str) = D))]) hq5
    refine ⟨q4, q5, _, _, rfl, rfl, u5 _ _ upd_same, upd_same, (by show 15 ≤ sizeLine; decide), fun q6 hq6 => ?_⟩
    have u6 := same_new (o := .lst [V.bl (decide (("BadDay" : Str) = D)), V.bl (decide (("BadCount" : Str) = D)), V.bl (decide (("BadTie" : Str) = D)), V.bl (decide (("CantBe" : Str) = D)), V.bl (decide (("BadRow" : Str) = D)), V.bl (decide (("BadName" : Str) = D)), V.bl (decide (("Taken" : Str) = D)), V.bl (decide (("Full" : Str) = D)), V.bl (decide (("Twice" : Str) = D)), V.bl (decide (("GivenUp" : Str) = D)), V.bl (decide (("Held" : Str) = D)), V.bl (decide (("Idle" : Str) = D)), V.bl (decide (("Against" : Str) = D)), V.bl (decide (("BadText" : Str) = D)), V.bl (decide (("NoLife" : Str) = D))]) hq6
    have s6 := (s4.trans u5).trans u6
    refine ⟨_, rfl, _, rfl, _, _, _, rfl, is_ref, err.kin "NoHolding" (by decide), _, rfl, _, _, _, rfl, is_ref, err.kin "NoPresentment" (by decide), _, rfl, _, _, _, rfl, is_ref, err.kin "NoPlace" (by decide), (by show 3 ≤ sizeLine; decide), fun q7 hq7 => ?_⟩
    have u7 := same_new (o := .lst [V.bl (decide (("NoHolding" : Str) = D)), V.bl (decide (("NoPresentment" : Str) = D)), V.bl (decide (("NoPlace" : Str) = D))]) hq7
    refine ⟨q6, q7, _, _, rfl, rfl, u7 _ _ upd_same, upd_same, (by show 18 ≤ sizeLine; decide), fun q8 hq8 => ?_⟩
    have u8 := same_new (o := .lst [V.bl (decide (("BadDay" : Str) = D)), V.bl (decide (("BadCount" : Str) = D)), V.bl (decide (("BadTie" : Str) = D)), V.bl (decide (("CantBe" : Str) = D)), V.bl (decide (("BadRow" : Str) = D)), V.bl (decide (("BadName" : Str) = D)), V.bl (decide (("Taken" : Str) = D)), V.bl (decide (("Full" : Str) = D)), V.bl (decide (("Twice" : Str) = D)), V.bl (decide (("GivenUp" : Str) = D)), V.bl (decide (("Held" : Str) = D)), V.bl (decide (("Idle" : Str) = D)), V.bl (decide (("Against" : Str) = D)), V.bl (decide (("BadText" : Str) = D)), V.bl (decide (("NoLife" : Str) = D)), V.bl (decide (("NoHolding" : Str) = D)), V.bl (decide (("NoPresentment" : Str) = D)), V.bl (decide (("NoPlace" : Str) = D))]) hq8
    have s8 := (s6.trans u7).trans u8
    refine ⟨fun σ H' => ∃ q : Addr, σ = [some (.ref p.1), some (.ref q), none, none, none] ∧ Same H H' ∧ H' q = some (.lst ((kinF D).map V.bl)), ?_, ?_⟩
    · refine ⟨_, rfl, _, rfl, _, _, _, rfl, is_ref, err.kin "Nothing" (by decide), ?_⟩
      cases look with
      | true =>
        refine ⟨_, rfl, _, _, _, rfl, is_ty, err.ve, _, rfl, _, rfl, iteT ?_⟩
        refine ⟨_, rfl, _, _, _, rfl, is_ty, err.le, _, rfl, (by show 2 ≤ sizeLine; decide), fun qa ha => ?_⟩
        have ua := same_new (o := .lst [V.bl (decide (("Nothing" : Str) = D)), .bl false]) ha
        refine ⟨q8, qa, _, _, rfl, rfl, ua _ _ upd_same, upd_same, (by show 20 ≤ sizeLine; decide), fun qb hb' => ?_⟩
        exact ⟨qb, rfl, (s8.trans ua).trans (same_new hb'), upd_same⟩
      | false =>
        refine ⟨_, rfl, _, _, _, rfl, is_ty, err.ve, _, rfl, _, rfl, iteF ?_⟩
        refine ⟨(by show 2 ≤ sizeLine; decide), fun qa ha => ?_⟩
        have ua := same_new (o := .lst [V.bl (decide (("Nothing" : Str) = D)), .bl false]) ha
        refine ⟨q8, qa, _, _, rfl, rfl, ua _ _ upd_same, upd_same, (by show 20 ≤ sizeLine; decide), fun qb hb' => ?_⟩
        exact ⟨qb, rfl, (s8.trans ua).trans (same_new hb'), upd_same⟩
    rintro σ H9 ⟨q9, rfl, s9, h9⟩
    refine ⟨(by show 10 ≤ sizeLine; decide), fun wa hwa => ?_⟩
    have va := same_new (o := .lst [V.str "BadDay", .str "BadCount", .str "BadTie", .str "CantBe", .str "BadRow", .str "BadName", .str "Taken", .str "Full", .str "Twice", .str "GivenUp"]) hwa
    refine ⟨_, rfl, (by show 8 ≤ sizeLine; decide), fun wb hwb => ?_⟩
    have vb := same_new (o := .lst [V.str "Held", .str "Idle", .str "Against", .str "BadText", .str "NoLife", .str "NoHolding", .str "NoPresentment", .str "NoPlace"]) hwb
    refine ⟨wa, wb, _, _, rfl, rfl, vb _ _ upd_same, upd_same, (by show 18 ≤ sizeLine; decide), fun wc hwc => ?_⟩
    have vc := same_new (o := .lst [V.str "BadDay", .str "BadCount", .str "BadTie", .str "CantBe", .str "BadRow", .str "BadName", .str "Taken", .str "Full", .str "Twice", .str "GivenUp", .str "Held", .str "Idle", .str "Against", .str "BadText", .str "NoLife", .str "NoHolding", .str "NoPresentment", .str "NoPlace"]) hwc
    refine ⟨_, rfl, (by show 2 ≤ sizeLine; decide), fun wd hwd => ?_⟩
    have vd := same_new (o := .lst [V.str "Nothing", .str "odd"]) hwd
    refine ⟨wc, wd, _, _, rfl, rfl, vd _ _ upd_same, upd_same, (by show 20 ≤ sizeLine; decide), fun we hwe => ?_⟩
    have ve := same_new (o := .lst (kinW.map V.str)) hwe
    have v9 := (((va.trans vb).trans vc).trans vd).trans ve
    have s10 := s9.trans v9
    have h10 := v9 _ _ h9
    refine ⟨⟨_, rfl⟩, _, rfl, _, rfl, we, q9, _, _, rfl, SqL.of upd_same, SqL.of h10, fun E hE => ?_⟩
    have nE : H E = none := s10.free hE
    have ne1 : we ≠ E := ne_of_none upd_same hE
    have ne2 : q9 ≠ E := ne_of_none h10 hE
    refine lc_it (walk_zipX (K := K) (a := we) (b := q9) (n := 20) (xs := kinW.map V.str) (ys := (kinF D).map V.bl) rfl) (fun i H' => Same H H' ∧ H' we = some (.lst (kinW.map V.str)) ∧ H' q9 = some (.lst ((kinF D).map V.bl)) ∧ H' E = some (.lst ((((kinW.zip (kinF D)).take i).filter fun q => q.2).map fun q => V.str q.1)))
      ⟨s10.trans (same_new hE), by rw [upd_ne ne1]; exact upd_same, by rw [upd_ne ne2]; exact h10, upd_same⟩ (fun i H' _ ⟨_, a1, a2, _⟩ => ⟨SqL.of a1, SqL.of a2⟩) ?_ ?_
    · rintro i v H3 H4 hi ⟨s3, b1, b2, hq3⟩ ⟨T1, x1, x2, rfl, hT, rfl, g1, g2⟩
      obtain ⟨wd1, gw, rfl⟩ : ∃ z, kinW[i]? = some z ∧ x1 = V.str z := by
        rw [List.getElem?_map] at g1
        cases e : kinW[i]? with
        | none => rw [e] at g1; cases g1
        | some z => rw [e] at g1; exact ⟨z, rfl, (Option.some.inj g1).symm⟩
      obtain ⟨bb, gb, rfl⟩ : ∃ z, (kinF D)[i]? = some z ∧ x2 = V.bl z := by
        rw [List.getElem?_map] at g2
        cases e : (kinF D)[i]? with
        | none => rw [e] at g2; cases g2
        | some z => rw [e] at g2; exact ⟨z, rfl, (Option.some.inj g2).symm⟩
      have gz : (kinW.zip (kinF D))[i]? = some (wd1, bb) := by rw [List.getElem?_zip_eq_some]; exact ⟨gw, gb⟩
      have u4 := same_new (o := .tup [V.str wd1, .bl bb]) hT
      have hq4 := u4 _ _ hq3
      have fl := List.length_filter_le (fun q : Str × Bool => q.2) ((kinW.zip (kinF D)).take i)
      rw [List.length_take] at fl
      refine ⟨T1, _, rfl, SqT.of upd_same, rfl, _, _, rfl, _, _, rfl, rfl, rfl, ?_⟩
      refine ⟨_, rfl, _, rfl, ?_⟩
      cases bb with
      | true =>
        refine iteT ⟨_, rfl, _, hq4, sz_lt (by rw [List.length_map]; omega), same_mut (s3.trans u4) nE, by rw [upd_ne ne1]; exact u4 _ _ b1, by rw [upd_ne ne2]; exact u4 _ _ b2, ?_⟩
        rw [upd_same, List.take_succ, gz, List.filter_append, List.map_append]
        rfl
      | false =>
        refine iteF ⟨s3.trans u4, u4 _ _ b1, u4 _ _ b2, ?_⟩
        rw [hq4, List.take_succ, gz, List.filter_append, List.map_append]
        simp
    · rintro H3 ⟨s3, b1, b2, hq3⟩
      have e20 : (kinW.zip (kinF D)).take 20 = kinW.zip (kinF D) := List.take_of_length_le (by rw [List.length_zip]; exact Nat.min_le_left _ _)
      have hq5 : H3 E = some (.lst ([D].map V.str)) := by
        rw [hq3, e20, ← kin_end hD, List.map_map]
        rfl
      obtain ⟨j1, j2⟩ := kin_join hD
      have z0 : (Str.ofString "").length = 0 := by decide +kernel
      refine ⟨_, E, [D], rfl, rfl, .inl (SqL.of hq5), by simp; omega, ?_⟩
      rw [j1]
      exact k H3 s3

theorem sc_lmix : FnScope N_lmix ["_law_seed"] (defScope s_lmix) := ⟨rfl, rfl, rfl, by decide +kernel, rfl, by decide +kernel, by decide +kernel⟩
def sp_lmix : Sp := fun vs H Q _ => ∃ n : Int, vs = [.int n] ∧ ∀ r : Int, 0 ≤ r → r < 2147483563 → Q (.int r) H
theorem ok_lmix {f : Addr} {fd : FuncData} (F : FnP K "_law_mix" s_lmix f fd) (T : Txt K mg) : FnOk P w K mg base CX0 1 f fd ["_law_seed"] (sp_lmix) := by
  refine F.ok sc_lmix (fun vs H Q E h => ?_) (fun cdv A outer s H vs Q E hr h => ?_)
  · obtain ⟨n, rfl, _⟩ := h
    rfl
  · obtain ⟨n, rfl, k⟩ := h
    refine ⟨_, PSs.nox (pss_cons (ps_set (i := 1) sc_lmix.nd rfl (Or.inl rfl) (pe_op op_mod (pe_op op_add (pe_op op_mul (pv 0) pe_int) pe_int) pe_int))
          (pss_cons (ps_set (i := 2) sc_lmix.nd rfl (Or.inl rfl) (pe_op op_mod (pe_op op_add (pe_op op_add (pe_op op_mul (pv 1) (pv 1)) (pe_op op_mul pe_int (pv 1))) (pv 0)) pe_int))
          (pss_one (ps_ret (pe_op op_mod (pe_op op_add (pe_op op_add (pe_op op_mul (pv 2) (pv 2)) (pe_op op_mul pe_int (pv 2))) (pv 1)) pe_int))))), ?_⟩
    refine ⟨_, rfl, _, _, rfl, rfl, mulR (by decide) (by decide), _, _, rfl, rfl, _, _, rfl, rfl, (by decide : (0 : Int) < 2147483647), ?_⟩
    have a1 := Int.emod_nonneg (n * 48271 + 11) (by decide : (2147483647 : Int) ≠ 0)
    have a2 := Int.emod_lt_of_pos (n * 48271 + 11) (by decide : (0 : Int) < 2147483647)
    generalize (n * 48271 + 11) % 2147483647 = a at *
    refine ⟨_, rfl, _, rfl, _, _, rfl, rfl, mulL (by omega) (by omega), _, rfl, _, _, rfl, rfl, mulR (by omega) (by omega), _, _, rfl, rfl, _, rfl, _, _, rfl, rfl, _, _, rfl, rfl, (by decide : (0 : Int) < 2147483399), ?_⟩
    have b1 := Int.emod_nonneg (a * a + 40692 * a + n) (by decide : (2147483399 : Int) ≠ 0)
    have b2 := Int.emod_lt_of_pos (a * a + 40692 * a + n) (by decide : (0 : Int) < 2147483399)
    generalize (a * a + 40692 * a + n) % 2147483399 = b at *
    refine ⟨_, rfl, _, rfl, _, _, rfl, rfl, mulL (by omega) (by omega), _, rfl, _, _, rfl, rfl, mulR (by omega) (by omega), _, _, rfl, rfl, _, rfl, _, _, rfl, rfl, _, _, rfl, rfl, (by decide : (0 : Int) < 2147483563), ?_⟩
    exact k _ (Int.emod_nonneg _ (by decide)) (Int.emod_lt_of_pos _ (by decide))

theorem sc_lraw : FnScope N_lraw ["_law_script", "_law_k"] (defScope s_lraw) := ⟨rfl, rfl, rfl, by decide +kernel, rfl, by decide +kernel, by decide +kernel⟩
def sp_lraw (K : PySem.W.Frag) : Sp := fun vs H Q _ => ∃ (a : Addr) (ns : List Int) (n : Int), vs = [.ref a, .int n] ∧ SqL K H a (ns.map V.int) ∧ ns.length ≤ 63 ∧ ∀ r : Int, Q (.int r) H
theorem ok_lraw {f : Addr} {fd : FuncData} (F : FnP K "_law_raw" s_lraw f fd) (T : Txt K mg) (C_lmix : Own P w K mg base "_law_mix" ["_law_seed"] 1 (sp_lmix)) : FnOk P w K mg base CX0 2 f fd ["_law_script", "_law_k"] (sp_lraw K) := by
  refine F.ok sc_lraw (fun vs H Q E h => ?_) (fun cdv A outer s H vs Q E hr h => ?_)
  · obtain ⟨a, ns, n, rfl, _⟩ := h
    rfl
  · obtain ⟨a, ns, n, rfl, hS, hlen, k⟩ := h
    refine ⟨_, PSs.nox (pss_cons (ps_set (i := 2) sc_lraw.nd rfl (Or.inl rfl) (pe_op op_add (pe_op op_mul pe_int (pv 1)) pe_int))
          (C8.pss_cut (ps_if (pt_cmpR op_gt (pe_callB (lenK K) (by rfl) T.n_len (by decide +kernel) (pa_cons (pv 0) pa_nil)) pe_int (nomark _)) (pss_one (ps_set (i := 2) sc_lraw.nd rfl (Or.inl rfl) (pe_op op_add (pe_ix (ixl K) (pv 0) (pe_op op_mod (pv 1) (pe_callB (lenK K) (by rfl) T.n_len (by decide +kernel) (pa_cons (pv 0) pa_nil))) (fun _ _ => rfl)) (pe_op op_mul pe_int (pe_op op_fdivW (pv 1) (pe_callB (lenK K) (by rfl) T.n_len (by decide +kernel) (pa_cons (pv 0) pa_nil))))))) pss_nil)
          (C8.pss_cut (ps_if (PW.pt (pw_and (pt_cmpR op_lt (pv 1) (pe_callB (lenK K) (by rfl) T.n_len (by decide +kernel) (pa_cons (pv 0) pa_nil)) (nomark _)) (pw_and1 (pt_cmpR op_ge (pv 2) (pe_op op_pow pe_int pe_int) (nomark _))))) (pss_one (ps_ret (pe_op op_sub (pv 2) (pe_op op_pow pe_int pe_int)))) pss_nil)
          (pss_cons (ps_set (i := 3) sc_lraw.nd rfl (Or.inl rfl) pe_int)
          (C8.pss_cut (ps_for PassesOwn.never rfl (pi_range1 (by rfl) T.n_range (pa_cons pe_int pa_nil)) (pg_name (i := 4) sc_lraw.nd rfl (Or.inl rfl))
            (pss_one (ps_set (i := 3) sc_lraw.nd rfl (Or.inl rfl) (pe_op op_add (pe_op op_mul (pv 3) pe_int) (pe_own C_lmix (hr.mono (by omega)) (pa_cons (pe_op op_add (pe_op op_add (pv 2) (pe_op op_mul pe_int (pv 1))) (pe_op op_mul pe_int (pv 4))) pa_nil))))))
          (pss_one (ps_ret (pv 3)))))))), ?_⟩
    have hlm : (ns.map V.int).length = ns.length := List.length_map ..
    refine ⟨_, rfl, _, _, rfl, rfl, mulL (by decide) (by decide), _, _, rfl, rfl, ?_⟩
    refine ⟨fun σ H' => H' = H ∧ ∃ c : Int, σ = [some (.ref a), some (.int n), some (.int c), none, none], ?_, ?_⟩
    · refine ⟨_, rfl, _, _, rfl, .inl hS, _, _, rfl, rfl, _, rfl, ?_⟩
      refine ite2 (fun c1 => ?_) (fun _ => ⟨rfl, _, rfl⟩)
      have hpos : (0 : Int) < ((ns.map V.int).length : Int) := of_decide_eq_true c1
      have hm1 := Int.emod_nonneg n (by omega : ((ns.map V.int).length : Int) ≠ 0)
      have hm2 := Int.emod_lt_of_pos n hpos
      obtain ⟨v, hv⟩ : ∃ v, ns[(n % ((ns.map V.int).length : Int)).toNat]? = some v := ⟨_, List.getElem?_eq_getElem (by omega)⟩
      refine ⟨_, rfl, _, rfl, _, rfl, _, _, rfl, .inl hS, _, _, rfl, rfl, hpos, _, _, _, _, rfl, rfl, hS, at_of (j := (n % ((ns.map V.int).length : Int)).toNat) (by omega) (by rw [List.getElem?_map, hv]; rfl), ?_⟩
      refine ⟨_, rfl, _, rfl, _, _, rfl, .inl hS, _, _, rfl, rfl, wide_div hpos (b := 10) (by omega) (by decide) (by decide), _, _, rfl, rfl, mulL (by decide) (by decide), _, _, rfl, rfl, ?_⟩
      exact ⟨rfl, _, rfl⟩
    · rintro σ H' ⟨rfl, c, rfl⟩
      refine ⟨fun σ H2 => H2 = H' ∧ σ = [some (.ref a), some (.int n), some (.int c), none, none], ?_, ?_⟩
      · refine ⟨_, rfl, _, rfl, _, _, rfl, .inl hS, _, _, rfl, rfl, _, rfl, ?_⟩
        refine ite2 (fun _ => ?_) (fun _ => iteF ⟨rfl, rfl⟩)
        refine ⟨_, rfl, _, _, rfl, rfl, ⟨by decide, by decide, by decide⟩, _, _, rfl, rfl, _, rfl, ?_⟩
        refine ite2 (fun _ => ?_) (fun _ => ⟨rfl, rfl⟩)
        refine ⟨_, rfl, _, _, rfl, rfl, ⟨by decide, by decide, by decide⟩, _, _, rfl, rfl, k _⟩
      · rintro σ H2 ⟨rfl, rfl⟩
        refine ⟨fun σ H3 => H3 = H2 ∧ ∃ (r : Int) (v : Option V), σ = [some (.ref a), some (.int n), some (.int c), some (.int r), v], ?_, ?_⟩
        · refine ⟨40, rfl, by decide, by decide, for_range (lo := 0) (n := 40) (fun i σ H3 => H3 = H2 ∧ ∃ (r : Int) (v : Option V), σ = [some (.ref a), some (.int n), some (.int c), some (.int r), v]) ⟨rfl, 0, none, rfl⟩ ?_ ?_⟩
          · rintro i σ H3 hi ⟨rfl, r, v, rfl⟩
            refine ⟨_, rfl, _, _, rfl, rfl, mulR (by decide) (by decide), _, rfl, _, rfl, _, _, rfl, rfl, mulL (by decide) (by decide), _, _, rfl, rfl, _, rfl, _, _, rfl, rfl, mulL (by decide) (by decide), _, _, rfl, rfl, _, rfl, fun m _ _ => ?_⟩
            exact ⟨_, _, rfl, rfl, rfl, _, _, rfl⟩
          · rintro σ H3 ⟨rfl, r, v, rfl⟩
            exact ⟨rfl, r, v, rfl⟩
        · rintro σ H3 ⟨rfl, r, v, rfl⟩
          exact ⟨_, rfl, k r⟩

theorem sc_ldigits : FnScope N_ldigits ["_law_script", "_law_k", "_law_sizes"] (defScope s_ldigits) := ⟨rfl, rfl, rfl, by decide +kernel, rfl, by decide +kernel, by decide +kernel⟩
/-- the sizes and the digits drawn by them -/
def DigOk : List Int → List Int → Prop
  | [], [] => True
  | s :: ss, d :: ds => 0 ≤ d ∧ d < s ∧ DigOk ss ds
  | _, _ => False
theorem DigOk.length : ∀ {ss ds : List Int}, DigOk ss ds → ds.length = ss.length
  | [], [], _ => rfl
  | _ :: ss, _ :: ds, h => by
    have := DigOk.length h.2.2
    simp [this]
theorem DigOk.snoc : ∀ {ss ds : List Int} {s d : Int}, DigOk ss ds → 0 ≤ d → d < s → DigOk (ss ++ [s]) (ds ++ [d])
  | [], [], _, _, _, h1, h2 => ⟨h1, h2, trivial⟩
  | _ :: ss, _ :: ds, _, _, h, h1, h2 => ⟨h.1, h.2.1, DigOk.snoc h.2.2 h1 h2⟩
theorem DigOk.inv {s : Int} {ss ds : List Int} (h : DigOk (s :: ss) ds) : ∃ d r, ds = d :: r ∧ 0 ≤ d ∧ d < s ∧ DigOk ss r := by
  cases ds with
  | nil => exact h.elim
  | cons d r => exact ⟨d, r, rfl, h.1, h.2.1, h.2.2⟩
theorem DigOk.inv0 {ds : List Int} (h : DigOk [] ds) : ds = [] := by
  cases ds with
  | nil => rfl
  | cons d r => exact h.elim
theorem DigOk.rep : ∀ {n : Nat} {s : Int} {ds : List Int}, DigOk (List.replicate n s) ds → ds.length = n ∧ ∀ x ∈ ds, 0 ≤ x ∧ x < s
  | 0, s, ds, h => by
    rw [DigOk.inv0 h]
    exact ⟨rfl, fun x hx => by cases hx⟩
  | n + 1, s, ds, h => by
    obtain ⟨d, r, rfl, h1, h2, h3⟩ := DigOk.inv h
    obtain ⟨h4, h5⟩ := DigOk.rep h3
    refine ⟨by simp [h4], fun x hx => ?_⟩
    cases hx with
    | head => exact ⟨h1, h2⟩
    | tail _ hx => exact h5 x hx
def sp_ldigits (K : PySem.W.Frag) : Sp := fun vs H Q _ => ∃ (a b : Addr) (ns ss : List Int) (n : Int), vs = [.ref a, .int n, .ref b] ∧ SqL K H a (ns.map V.int) ∧ ns.length ≤ 63 ∧ SqL K H b (ss.map V.int) ∧ ss.length ≤ 1000 ∧ (∀ s ∈ ss, 0 < s ∧ s ≤ 10 ^ 29) ∧
  ∀ (p : Addr) (ds : List Int) (H' : Hp), H p = none → Same H H' → H' p = some (.lst (ds.map V.int)) → DigOk ss ds → Q (.ref p) H'
theorem ok_ldigits {f : Addr} {fd : FuncData} (F : FnP K "_law_digits" s_ldigits f fd) (T : Txt K mg) (C_lraw : Own P w K mg base "_law_raw" ["_law_script", "_law_k"] 2 (sp_lraw K)) : FnOk P w K mg base CX0 3 f fd ["_law_script", "_law_k", "_law_sizes"] (sp_ldigits K) := by
  refine F.ok sc_ldigits (fun vs H Q E h => ?_) (fun cdv A outer s H vs Q E hr h => ?_)
  · obtain ⟨a, b, ns, ss, n, rfl, _⟩ := h
    rfl
  · obtain ⟨a, b, ns, ss, n, rfl, hS, hlen, hB, hbl, hpos, k⟩ := h
    refine ⟨_, PSs.nox (pss_cons (ps_set (i := 3) sc_ldigits.nd rfl (Or.inl rfl) (pe_own C_lraw (hr.mono (by omega)) (pa_cons (pv 0) (pa_cons (pv 1) pa_nil))))
          (pss_cons (ps_set (i := 4) sc_ldigits.nd rfl (Or.inl rfl) (pe_lst pa_nil))
          (C8.pss_cut (ps_for PassesOwn.never rfl (pilK K (pv 2)) (pg_name (i := 5) sc_ldigits.nd rfl (Or.inl rfl))
            (pss_cons (ps_expr (pe_bm PySem.F.plainAttrs_list PySem.F.slot_list_append PySem.F.type_list_append mt_append (pv 4) (pa_cons (pe_op op_mod (pv 3) (pv 5)) pa_nil)))
              (pss_one (ps_set (i := 3) sc_ldigits.nd rfl (Or.inl rfl) (pe_op op_fdivW (pv 3) (pv 5))))))
          (pss_one (ps_ret (pv 4)))))), ?_⟩
    refine ⟨_, rfl, _, rfl, a, ns, n, rfl, hS, hlen, fun r => ?_⟩
    refine ⟨Nat.zero_le _, fun p hp => ?_⟩
    refine ⟨fun σ H' => ∃ (ds : List Int), σ[4]? = some (some (.ref p)) ∧ Same H H' ∧ H' p = some (.lst (ds.map V.int)) ∧ DigOk ss ds, ?_, ?_⟩
    · refine ⟨_, rfl, b, rfl, ⟨_, (same_new hp).seq hB⟩, for_list (K := K) (a := b) (xs := ss.map V.int) (fun i σ H' => ∃ (r : Int) (ds : List Int) (v : Option V), σ = [some (.ref a), some (.int n), some (.ref b), some (.int r), some (.ref p), v] ∧ Same H H' ∧ H' p = some (.lst (ds.map V.int)) ∧ DigOk (ss.take i) ds)
        ⟨r, [], none, rfl, same_new hp, upd_same, trivial⟩ (fun i σ H' _ ⟨_, _, _, _, s1, _⟩ => s1.seq hB) ?_ ?_⟩
      · rintro i y σ H' hi ⟨r, ds, v, rfl, s1, hq, hd⟩
        obtain ⟨z, hz, rfl⟩ := get_ints hi
        have hzz := hpos z (List.mem_of_getElem? hz)
        have hdl := hd.length
        rw [List.length_take] at hdl
        refine ⟨_, rfl, .inl ⟨rfl, _, SqL.of hq⟩, _, rfl, _, rfl, _, _, rfl, rfl, hzz.1, p, _, _, rfl, rfl, hq, sz_lt (by rw [List.length_map]; omega), ?_⟩
        refine ⟨_, rfl, _, rfl, _, _, rfl, rfl, wide_div hzz.1 (b := 100) (by omega) (by decide) (by decide), ?_⟩
        refine ⟨_, ds ++ [r % z], _, rfl, same_mut s1 hp, ?_, ?_⟩
        · rw [upd_same, List.map_append]
          rfl
        · rw [List.take_succ, hz]
          exact hd.snoc (Int.emod_nonneg _ (by omega)) (Int.emod_lt_of_pos _ hzz.1)
      · rintro σ H' ⟨r, ds, v, rfl, s1, hq, hd⟩
        rw [List.length_map, List.take_length] at hd
        exact ⟨ds, rfl, s1, hq, hd⟩
    · rintro σ H' ⟨ds, e4, s1, hq, hd⟩
      exact ⟨_, e4, k p ds H' hp s1 hq hd⟩

theorem sc_ldays : FnScope N_ldays ["_law_script", "_law_k"] (defScope s_ldays) := ⟨rfl, rfl, rfl, by decide +kernel, rfl, by decide +kernel, by decide +kernel⟩
def sp_ldays (K : PySem.W.Frag) : Sp := fun vs H Q _ => ∃ (a : Addr) (ns : List Int) (n : Int), vs = [.ref a, .int n] ∧ SqL K H a (ns.map V.int) ∧ ns.length ≤ 63 ∧
  ∀ (p : Addr) (ds : List Int) (H' : Hp), Same H H' → H p = none → H' p = some (.lst (ds.map V.int)) → 1 ≤ ds.length → ds.length ≤ 10 → DaysOk ds → Q (.ref p) H'
theorem ok_ldays {f : Addr} {fd : FuncData} (F : FnP K "_law_days" s_ldays f fd) (T : Txt K mg) (C_ldigits : Own P w K mg base "_law_digits" ["_law_script", "_law_k", "_law_sizes"] 3 (sp_ldigits K)) : FnOk P w K mg base CX0 4 f fd ["_law_script", "_law_k"] (sp_ldays K) := by
  refine F.ok sc_ldays (fun vs H Q E h => ?_) (fun cdv A outer s H vs Q E hr h => ?_)
  · obtain ⟨a, ns, n, rfl, _⟩ := h
    rfl
  · obtain ⟨a, ns, n, rfl, hS, hlen, k⟩ := h
    refine ⟨_, PSs.nox (pss_cons (ps_asg (pe_own C_ldigits (hr.mono (by omega)) (pa_cons (pv 0) (pa_cons (pv 1) (pa_cons (pe_lst (pa_cons pe_int (pa_cons pe_int pa_nil))) pa_nil)))) (pguK (n := 2) K rfl (pgs_cons (pg_name (i := 2) sc_ldays.nd rfl (Or.inl rfl)) (pgs_cons (pg_name (i := 3) sc_ldays.nd rfl (Or.inl rfl)) pgs_nil))))
          (pss_cons (ps_set (i := 4) sc_ldays.nd rfl (Or.inl rfl) (pe_own C_ldigits (hr.mono (by omega)) (pa_cons (pv 0) (pa_cons (pe_op op_add (pv 1) pe_int) (pa_cons (pe_op op_rep (pe_lst (pa_cons pe_int pa_nil)) (pe_op op_add pe_int (pv 2))) pa_nil)))))
          (pss_one (ps_ret (pe_ifExp (pt_cmpR op_gt (pv 3) pe_int (nomark _)) (by exact (pe_lc (own := [("_law_day", 5)]) rfl sc_ldays.nd (pilK K (pv 4)) (blkOk_by (own := [("_law_day", 5)]) (N := N_ldays) (sc := defScope s_ldays) (by decide +kernel)) (fun _ _ _ _ _ => by exact (pg_name (i := 5) sc_ldays.nd rfl (Or.inl rfl))) (fun _ _ _ _ _ => by exact pts_nil) (fun _ _ _ _ _ => by exact (pe_op op_add pe_int (pe_op op_mod (pv 5) pe_int))))) (pv 4)))))), ?_⟩
    refine ⟨_, rfl, _, rfl, (by show 2 ≤ sizeLine; decide), fun p0 hp0 => ?_⟩
    have s0 : Same H (upd H p0 (.lst [.int 10, .int 3])) := same_new hp0
    refine ⟨a, p0, ns, [10, 3], n, rfl, s0.seq hS, hlen, SqL.of upd_same, (by show 2 ≤ 1000; decide), ?_, fun q0 es H1 nq0 s1 hq0 dig => ?_⟩
    · intro s hs
      simp only [List.mem_cons, List.not_mem_nil, or_false] at hs
      rcases hs with rfl | rfl <;> omega
    obtain ⟨d0, _, rfl, a0, b0, dig⟩ := dig.inv
    obtain ⟨near, _, rfl, a2, b2, dig⟩ := dig.inv
    have e := dig.inv0
    subst e
    refine ⟨q0, _, rfl, SqL.of hq0, rfl, _, _, rfl, _, _, rfl, rfl, ?_⟩
    have s01 := s0.trans s1
    refine ⟨_, rfl, _, rfl, _, _, rfl, rfl, (by show 1 ≤ sizeLine; decide), fun p2 hp2 => ?_⟩
    refine ⟨_, rfl, _, _, rfl, rfl, p2, _, _, rfl, rfl, upd_same, by omega, by omega, sz_of (by simp; omega), fun p3 hp3 => ?_⟩
    have s2 : Same H1 (upd (upd H1 p2 (.lst [.int 10000])) p3 (.lst (List.replicate (1 + d0).toNat [V.int 10000]).flatten)) := (same_new hp2).trans (same_new hp3)
    refine ⟨a, p3, ns, List.replicate (1 + d0).toNat 10000, _, rfl, (s01.trans s2).seq hS, hlen, SqL.of ?_, by rw [List.length_replicate]; omega, ?_, fun d1 ds1 H2 nd1 s3 hd1 dg1 => ?_⟩
    · rw [upd_same, flat_one, List.map_replicate]
    · intro s hs
      rw [List.eq_of_mem_replicate hs]
      omega
    obtain ⟨dl1, dr1⟩ := dg1.rep
    have s02 : Same H H2 := (s01.trans s2).trans s3
    refine ⟨_, rfl, _, _, rfl, rfl, _, rfl, ?_⟩
    refine ite2 (fun _ => ?_) (fun _ => ⟨_, rfl, k d1 ds1 H2 s02 ((s01.trans s2).free nd1) hd1 (by omega) (by omega) fun x hx => ⟨(dr1 x hx).1, by have := (dr1 x hx).2; omega⟩⟩)
    refine ⟨_, rfl, d1, rfl, ⟨_, SqL.of hd1⟩, fun D hD => ?_⟩
    refine lc_list (K := K) (a := d1) (xs := ds1.map V.int) (fun i H3 => Same H2 H3 ∧ ∃ ds : List Int, H3 D = some (.lst (ds.map V.int)) ∧ ds.length = i ∧ DaysOk ds)
      ⟨same_new hD, [], upd_same, rfl, fun x hx => by cases hx⟩ (fun i H3 _ ⟨s4, _⟩ => s4.seq (SqL.of hd1)) ?_ ?_
    · rintro i y H3 hi ⟨s4, ds, hq, hl, hr'⟩
      obtain ⟨z, hz, rfl⟩ := get_ints hi
      have z1 := Int.emod_nonneg z (by decide : (15 : Int) ≠ 0)
      have z2 := Int.emod_lt_of_pos z (by decide : (0 : Int) < 15)
      have hil : i < ds1.length := (List.getElem?_eq_some_iff.mp hz).1
      refine ⟨rfl, ?_⟩
      refine ⟨_, rfl, _, _, rfl, rfl, (by decide : (0 : Int) < 15), _, _, rfl, rfl, _, hq, sz_lt (by rw [List.length_map]; omega), same_mut s4 hD, ds ++ [4990 + z % 15], ?_, by simp [hl], ?_⟩
      · rw [upd_same, List.map_append]
        rfl
      · intro x hx
        rcases List.mem_append.mp hx with hx | hx
        · exact hr' x hx
        · rw [List.mem_singleton.mp hx]
          unfold DayOk
          omega
    · rintro H3 ⟨s4, ds, hq, hl, hr'⟩
      rw [List.length_map] at hl
      exact k D ds H3 (s02.trans s4) (s02.free hD) hq (by omega) (by omega) hr'

theorem sc_lrow : FnScope N_lrow ["_law_script", "_law_k", "_law_many"] (defScope s_lrow) := ⟨rfl, rfl, rfl, by decide +kernel, rfl, by decide +kernel, by decide +kernel⟩
theorem row_of {m : Nat} {fs ls : List Nat} (pm : (fs ++ ls).Perm (List.range m)) (h1 : 1 ≤ fs.length) (h4 : fs.length ≤ 4) : RowOk (m : Int) (fs.map fun j : Nat => (j : Int)) := by
  have nd : (fs ++ ls).Nodup := pm.nodup_iff.mpr List.nodup_range
  refine ⟨⟨by rw [List.length_map]; exact h1, by rw [List.length_map]; exact h4, ?_⟩, fun x hx => ?_⟩
  · exact List.pairwise_map.mpr ((List.nodup_append.mp nd).1.imp fun {a b} h => by omega)
  · obtain ⟨j, hj, rfl⟩ := List.mem_map.mp hx
    have := List.mem_range.mp (pm.mem_iff.mp (List.mem_append_left ls hj))
    omega
def sp_lrow (K : PySem.W.Frag) : Sp := fun vs H Q _ => ∃ (a : Addr) (ns : List Int) (c : Int) (m : Nat), vs = [.ref a, .int c, .int (m : Int)] ∧ SqL K H a (ns.map V.int) ∧ ns.length ≤ 63 ∧ 1 ≤ m ∧ m ≤ 1000 ∧
  ∀ (p : Addr) (r : List Int) (H' : Hp), Same H H' → H p = none → H' p = some (.lst (r.map V.int)) → RowOk (m : Int) r → Q (.ref p) H'
theorem ok_lrow {f : Addr} {fd : FuncData} (F : FnP K "_law_row" s_lrow f fd) (T : Txt K mg) (C_ldigits : Own P w K mg base "_law_digits" ["_law_script", "_law_k", "_law_sizes"] 3 (sp_ldigits K)) : FnOk P w K mg base CX0 4 f fd ["_law_script", "_law_k", "_law_many"] (sp_lrow K) := by
  refine F.ok sc_lrow (fun vs H Q E h => ?_) (fun cdv A outer s H vs Q E hr h => ?_)
  · obtain ⟨a, ns, c, m, rfl, _⟩ := h
    rfl
  · obtain ⟨a, ns, c, m, rfl, hS, hlen, hm1, hm, k⟩ := h
    refine ⟨_, PSs.nox (pss_cons (ps_set (i := 3) sc_lrow.nd rfl (Or.inl rfl) (pe_own C_ldigits (hr.mono (by omega)) (pa_cons (pv 0) (pa_cons (pv 1) (pa_cons (pe_lst (pa_cons pe_int (pa_cons pe_int (pa_cons pe_int (pa_cons pe_int (pa_cons pe_int pa_nil)))))) pa_nil)))))
          (pss_cons (ps_set (i := 4) sc_lrow.nd rfl (Or.inl rfl) (pe_listRg rfl (by rfl) T.n_list (prg_1 (by rfl) T.n_range (pv 2))))
          (pss_cons (ps_set (i := 5) sc_lrow.nd rfl (Or.inl rfl) (pe_lst pa_nil))
          (C8.pss_cut (ps_for PassesOwn.never rfl (pilK K (pe_slice (slK K) (pv 3) (po_some pe_int) (po_some (pe_op op_add pe_int (pe_ix (ixl K) (pv 3) pe_int (fun _ _ => rfl)))))) (pg_name (i := 6) sc_lrow.nd rfl (Or.inl rfl))
            (pss_one (ps_if (pt_cmpR op_gt (pe_callB (lenK K) (by rfl) T.n_len (by decide +kernel) (pa_cons (pv 4) pa_nil)) pe_int (nomark _)) (pss_one (ps_expr (pe_bm PySem.F.plainAttrs_list PySem.F.slot_list_append PySem.F.type_list_append mt_append (pv 5) (pa_cons (pe_bm PySem.F.plainAttrs_list PySem.F.slot_list_pop PySem.F.type_list_pop mt_popAt (pv 4) (pa_cons (pe_op op_mod (pv 6) (pe_callB (lenK K) (by rfl) T.n_len (by decide +kernel) (pa_cons (pv 4) pa_nil))) pa_nil)) pa_nil)))) pss_nil)))
          (pss_one (ps_ret (pv 5))))))), ?_⟩
    refine ⟨_, rfl, _, rfl, (by show 5 ≤ sizeLine; decide), fun p0 hp0 => ?_⟩
    have u0 := same_new (o := .lst [.int 4, .int 10, .int 9, .int 8, .int 7]) hp0
    refine ⟨a, p0, ns, [4, 10, 9, 8, 7], c, rfl, u0.seq hS, hlen, SqL.of upd_same, (by show 5 ≤ 1000; decide), ?_, fun q0 es H1 nq0 s1 hq0 dig => ?_⟩
    · intro s hs
      simp only [List.mem_cons, List.not_mem_nil, or_false] at hs
      rcases hs with rfl | rfl | rfl | rfl | rfl <;> omega
    obtain ⟨d0, _, rfl, a0, b0, dig⟩ := dig.inv
    obtain ⟨e1, _, rfl, _, _, dig⟩ := dig.inv
    obtain ⟨e2, _, rfl, _, _, dig⟩ := dig.inv
    obtain ⟨e3, _, rfl, _, _, dig⟩ := dig.inv
    obtain ⟨e4, _, rfl, _, _, dig⟩ := dig.inv
    have e := dig.inv0
    subst e
    have s01 := u0.trans s1
    refine ⟨_, rfl, _, rfl, RgOk.of_le (by decide) (by omega) (by decide) (by omega), fun q hq => ?_⟩
    have eq0 : rgV 0 (m : Int) = ((List.range m).map fun j : Nat => (j : Int)).map V.int := by
      unfold rgV
      rw [show ((m : Int) - 0).toNat = m by omega, List.map_map]
      exact List.map_congr_left fun j _ => by simp
    rw [eq0]
    have u2 := same_new (o := .lst (((List.range m).map fun j : Nat => (j : Int)).map V.int)) hq
    refine ⟨Nat.zero_le _, fun p hp => ?_⟩
    have npq : q ≠ p := ne_of_none upd_same hp
    have u3 := u2.trans (same_new (o := .lst []) hp)
    have np : H p = none := (s01.trans u2).free hp
    have nq : H q = none := s01.free hq
    have s03 := s01.trans u3
    obtain ⟨zs, ez, zl1, zl4⟩ : ∃ zs : List Int, cutV ([d0, e1, e2, e3, e4].map V.int) (some 1) (some (2 + d0)) = zs.map V.int ∧ 1 ≤ zs.length ∧ zs.length ≤ 4 := by
      have k4 : d0 = 0 ∨ d0 = 1 ∨ d0 = 2 ∨ d0 = 3 := by omega
      rcases k4 with rfl | rfl | rfl | rfl
      · exact ⟨[e1], rfl, by simp, by simp⟩
      · exact ⟨[e1, e2], rfl, by simp, by simp⟩
      · exact ⟨[e1, e2, e3], rfl, by simp, by simp⟩
      · exact ⟨[e1, e2, e3, e4], rfl, by simp, by simp⟩
    refine ⟨fun σ H2 => ∃ fs ls : List Nat, σ[5]? = some (some (.ref p)) ∧ Same H H2 ∧ H2 p = some (.lst ((fs.map fun j : Nat => (j : Int)).map V.int)) ∧ (fs ++ ls).Perm (List.range m) ∧ 1 ≤ fs.length ∧ fs.length ≤ 4, ?_, ?_⟩
    · refine ⟨_, rfl, _, rfl, _, rfl, q0, _, _, _, rfl, rfl, SqL.of (u3 _ _ hq0), rfl, _, _, rfl, rfl, _, rfl, q0, _, rfl, SqL.of (u3 _ _ hq0), fun b hb => ?_⟩
      rw [ez]
      have u4 := same_new (o := .lst (zs.map V.int)) hb
      have nqb : q ≠ b := ne_of_none (show _ = some _ by rw [upd_ne npq, upd_same]) hb
      have npb : p ≠ b := ne_of_none upd_same hb
      refine ⟨b, rfl, ⟨_, SqL.of upd_same⟩, for_list (K := K) (a := b) (xs := zs.map V.int) (fun i σ H4 => ∃ (fs ls : List Nat) (v6 : Option V), σ = [some (.ref a), some (.int c), some (.int (m : Int)), some (.ref q0), some (.ref q), some (.ref p), v6] ∧ Same H H4 ∧ H4 b = some (.lst (zs.map V.int)) ∧ H4 p = some (.lst ((fs.map fun j : Nat => (j : Int)).map V.int)) ∧ H4 q = some (.lst ((ls.map fun j : Nat => (j : Int)).map V.int)) ∧ fs.length = min i m ∧ (fs ++ ls).Perm (List.range m))
        ⟨[], List.range m, none, rfl, s03.trans u4, upd_same, u4 _ _ upd_same, u4 _ _ (by rw [upd_ne npq, upd_same]), (by simp), List.Perm.refl _⟩ (fun i σ H4 _ ⟨_, _, _, _, _, h4, _⟩ => SqL.of h4) ?_ ?_⟩
      · rintro i y σ H4 hi ⟨fs, ls, v6, rfl, s4, hb4, hp4, hq4, hfl, pm⟩
        obtain ⟨z, hz, rfl⟩ := get_ints hi
        have hil : i < zs.length := (List.getElem?_eq_some_iff.mp hz).1
        have hpl := pm.length_eq
        rw [List.length_append, List.length_range] at hpl
        have lm : ((ls.map fun j : Nat => (j : Int)).map V.int).length = ls.length := by rw [List.length_map, List.length_map]
        refine ⟨_, rfl, _, _, rfl, .inl (SqL.of hq4), _, _, rfl, rfl, _, rfl, ?_⟩
        refine ite2 (fun c => ?_) (fun c => ?_)
        · have hls : 0 < ls.length := by
            have := of_decide_eq_true c
            omega
          have z1 := Int.emod_nonneg z (show (((ls.map fun j : Nat => (j : Int)).map V.int).length : Int) ≠ 0 by omega)
          have z2 := Int.emod_lt_of_pos z (show (0 : Int) < (((ls.map fun j : Nat => (j : Int)).map V.int).length : Int) by omega)
          obtain ⟨x, hx⟩ : ∃ x, ls[(z % (((ls.map fun j : Nat => (j : Int)).map V.int).length : Int)).toNat]? = some x := ⟨_, List.getElem?_eq_getElem (by omega)⟩
          refine ⟨_, rfl, .inl ⟨rfl, _, SqL.of hp4⟩, _, rfl, .inl ⟨rfl, _, SqL.of hq4⟩, ?_⟩
          refine ⟨_, rfl, _, rfl, _, _, rfl, .inl (SqL.of hq4), _, _, rfl, rfl, (by omega : (0 : Int) < (((ls.map fun j : Nat => (j : Int)).map V.int).length : Int)), ?_⟩
          refine ⟨q, _, _, (z % (((ls.map fun j : Nat => (j : Int)).map V.int).length : Int)).toNat, _, rfl, rfl, hq4, by omega, by omega, seqIndex_of z1 z2, (by rw [List.getElem?_map, List.getElem?_map, hx]; rfl : _ = some (V.int (x : Int))), ?_⟩
          refine ⟨p, _, _, rfl, rfl, by rw [upd_ne npq.symm]; exact hp4, sz_lt (by rw [List.length_map, List.length_map]; omega), ?_⟩
          refine ⟨fs ++ [x], ls.eraseIdx (z % (((ls.map fun j : Nat => (j : Int)).map V.int).length : Int)).toNat, _, rfl, same_mut (same_mut s4 nq) np, ?_, ?_, ?_, by rw [List.length_append, List.length_singleton, hfl]; omega, ?_⟩
          · rw [upd_ne npb.symm, upd_ne nqb.symm]
            exact hb4
          · rw [upd_same, List.map_append, List.map_append]
            rfl
          · rw [upd_ne npq, upd_same, erase_map, erase_map]
          · rw [List.append_assoc]
            exact (List.Perm.append_left fs (perm_erase hx)).trans pm
        · have hls : ls.length = 0 := by
            rcases Nat.eq_zero_or_pos ls.length with z | z
            · exact z
            · exact absurd (decide_eq_true (by omega)) c
          exact ⟨fs, ls, _, rfl, s4, hb4, hp4, hq4, by omega, pm⟩
      · rintro σ H4 ⟨fs, ls, v6, rfl, s4, hb4, hp4, hq4, hfl, pm⟩
        rw [List.length_map] at hfl
        exact ⟨fs, ls, rfl, s4, hp4, pm, by omega, by omega⟩
    · rintro σ H2 ⟨fs, ls, g, s2, hp2, pm, l1, l4⟩
      exact ⟨_, g, k p _ H2 s2 np hp2 (row_of pm l1 l4)⟩

theorem sc_lrun : FnScope N_lrun ["_law_script", "_law_k", "_law_days_here"] (defScope s_lrun) := ⟨rfl, rfl, rfl, by decide +kernel, rfl, by decide +kernel, by decide +kernel⟩
def sp_lrun (K : PySem.W.Frag) : Sp := fun vs H Q _ => ∃ (a b : Addr) (ns ds : List Int) (n : Int), vs = [.ref a, .int n, .ref b] ∧ SqL K H a (ns.map V.int) ∧ ns.length ≤ 63 ∧ SqL K H b (ds.map V.int) ∧ 1 ≤ ds.length ∧ ds.length ≤ 10 ∧ DaysOk ds ∧
  ∀ (p : Addr) (s : Int) (o : Option Int) (H' : Hp), Same H H' → H p = none → H' p = some (.tup [.int s, optV o]) → RunOk s o → Q (.ref p) H'
theorem ok_lrun {f : Addr} {fd : FuncData} (F : FnP K "_law_run" s_lrun f fd) (T : Txt K mg) (C_ldigits : Own P w K mg base "_law_digits" ["_law_script", "_law_k", "_law_sizes"] 3 (sp_ldigits K)) : FnOk P w K mg base CX0 4 f fd ["_law_script", "_law_k", "_law_days_here"] (sp_lrun K) := by
  refine F.ok sc_lrun (fun vs H Q E h => ?_) (fun cdv A outer s H vs Q E hr h => ?_)
  · obtain ⟨a, b, ns, ds, n, rfl, _⟩ := h
    rfl
  · obtain ⟨a, b, ns, ds, n, rfl, hS, hlen, hD, dl1, dl10, dok, k⟩ := h
    refine ⟨_, PSs.nox (pss_cons (ps_asg (pe_own C_ldigits (hr.mono (by omega)) (pa_cons (pv 0) (pa_cons (pv 1) (pa_cons (pe_lst (pa_cons pe_int (pa_cons (pe_callB (call_max2 rfl) (by rfl) T.n_max (by decide +kernel) (pa_cons pe_int (pa_cons (pe_callB (lenK K) (by rfl) T.n_len (by decide +kernel) (pa_cons (pv 2) pa_nil)) pa_nil))) (pa_cons pe_int (pa_cons pe_int (pa_cons pe_int pa_nil)))))) pa_nil)))) (pguK (n := 5) K rfl (pgs_cons (pg_name (i := 3) sc_lrun.nd rfl (Or.inl rfl)) (pgs_cons (pg_name (i := 4) sc_lrun.nd rfl (Or.inl rfl)) (pgs_cons (pg_name (i := 5) sc_lrun.nd rfl (Or.inl rfl)) (pgs_cons (pg_name (i := 6) sc_lrun.nd rfl (Or.inl rfl)) (pgs_cons (pg_name (i := 7) sc_lrun.nd rfl (Or.inl rfl)) pgs_nil)))))))
          (C8.pss_cut (ps_set (i := 8) sc_lrun.nd rfl (Or.inl rfl) (pe_ifExp (PW.pt (pw_or (pt_cmpR op_eq (pv 3) pe_int (nomark _)) (pw_or1 (pt_cmpR (eqDK K hr.units) (pv 2) (pe_lst pa_nil) (nomark _))))) (pv 5) (pe_callB (call_max2 rfl) (by rfl) T.n_max (by decide +kernel) (pa_cons pe_int (pa_cons (pe_callB (call_min2 rfl) (by rfl) T.n_min (by decide +kernel) (pa_cons pe_int (pa_cons (pe_op op_sub (pe_op op_add (pe_ix (ixl K) (pv 2) (pv 4) (fun _ _ => rfl)) (pv 5)) pe_int) pa_nil))) pa_nil)))))
          (pss_cons (ps_set (i := 9) sc_lrun.nd rfl (Or.inl rfl) (pe_ix (ixl K) (pe_lst (pa_cons pe_non (pa_cons (pe_op op_add (pe_op op_add (pv 8) pe_int) (pe_op op_mod (pv 6) pe_int)) (pa_cons (pe_op op_add (pe_op op_add (pv 8) pe_int) (pe_op op_mod (pv 6) pe_int)) (pa_cons (pe_op op_add (pe_op op_add (pv 8) pe_int) (pv 6)) (pa_cons pe_int pa_nil)))))) (pv 7) (fun _ _ => rfl)))
          (pss_one (ps_ret (pe_tup (pa_cons (pv 8) (pa_cons (pe_ifExp (pt_cmpR op_isN (pv 9) pe_non (nomark _)) pe_non (pe_callB (call_min2 rfl) (by rfl) T.n_min (by decide +kernel) (pa_cons pe_int (pa_cons (pv 9) pa_nil)))) pa_nil)))))))), ?_⟩
    refine ⟨_, rfl, _, rfl, _, rfl, _, _, rfl, .inl hD, _, _, rfl, (by show 5 ≤ sizeLine; decide), fun p0 hp0 => ?_⟩
    have em : (if ((ds.map V.int).length : Int) > 1 then ((ds.map V.int).length : Int) else 1) = (ds.length : Int) := by
      rw [List.length_map]
      split <;> omega
    rw [em]
    have u0 := same_new (o := .lst [V.int 2, .int (ds.length : Int), .int 13, .int 10000, .int 5]) hp0
    refine ⟨a, p0, ns, [2, (ds.length : Int), 13, 10000, 5], n, rfl, u0.seq hS, hlen, SqL.of upd_same, (by show 5 ≤ 1000; decide), ?_, fun q0 es H1 nq0 s1 hq0 dig => ?_⟩
    · intro s hs
      simp only [List.mem_cons, List.not_mem_nil, or_false] at hs
      rcases hs with rfl | rfl | rfl | rfl | rfl <;> omega
    obtain ⟨near, _, rfl, a0, b0, dig⟩ := dig.inv
    obtain ⟨at', _, rfl, a1, b1, dig⟩ := dig.inv
    obtain ⟨shift, _, rfl, a2, b2, dig⟩ := dig.inv
    obtain ⟨wide, _, rfl, a3, b3, dig⟩ := dig.inv
    obtain ⟨way, _, rfl, a4, b4, dig⟩ := dig.inv
    have e := dig.inv0
    subst e
    refine ⟨q0, _, rfl, SqL.of hq0, rfl, _, _, rfl, _, _, rfl, _, _, rfl, _, _, rfl, _, _, rfl, rfl, ?_⟩
    have s01 := u0.trans s1
    refine ⟨fun σ H2 => ∃ s : Int, σ = [some (.ref a), some (.int n), some (.ref b), some (.int near), some (.int at'), some (.int shift), some (.int wide), some (.int way), some (.int s), none] ∧ Same H H2 ∧ DayOk s, ?_, ?_⟩
    · refine ⟨_, rfl, rfl, _, rfl, ?_⟩
      refine ite2 (fun c => ⟨_, rfl, shift, rfl, s01, by unfold DayOk; omega⟩) (fun c => ?_)
      refine ⟨_, rfl, Nat.zero_le _, fun e0 he0 => ?_⟩
      have u2 := same_new (o := .lst []) he0
      refine ⟨intsD ds, .list [], dp_ints ((s01.trans u2).seq hD), dp_nil upd_same, shaped_ints _, rfl, _, rfl, ?_⟩
      rw [eqv_ints_nil]
      refine iteDF (by intro z; rw [z] at dl1; simp at dl1) ?_
      refine ⟨_, rfl, _, rfl, b, _, _, _, rfl, rfl, (s01.trans u2).seq hD, at_ints (by omega) (by omega), _, rfl, _, _, rfl, rfl, _, _, rfl, rfl, _, _, rfl, _, _, rfl, _, rfl, s01.trans u2, ?_⟩
      unfold DayOk
      split <;> split <;> omega
    rintro σ H2 ⟨s, rfl, s02, sok⟩
    refine ⟨_, rfl, _, _, rfl, rfl, _, rfl, _, _, rfl, rfl, (by decide : (0 : Int) < 12), _, _, rfl, rfl, _, rfl, _, _, rfl, rfl, _, rfl, _, _, rfl, rfl, (by decide : (0 : Int) < 12), _, _, rfl, rfl, _, rfl, _, _, rfl, rfl, _, rfl, _, _, rfl, rfl, (by show 5 ≤ sizeLine; decide), fun p3 hp3 => ?_⟩
    have u3 := same_new (o := .lst [V.non, .int (s + 1 + wide % 12), .int (s + 1 + wide % 12), .int (s + 1 + wide), .int 10000]) hp3
    have w1 := Int.emod_nonneg wide (by decide : (12 : Int) ≠ 0)
    obtain ⟨o, eo, bo⟩ : ∃ o : Option Int, atI [V.non, .int (s + 1 + wide % 12), .int (s + 1 + wide % 12), .int (s + 1 + wide), .int 10000] way = some (optV o) ∧ ∀ e, o = some e → s < e := by
      unfold DayOk at sok
      have k5 : way = 0 ∨ way = 1 ∨ way = 2 ∨ way = 3 ∨ way = 4 := by omega
      rcases k5 with rfl | rfl | rfl | rfl | rfl
      · exact ⟨none, rfl, fun e z => by cases z⟩
      · exact ⟨some (s + 1 + wide % 12), rfl, fun e z => by cases z; omega⟩
      · exact ⟨some (s + 1 + wide % 12), rfl, fun e z => by cases z; omega⟩
      · exact ⟨some (s + 1 + wide), rfl, fun e z => by cases z; omega⟩
      · exact ⟨some 10000, rfl, fun e z => by cases z; omega⟩
    refine ⟨_, rfl, p3, _, _, _, rfl, rfl, SqL.of upd_same, eo, ?_⟩
    refine ⟨_, rfl, _, rfl, rfl, _, rfl, ?_⟩
    have s03 := s02.trans u3
    cases o with
    | none =>
      refine iteD rfl ⟨(by show 2 ≤ sizeLine; decide), fun p4 hp4 => ?_⟩
      exact k p4 s none _ (s03.trans (same_new hp4)) (s03.free hp4) upd_same ⟨sok, fun e z => by cases z⟩
    | some e =>
      have se := bo e rfl
      refine iteDF (by intro z; cases z) ⟨_, rfl, _, _, rfl, (by show 2 ≤ sizeLine; decide), fun p4 hp4 => ?_⟩
      refine k p4 s (some (if e < 10000 then e else 10000)) _ (s03.trans (same_new hp4)) (s03.free hp4) upd_same ⟨sok, fun x z => ?_⟩
      cases z
      unfold DayOk at sok
      split <;> omega

theorem sc_lfar : FnScope N_lfar ["_law_number", "_law_way"] (defScope s_lfar) := ⟨rfl, rfl, rfl, by decide +kernel, rfl, by decide +kernel, by decide +kernel⟩
def sp_lfar : Sp := fun vs H Q _ => ∃ n m : Int, vs = [.int n, .int m] ∧ ∀ (r : Int) (H' : Hp), Same H H' → Q (.int r) H'
theorem ok_lfar {f : Addr} {fd : FuncData} (F : FnP K "_law_far" s_lfar f fd) (T : Txt K mg) : FnOk P w K mg base CX0 1 f fd ["_law_number", "_law_way"] (sp_lfar) := by
  refine F.ok sc_lfar (fun vs H Q E h => ?_) (fun cdv A outer s H vs Q E hr h => ?_)
  · obtain ⟨n, m, rfl, _⟩ := h
    rfl
  · obtain ⟨n, m, rfl, k⟩ := h
    refine ⟨_, PSs.nox (pss_one (ps_ret (pe_ix (ixl K) (pe_lst (pa_cons (pv 0) (pa_cons (pe_op op_sub (pe_op op_sub pe_int pe_int) (pv 0)) (pa_cons (pe_op op_sub (pe_op op_pow pe_int pe_int) (pv 0)) (pa_cons (pe_op op_sub (pv 0) (pe_op op_pow pe_int pe_int)) pa_nil))))) (pe_op op_mod (pv 1) pe_int) (fun _ _ => rfl)))), ?_⟩
    refine ⟨_, rfl, _, _, rfl, rfl, _, rfl, _, _, rfl, rfl, _, _, rfl, rfl, ⟨by decide, by decide, by decide⟩, _, rfl, _, _, rfl, rfl, _, rfl, _, _, rfl, rfl, ⟨by decide, by decide, by decide⟩, _, _, rfl, rfl, (by show 4 ≤ sizeLine; decide), fun p hp => ?_⟩
    refine ⟨_, rfl, _, _, rfl, rfl, (by decide : (0 : Int) < 4), ?_⟩
    have a1 := Int.emod_nonneg m (by decide : (4 : Int) ≠ 0)
    have a2 := Int.emod_lt_of_pos m (by decide : (0 : Int) < 4)
    obtain ⟨j, hj, e⟩ : ∃ j : Nat, j < 4 ∧ m % 4 = (j : Int) := ⟨(m % 4).toNat, by omega, by omega⟩
    show rIxL K (V.ref p) (V.int (m % 4)) _ _
    rw [e]
    match j, hj with
    | 0, _ => exact ⟨p, _, _, _, rfl, rfl, SqL.of upd_same, rfl, k _ _ (same_new hp)⟩
    | 1, _ => exact ⟨p, _, _, _, rfl, rfl, SqL.of upd_same, rfl, k _ _ (same_new hp)⟩
    | 2, _ => exact ⟨p, _, _, _, rfl, rfl, SqL.of upd_same, rfl, k _ _ (same_new hp)⟩
    | 3, _ => exact ⟨p, _, _, _, rfl, rfl, SqL.of upd_same, rfl, k _ _ (same_new hp)⟩

theorem sc_lword : FnScope N_lword ["_law_door", "_law_row_here", "_law_days_here", "_law_day", "_law_stop"] (defScope s_lword) := ⟨rfl, rfl, rfl, by decide +kernel, rfl, by decide +kernel, by decide +kernel⟩
def sp_lword (K : PySem.W.Frag) : Sp := fun vs H Q _ => ∃ (door : Int) (a b : Addr) (r ds : List Int) (s : Int) (o : Option Int), vs = [.int door, .ref a, .ref b, .int s, optV o] ∧ 0 ≤ door ∧ door ≤ 2 ∧ SqL K H a (r.map V.int) ∧ r.length ≤ 1000 ∧ SqL K H b (ds.map V.int) ∧
  ∀ (H' : Hp), Same H H' → Q (.str (dueW door r ds s o)) H'
theorem ok_lword {f : Addr} {fd : FuncData} (F : FnP K "_law_word" s_lword f fd) (T : Txt K mg) (C_holder : OwnX P w K mg base "holder" ["row", "days", "day"] 4 (sp_holder K)) (C_turns : OwnD P w K mg base "turns" s_turns ["row", "days", "start", "end"] [V.int 0, V.non] 4 (sp_turns K)) (C_in_holding : OwnD P w K mg base "in_holding" s_in_holding ["row", "days", "start", "end"] [V.int 0, V.non] 5 (sp_in_holding K)) (C_lkin : OwnE P w K mg base "_law_kin" ["_law_e"] 1 (sp_lkin K)) : FnOk P w K mg base CX0 6 f fd ["_law_door", "_law_row_here", "_law_days_here", "_law_day", "_law_stop"] (sp_lword K) := by
  refine F.ok sc_lword (fun vs H Q E h => ?_) (fun cdv A outer s H vs Q E hr h => ?_)
  · obtain ⟨door, a, b, r, ds, s, o, rfl, _⟩ := h
    rfl
  · obtain ⟨door, a, b, r, ds, s, o, rfl, d0, d2, hR, hrl, hD, k⟩ := h
    refine ⟨_, PSs.nox (pss_cons (ps_set (i := 5) sc_lword.nd rfl (Or.inl rfl) pe_str)
          (C8.pss_cut (L2N.ps_try_as (i := 6) rfl rfl sc_lword.nd rfl rfl ⟨rfl, by decide, .inl T.g_HoldError⟩ takesN (fun W pn xe tk po => (pss_one (ps_if (pt_cmpR op_eq (pv 0) pe_int (nomark _)) (pss_one (ps_expr (pe_ownX C_holder (hr.mono (by omega)) tk (pa_cons (pv 1) (pa_cons (pv 2) (pa_cons (pv 3) pa_nil)))))) (pss_one (ps_if (pt_cmpR op_eq (pv 0) pe_int (nomark _)) (pss_one (ps_expr (pe_ownDX 4 [] (fun {_} us its ws => us ++ []) C_turns (hr.mono (by omega)) tk (fun r1 r2 r3 => r1.append .nil) (fun _ _ _ _ _ _ _ us its ws h1 h2 h3 => match us, its, ws, h1, h2, h3 with | [_, _, _, _], [_, _], [], _, _, _ => ⟨_, rfl, rfl⟩) (pa_cons (pv 1) (pa_cons (pv 2) (pa_cons (pv 3) (pa_cons (pv 4) pa_nil)))) pk_nil))) (pss_one (ps_expr (pe_ownDX 2 ["start", "end"] (fun {_} us its ws => us ++ ((ws.drop 0).take 1 ++ ((ws.drop 1).take 1 ++ []))) C_in_holding (hr.mono (by omega)) tk (fun r1 r2 r3 => r1.append (((r3.drop 0).take 1).append (((r3.drop 1).take 1).append .nil))) (fun _ _ _ _ _ _ _ us its ws h1 h2 h3 => match us, its, ws, h1, h2, h3 with | [_, _], [_, _], [_, _], _, _, _ => ⟨_, rfl, rfl⟩) (pa_cons (pv 1) (pa_cons (pv 2) pa_nil)) (pk_cons (pv 3) (pk_cons (pv 4) pk_nil)))))))))) (fun a oe cls d pn hz hf => (pss_one (ps_set (i := 5) sc_lword.nd rfl (Or.inl rfl) (pe_callE C_lkin (roomS (hr.mono (by omega))) hz hf (pa_cons (pv 6) pa_nil))))))
          (pss_one (ps_ret (pv 5))))), ?_⟩
    have not_not : ∀ {p : Prop}, p → ¬ ¬ p := fun h z => z h
    refine ⟨fun σ H1 => σ[5]? = some (some (.str (dueW door r ds s o))) ∧ Same H H1, ?_, ?_⟩
    · refine ⟨_, rfl, rfl, _, rfl, ?_⟩
      by_cases hz : door = 0
      · subst hz
        refine iteD rfl ?_
        refine ⟨_, rfl, _, rfl, _, rfl, a, b, r, ds, s, rfl, hR, hrl, hD, .or (fun hc => .or (fun hd => .or (fun ok => .or (fun go => ?_) (fun no => ?_)) (fun no => ?_)) (fun no => ?_)) (fun no => ?_)⟩
        · refine ⟨?_, Same.refl _⟩
          unfold dueW
          rw [if_neg (not_not hc), if_neg (not_not hd), if_neg (not_not ok), if_pos rfl, if_neg (not_not go)]
          rfl
        · refine ⟨true, T.e_BadDay.up, fun _ a ha => ?_, fun z => by cases z⟩
          refine ⟨_, rfl, "BadDay", false, by decide, T.e_BadDay, rfl, rfl, rfl, fun H2 s2 => ?_⟩
          refine ⟨?_, s2⟩
          unfold dueW
          rw [if_neg (not_not hc), if_neg (not_not hd), if_neg (not_not ok), if_pos rfl, if_pos no]
          rfl
        · refine ⟨true, T.e_BadRow.up, fun _ a ha => ?_, fun z => by cases z⟩
          refine ⟨_, rfl, "BadRow", false, by decide, T.e_BadRow, rfl, rfl, rfl, fun H2 s2 => ?_⟩
          refine ⟨?_, s2⟩
          unfold dueW
          rw [if_neg (not_not hc), if_neg (not_not hd), if_pos no]
          rfl
        · refine ⟨true, T.e_BadDay.up, fun _ a ha => ?_, fun z => by cases z⟩
          refine ⟨_, rfl, "BadDay", false, by decide, T.e_BadDay, rfl, rfl, rfl, fun H2 s2 => ?_⟩
          refine ⟨?_, s2⟩
          unfold dueW
          rw [if_neg (not_not hc), if_pos no]
          rfl
        · refine ⟨true, T.e_BadCount.up, fun _ a ha => ?_, fun z => by cases z⟩
          refine ⟨_, rfl, "BadCount", false, by decide, T.e_BadCount, rfl, rfl, rfl, fun H2 s2 => ?_⟩
          refine ⟨?_, s2⟩
          unfold dueW
          rw [if_pos no]
          rfl
      · refine iteDF (by intro z; injection z with z; exact hz z) ?_
        refine ⟨_, rfl, rfl, _, rfl, ?_⟩
        refine ite2 (fun _ => ?_) (fun _ => ?_)
        · refine ⟨_, rfl, _, rfl, _, rfl, _, rfl, rfl, rfl, a, b, r, ds, s, o, rfl, hR, hrl, hD, .or (fun hc => .or (fun hd => .or (fun ok => .or (fun go => ?_) (fun no => ?_)) (fun no => ?_)) (fun no => ?_)) (fun no => ?_)⟩
          · intro p xs H1 s1 np hp ht
            refine ⟨?_, s1⟩
            unfold dueW
            rw [if_neg (not_not hc), if_neg (not_not hd), if_neg (not_not ok), if_neg hz, if_neg (not_not go)]
            rfl
          · refine ⟨true, T.e_BadDay.up, fun _ a ha => ?_, fun z => by cases z⟩
            refine ⟨_, rfl, "BadDay", false, by decide, T.e_BadDay, rfl, rfl, rfl, fun H2 s2 => ?_⟩
            refine ⟨?_, s2⟩
            unfold dueW
            rw [if_neg (not_not hc), if_neg (not_not hd), if_neg (not_not ok), if_neg hz, if_pos no]
            rfl
          · refine ⟨true, T.e_BadRow.up, fun _ a ha => ?_, fun z => by cases z⟩
            refine ⟨_, rfl, "BadRow", false, by decide, T.e_BadRow, rfl, rfl, rfl, fun H2 s2 => ?_⟩
            refine ⟨?_, s2⟩
            unfold dueW
            rw [if_neg (not_not hc), if_neg (not_not hd), if_pos no]
            rfl
          · refine ⟨true, T.e_BadDay.up, fun _ a ha => ?_, fun z => by cases z⟩
            refine ⟨_, rfl, "BadDay", false, by decide, T.e_BadDay, rfl, rfl, rfl, fun H2 s2 => ?_⟩
            refine ⟨?_, s2⟩
            unfold dueW
            rw [if_neg (not_not hc), if_pos no]
            rfl
          · refine ⟨true, T.e_BadCount.up, fun _ a ha => ?_, fun z => by cases z⟩
            refine ⟨_, rfl, "BadCount", false, by decide, T.e_BadCount, rfl, rfl, rfl, fun H2 s2 => ?_⟩
            refine ⟨?_, s2⟩
            unfold dueW
            rw [if_pos no]
            rfl
        · refine ⟨_, rfl, _, rfl, _, rfl, _, rfl, rfl, rfl, a, b, r, ds, s, o, rfl, hR, hrl, hD, .or (fun hc => .or (fun hd => .or (fun ok => .or (fun go => ?_) (fun no => ?_)) (fun no => ?_)) (fun no => ?_)) (fun no => ?_)⟩
          · intro p H1 s1 np hp
            refine ⟨?_, s1⟩
            unfold dueW
            rw [if_neg (not_not hc), if_neg (not_not hd), if_neg (not_not ok), if_neg hz, if_neg (not_not go)]
            rfl
          · refine ⟨true, T.e_BadDay.up, fun _ a ha => ?_, fun z => by cases z⟩
            refine ⟨_, rfl, "BadDay", false, by decide, T.e_BadDay, rfl, rfl, rfl, fun H2 s2 => ?_⟩
            refine ⟨?_, s2⟩
            unfold dueW
            rw [if_neg (not_not hc), if_neg (not_not hd), if_neg (not_not ok), if_neg hz, if_pos no]
            rfl
          · refine ⟨true, T.e_BadRow.up, fun _ a ha => ?_, fun z => by cases z⟩
            refine ⟨_, rfl, "BadRow", false, by decide, T.e_BadRow, rfl, rfl, rfl, fun H2 s2 => ?_⟩
            refine ⟨?_, s2⟩
            unfold dueW
            rw [if_neg (not_not hc), if_neg (not_not hd), if_pos no]
            rfl
          · refine ⟨true, T.e_BadDay.up, fun _ a ha => ?_, fun z => by cases z⟩
            refine ⟨_, rfl, "BadDay", false, by decide, T.e_BadDay, rfl, rfl, rfl, fun H2 s2 => ?_⟩
            refine ⟨?_, s2⟩
            unfold dueW
            rw [if_neg (not_not hc), if_pos no]
            rfl
          · refine ⟨true, T.e_BadCount.up, fun _ a ha => ?_, fun z => by cases z⟩
            refine ⟨_, rfl, "BadCount", false, by decide, T.e_BadCount, rfl, rfl, rfl, fun H2 s2 => ?_⟩
            refine ⟨?_, s2⟩
            unfold dueW
            rw [if_pos no]
            rfl
    · rintro σ H1 ⟨g, s1⟩
      exact ⟨_, g, k H1 s1⟩

theorem sc_ldue : FnScope N_ldue ["_law_door", "_law_row_here", "_law_days_here", "_law_day", "_law_stop"] (defScope s_ldue) := ⟨rfl, rfl, rfl, by decide +kernel, rfl, by decide +kernel, by decide +kernel⟩
def sp_ldue (K : PySem.W.Frag) : Sp := fun vs H Q _ => ∃ (door : Int) (a b : Addr) (r ds : List Int) (s : Int) (o : Option Int), vs = [.int door, .ref a, .ref b, .int s, optV o] ∧ 0 ≤ door ∧ door ≤ 2 ∧ SqL K H a (r.map V.int) ∧ r.length ≤ 1000 ∧ SqL K H b (ds.map V.int) ∧ ds.length ≤ 1000 ∧
  ∀ (H' : Hp), Same H H' → Q (.str (dueW door r ds s o)) H'
/-- all([lo <= x <= hi for x in xs]) and its like -/
theorem all_take {ns : List Int} {p : Int → Bool} {i : Nat} {x : Int} (h : ns[i]? = some x) : ((ns.take (i + 1)).map p) = (ns.take i).map p ++ [p x] := by
  rw [List.take_succ, h, List.map_append]
  rfl
theorem ok_ldue {f : Addr} {fd : FuncData} (F : FnP K "_law_due" s_ldue f fd) (T : Txt K mg) : FnOk P w K mg base CX0 1 f fd ["_law_door", "_law_row_here", "_law_days_here", "_law_day", "_law_stop"] (sp_ldue K) := by
  refine F.ok sc_ldue (fun vs H Q E h => ?_) (fun cdv A outer s H vs Q E hr h => ?_)
  · obtain ⟨door, a, b, r, ds, s, o, rfl, _⟩ := h
    rfl
  · obtain ⟨door, a, b, r, ds, s, o, rfl, d0, d2, hR, hrl, hD, hdl, k⟩ := h
    refine ⟨_, PSs.nox (C8.pss_cut (ps_if (pt_not (pt_chain op_le op_le pe_int (pe_callB (lenK K) (by rfl) T.n_len (by decide +kernel) (pa_cons (pv 2) pa_nil)) pe_int)) (pss_one (ps_ret pe_str)) pss_nil)
          (C8.pss_cut (ps_if (pt_not (pt_val (pe_callB (allK K rfl) (by rfl) T.n_all (by decide +kernel) (pa_cons (by exact (pe_lc (own := [("_law_one", 5)]) rfl sc_ldue.nd (pilK K (pv 2)) (blkOk_by (own := [("_law_one", 5)]) (N := N_ldue) (sc := defScope s_ldue) (by decide +kernel)) (fun _ _ _ _ _ => by exact (pg_name (i := 5) sc_ldue.nd rfl (Or.inl rfl))) (fun _ _ _ _ _ => by exact pts_nil) (fun _ _ _ _ _ => by exact (pe_chain op_le op_le pe_int (pv 5) pe_int)))) pa_nil)))) (pss_one (ps_ret pe_str)) pss_nil)
          (C8.pss_cut (ps_if (PW.pt (pw_or (pt_not (pt_chain op_le op_le pe_int (pe_callB (lenK K) (by rfl) T.n_len (by decide +kernel) (pa_cons (pv 1) pa_nil)) pe_int)) (pw_or (pt_cmpR op_lt (pe_lenSetG K (by rfl) T.n_len (by rfl) T.n_set (pv 1)) (pe_callB (lenK K) (by rfl) T.n_len (by decide +kernel) (pa_cons (pv 1) pa_nil)) (nomark _)) (pw_or1 (pt_not (pt_val (pe_callB (allK K rfl) (by rfl) T.n_all (by decide +kernel) (pa_cons (by exact (pe_lc (own := [("_law_one", 5)]) rfl sc_ldue.nd (pilK K (pv 1)) (blkOk_by (own := [("_law_one", 5)]) (N := N_ldue) (sc := defScope s_ldue) (by decide +kernel)) (fun _ _ _ _ _ => by exact (pg_name (i := 5) sc_ldue.nd rfl (Or.inl rfl))) (fun _ _ _ _ _ => by exact pts_nil) (fun _ _ _ _ _ => by exact (pe_chain op_le op_lt pe_int (pv 5) (pe_callB (lenK K) (by rfl) T.n_len (by decide +kernel) (pa_cons (pv 2) pa_nil)))))) pa_nil)))))))) (pss_one (ps_ret pe_str)) pss_nil)
          (C8.pss_cut (ps_if (pt_not (pt_chain op_le op_le pe_int (pv 3) pe_int)) (pss_one (ps_ret pe_str)) pss_nil)
          (C8.pss_cut (ps_if (PW.pt (pw_and (pt_cmpR op_gt (pv 0) pe_int (nomark _)) (pw_and (pt_cmpR op_notN (pv 4) pe_non (nomark _)) (pw_and1 (pt_not (pt_chain op_lt op_le (pv 3) (pv 4) pe_int)))))) (pss_one (ps_ret pe_str)) pss_nil)
          (pss_one (ps_ret pe_str))))))), ?_⟩
    have not_not : ∀ {p : Prop}, p → ¬ ¬ p := fun h z => z h
    -- the count
    refine ⟨fun σ H1 => σ = [some (.int door), some (.ref a), some (.ref b), some (.int s), some (optV o), none] ∧ H1 = H ∧ CountOk (ds.length : Int), ?_, ?_⟩
    · have bad : ¬ CountOk (ds.length : Int) → Q (.str "BadCount") H := fun no => by
        have k := k H (Same.refl H)
        unfold dueW at k
        rw [if_pos no] at k
        exact k
      have e : ((ds.map V.int).length : Int) = (ds.length : Int) := by rw [List.length_map]
      refine ⟨_, rfl, _, _, rfl, .inl hD, _, _, rfl, rfl, _, rfl, ?_⟩
      rw [e]
      by_cases c1 : 1 ≤ (ds.length : Int)
      · refine iteD c1 ⟨_, _, rfl, rfl, _, rfl, ?_⟩
        by_cases c2 : (ds.length : Int) ≤ 10
        · rw [decide_eq_true c2]
          exact iteF ⟨rfl, rfl, c1, c2⟩
        · rw [decide_eq_false c2]
          exact iteT (bad fun z => c2 z.2)
      · exact iteDF c1 ⟨_, rfl, iteT (bad fun z => c1 z.1)⟩
    rintro σ H1 ⟨rfl, rfl, hc⟩
    -- the days
    refine ⟨fun σ H2 => σ = [some (.int door), some (.ref a), some (.ref b), some (.int s), some (optV o), none] ∧ Same H1 H2 ∧ DaysOk ds, ?_, ?_⟩
    · refine ⟨_, rfl, b, rfl, ⟨_, hD⟩, fun D nD => ?_⟩
      refine lc_list (K := K) (a := b) (xs := ds.map V.int) (fun i H2 => Same H1 H2 ∧ H2 D = some (.lst (((ds.take i).map fun x => decide (0 ≤ x ∧ x ≤ 9999)).map V.bl))) ⟨same_new nD, upd_same⟩ (fun i H2 _ z => z.1.seq hD) ?_ ?_
      · rintro i y H2 hi ⟨s2, hq⟩
        obtain ⟨x, hx, rfl⟩ := get_ints hi
        have il := (List.getElem?_eq_some_iff.mp hx).1
        refine ⟨rfl, ?_⟩
        refine ⟨_, rfl, _, _, rfl, rfl, _, rfl, ?_⟩
        have fin : ∀ bb : Bool, bb = decide (0 ≤ x ∧ x ≤ 9999) → ∃ acc, H2 D = some (.lst acc) ∧ acc.length < sizeLine ∧ Same H1 (upd H2 D (.lst (acc ++ [V.bl bb]))) ∧ upd H2 D (.lst (acc ++ [V.bl bb])) D = some (.lst (((ds.take (i + 1)).map fun x => decide (0 ≤ x ∧ x ≤ 9999)).map V.bl)) := fun bb e => by
          refine ⟨_, hq, sz_lt (by simp; omega), same_mut s2 nD, ?_⟩
          rw [upd_same, all_take hx, List.map_append, ← e]
          rfl
        by_cases c1 : 0 ≤ x
        · refine iteD c1 ⟨_, _, rfl, rfl, ?_⟩
          exact fin _ (by simp [c1])
        · refine iteDF c1 ?_
          exact fin _ (by simp [c1])
      · rintro H2 ⟨s2, hq⟩
        rw [List.length_map, List.take_length] at hq
        refine ⟨D, _, rfl, SqL.of hq, _, rfl, ?_⟩
        have e : ((ds.map fun x => decide (0 ≤ x ∧ x ≤ 9999)).all id) = decide (DaysOk ds) := by
          rw [Bool.eq_iff_iff, List.all_map]
          simp only [DaysOk, DayOk, List.all_eq_true, Function.comp, id, decide_eq_true_eq]
          exact ⟨fun h => decide_eq_true h, fun h => of_decide_eq_true h⟩
        rw [e]
        by_cases c : DaysOk ds
        · rw [decide_eq_true c]
          exact iteF ⟨rfl, s2, c⟩
        · rw [decide_eq_false c]
          refine iteT ?_
          have k := k H2 s2
          unfold dueW at k
          rw [if_neg (not_not hc), if_pos c] at k
          exact k
    rintro σ H2 ⟨rfl, s2, hd⟩
    -- the row
    refine ⟨fun σ H3 => σ = [some (.int door), some (.ref a), some (.ref b), some (.int s), some (optV o), none] ∧ Same H1 H3 ∧ RowOk (ds.length : Int) r, ?_, ?_⟩
    · have bad : ∀ H3, Same H1 H3 → ¬ RowOk (ds.length : Int) r → Q (.str "BadRow") H3 := fun H3 s3 no => by
        have k := k H3 s3
        unfold dueW at k
        rw [if_neg (not_not hc), if_neg (not_not hd), if_pos no] at k
        exact k
      have e : ((r.map V.int).length : Int) = (r.length : Int) := by rw [List.length_map]
      refine ⟨_, rfl, _, _, rfl, .inl (s2.seq hR), _, _, rfl, rfl, _, rfl, ?_⟩
      rw [e]
      by_cases c1 : 1 ≤ (r.length : Int)
      · refine iteD c1 ⟨_, _, rfl, rfl, _, rfl, ?_⟩
        by_cases c2 : (r.length : Int) ≤ 4
        · rw [decide_eq_true c2]
          refine iteF ?_
          refine ⟨_, rfl, a, r, rfl, s2.seq hR, by omega, _, rfl, _, _, rfl, .inl (s2.seq hR), _, _, rfl, rfl, _, rfl, ?_⟩
          rw [e]
          have dl := dedN_le r
          by_cases c3 : r.Nodup
          · have e3 := (dedN_iff r).mpr c3
            refine iteDF (by omega) ?_
            refine ⟨_, rfl, a, rfl, ⟨_, s2.seq hR⟩, fun D nD => ?_⟩
            refine lc_list (K := K) (a := a) (xs := r.map V.int) (fun i H3 => Same H2 H3 ∧ H3 D = some (.lst (((r.take i).map fun x => decide (0 ≤ x ∧ x < (ds.length : Int))).map V.bl))) ⟨same_new nD, upd_same⟩ (fun i H3 _ z => (s2.trans z.1).seq hR) ?_ ?_
            · rintro i y H3 hi ⟨s3, hq⟩
              obtain ⟨x, hx, rfl⟩ := get_ints hi
              have il := (List.getElem?_eq_some_iff.mp hx).1
              refine ⟨rfl, ?_⟩
              refine ⟨_, rfl, _, _, rfl, rfl, _, rfl, ?_⟩
              have fin : ∀ bb : Bool, bb = decide (0 ≤ x ∧ x < (ds.length : Int)) → ∃ acc, H3 D = some (.lst acc) ∧ acc.length < sizeLine ∧ Same H2 (upd H3 D (.lst (acc ++ [V.bl bb]))) ∧ upd H3 D (.lst (acc ++ [V.bl bb])) D = some (.lst (((r.take (i + 1)).map fun x => decide (0 ≤ x ∧ x < (ds.length : Int))).map V.bl)) := fun bb e => by
                refine ⟨_, hq, sz_lt (by simp; omega), same_mut s3 nD, ?_⟩
                rw [upd_same, all_take hx, List.map_append, ← e]
                rfl
              by_cases c4 : 0 ≤ x
              · refine iteD c4 ⟨_, rfl, _, _, rfl, .inl ((s2.trans s3).seq hD), _, _, rfl, rfl, ?_⟩
                exact fin _ (by rw [List.length_map]; simp [c4])
              · refine iteDF c4 ?_
                exact fin _ (by simp [c4])
            · rintro H3 ⟨s3, hq⟩
              rw [List.length_map, List.take_length] at hq
              refine ⟨D, _, rfl, SqL.of hq, _, rfl, ?_⟩
              have e5 : ((r.map fun x => decide (0 ≤ x ∧ x < (ds.length : Int))).all id) = decide (∀ x ∈ r, 0 ≤ x ∧ x < (ds.length : Int)) := by
                rw [Bool.eq_iff_iff, List.all_map]
                simp
              rw [e5]
              by_cases c : ∀ x ∈ r, 0 ≤ x ∧ x < (ds.length : Int)
              · rw [decide_eq_true c]
                exact iteF ⟨rfl, s2.trans s3, ⟨by omega, by omega, c3⟩, c⟩
              · rw [decide_eq_false c]
                exact iteT (bad H3 (s2.trans s3) fun z => c z.2)
          · refine iteD ?_ (bad H2 s2 fun z => c3 z.1.2.2)
            have : dedN r ≠ r.length := fun z => c3 ((dedN_iff r).mp z)
            omega
        · rw [decide_eq_false c2]
          exact iteT (bad H2 s2 fun z => c2 (by have := z.1.2.1; omega))
      · exact iteDF c1 ⟨_, rfl, iteT (bad H2 s2 fun z => c1 (by have := z.1.1; omega))⟩
    rintro σ H3 ⟨rfl, s3, ok⟩
    -- the day
    refine ⟨fun σ H4 => σ = [some (.int door), some (.ref a), some (.ref b), some (.int s), some (optV o), none] ∧ H4 = H3 ∧ DayOk s, ?_, ?_⟩
    · have bad : ¬ DayOk s → Q (.str "BadDay") H3 := fun no => by
        have k := k H3 s3
        unfold dueW at k
        rw [if_neg (not_not hc), if_neg (not_not hd), if_neg (not_not ok)] at k
        by_cases hz : door = 0
        · rw [if_pos hz, if_pos no] at k
          exact k
        · rw [if_neg hz, if_pos fun z => no z.1] at k
          exact k
      refine ⟨_, rfl, _, _, rfl, rfl, _, rfl, ?_⟩
      by_cases c1 : 0 ≤ s
      · refine iteD c1 ⟨_, _, rfl, rfl, _, rfl, ?_⟩
        by_cases c2 : s ≤ 9999
        · rw [decide_eq_true c2]
          exact iteF ⟨rfl, rfl, c1, c2⟩
        · rw [decide_eq_false c2]
          exact iteT (bad fun z => c2 z.2)
      · exact iteDF c1 ⟨_, rfl, iteT (bad fun z => c1 z.1)⟩
    rintro σ H4 ⟨rfl, rfl, go⟩
    -- the run
    refine ⟨fun σ H5 => H5 = H4 ∧ (door = 0 ∨ RunOk s o), ?_, ?_⟩
    · refine ⟨_, rfl, _, _, rfl, rfl, _, rfl, ?_⟩
      refine ite2 (fun c => ?_) (fun c => ⟨rfl, .inl ?_⟩)
      · have c : door > 0 := of_decide_eq_true c
        refine ⟨_, rfl, rfl, _, rfl, ?_⟩
        cases o with
        | none => exact iteNS rfl ⟨rfl, .inr ⟨go, fun e z => by cases z⟩⟩
        | some e =>
          have bad : ¬ RunOk s (some e) → Q (.str "BadDay") H4 := fun no => by
            have k := k H4 s3
            unfold dueW at k
            rw [if_neg (not_not hc), if_neg (not_not hd), if_neg (not_not ok), if_neg (by omega), if_pos no] at k
            exact k
          refine iteN (by intro z; cases z) ?_
          refine ⟨_, rfl, _, rfl, _, _, rfl, rfl, _, rfl, ?_⟩
          by_cases c1 : s < e
          · refine iteD c1 ⟨_, _, rfl, rfl, _, rfl, ?_⟩
            by_cases c2 : e ≤ 10000
            · rw [decide_eq_true c2]
              exact iteF ⟨rfl, .inr ⟨go, fun x z => by cases z; exact ⟨c1, c2⟩⟩⟩
            · rw [decide_eq_false c2]
              exact iteT (bad fun z => c2 (z.2 e rfl).2)
          · exact iteDF c1 ⟨_, rfl, iteT (bad fun z => c1 (z.2 e rfl).1)⟩
      · have c : ¬ door > 0 := fun z => c (decide_eq_true z)
        omega
    · rintro σ H5 ⟨rfl, h⟩
      have k := k H5 s3
      unfold dueW at k
      rw [if_neg (not_not hc), if_neg (not_not hd), if_neg (not_not ok)] at k
      by_cases hz : door = 0
      · rw [if_pos hz, if_neg (not_not go)] at k
        exact k
      · rw [if_neg hz, if_neg (not_not (h.elim (fun z => absurd z hz) id))] at k
        exact k

theorem sc_law : FnScope N_law ["_law_script"] (defScope s_law) := ⟨rfl, rfl, rfl, by decide +kernel, rfl, by decide +kernel, by decide +kernel⟩
def sp_law (K : PySem.W.Frag) : Sp := fun vs H Q _ => ∃ (a : Addr) (ns : List Int), vs = [.ref a] ∧ SqL K H a (ns.map V.int) ∧ ns.length ≤ 63 ∧ ∀ H', Q (.bl true) H'
theorem cut_len {xs : List V} {lo : Option Int} {k : Nat} : (cutV xs none (some (k : Int))).length ≤ k := by
  unfold cutV
  rw [List.length_take]
  refine Nat.le_trans (Nat.min_le_left _ _) ?_
  rw [HT.sIx_nat, HT.sIx_none]
  omega
/-- one of several lists of ints -/
theorem pick_list {as : List Addr} {j : Int} (h0 : 0 ≤ j) (h1 : j < as.length) : ∃ a, atI (as.map V.ref) j = some (V.ref a) ∧ a ∈ as := by
  obtain ⟨a, ha⟩ : ∃ a, as[j.toNat]? = some a := ⟨_, List.getElem?_eq_getElem (by omega)⟩
  exact ⟨a, at_of (j := j.toNat) (by omega) (get_refs ha), List.mem_of_getElem? ha⟩
theorem ok_law {f : Addr} {fd : FuncData} (F : FnP K "law" s_law f fd) (T : Txt K mg) (C_ldigits : Own P w K mg base "_law_digits" ["_law_script", "_law_k", "_law_sizes"] 3 (sp_ldigits K)) (C_ldays : Own P w K mg base "_law_days" ["_law_script", "_law_k"] 4 (sp_ldays K)) (C_lrow : Own P w K mg base "_law_row" ["_law_script", "_law_k", "_law_many"] 4 (sp_lrow K)) (C_lrun : Own P w K mg base "_law_run" ["_law_script", "_law_k", "_law_days_here"] 4 (sp_lrun K)) (C_lfar : Own P w K mg base "_law_far" ["_law_number", "_law_way"] 1 (sp_lfar)) (C_lword : Own P w K mg base "_law_word" ["_law_door", "_law_row_here", "_law_days_here", "_law_day", "_law_stop"] 6 (sp_lword K)) (C_ldue : Own P w K mg base "_law_due" ["_law_door", "_law_row_here", "_law_days_here", "_law_day", "_law_stop"] 1 (sp_ldue K)) : FnOk P w K mg base CX0 7 f fd ["_law_script"] (sp_law K) := by
  refine F.ok sc_law (fun vs H Q E h => ?_) (fun cdv A outer s H vs Q E hr h => ?_)
  · obtain ⟨a, ns, rfl, _⟩ := h
    rfl
  · obtain ⟨a, ns, rfl, hS, hlen, k⟩ := h
    refine ⟨_, PSs.nox (pss_cons (ps_set (i := 0) sc_law.nd rfl (Or.inl rfl) (pe_slice (slK K) (pv 0) po_none (po_some pe_int)))
          (C8.pss_cut (ps_for PassesOwn.never rfl (pi_range1 (by rfl) T.n_range (pa_cons pe_int pa_nil)) (pg_name (i := 1) sc_law.nd rfl (Or.inl rfl))
            (pss_cons (ps_set (i := 2) sc_law.nd rfl (Or.inl rfl) (pe_own C_ldays (hr.mono (by omega)) (pa_cons (pv 0) (pa_cons (pe_op op_mul pe_int (pv 1)) pa_nil))))
              (pss_cons (ps_set (i := 3) sc_law.nd rfl (Or.inl rfl) (pe_own C_lrow (hr.mono (by omega)) (pa_cons (pv 0) (pa_cons (pe_op op_add (pe_op op_mul pe_int (pv 1)) pe_int) (pa_cons (pe_callB (lenK K) (by rfl) T.n_len (by decide +kernel) (pa_cons (pv 2) pa_nil)) pa_nil)))))
              (pss_cons (ps_asg (pe_own C_lrun (hr.mono (by omega)) (pa_cons (pv 0) (pa_cons (pe_op op_add (pe_op op_mul pe_int (pv 1)) pe_int) (pa_cons (pv 2) pa_nil)))) (pgtK (n := 2) K rfl (pgs_cons (pg_name (i := 4) sc_law.nd rfl (Or.inl rfl)) (pgs_cons (pg_name (i := 5) sc_law.nd rfl (Or.inl rfl)) pgs_nil))))
              (pss_cons (ps_asg (pe_own C_ldigits (hr.mono (by omega)) (pa_cons (pv 0) (pa_cons (pe_op op_add (pe_op op_mul pe_int (pv 1)) pe_int) (pa_cons (pe_lst (pa_cons pe_int (pa_cons (pe_op op_pow pe_int pe_int) (pa_cons pe_int (pa_cons pe_int (pa_cons pe_int pa_nil)))))) pa_nil)))) (pguK (n := 5) K rfl (pgs_cons (pg_name (i := 6) sc_law.nd rfl (Or.inl rfl)) (pgs_cons (pg_name (i := 7) sc_law.nd rfl (Or.inl rfl)) (pgs_cons (pg_name (i := 8) sc_law.nd rfl (Or.inl rfl)) (pgs_cons (pg_name (i := 9) sc_law.nd rfl (Or.inl rfl)) (pgs_cons (pg_name (i := 10) sc_law.nd rfl (Or.inl rfl)) pgs_nil)))))))
              (pss_cons (ps_set (i := 11) sc_law.nd rfl (Or.inl rfl) (pe_ix (ixl K) (pe_lst (pa_cons (pe_own C_lfar (hr.mono (by omega)) (pa_cons (pv 7) (pa_cons (pv 8) pa_nil))) (pa_cons (pe_un un_neg pe_int) (pa_cons pe_int (pa_cons pe_int (pa_cons pe_int pa_nil)))))) (pv 10) (fun _ _ => rfl)))
              (C8.pss_cut (ps_if (pt_cmpR op_eq (pe_op op_mod (pv 6) pe_int) pe_int (nomark _)) (pss_one (ps_set (i := 2) sc_law.nd rfl (Or.inl rfl) (pe_slice (slK K) (pe_ix (ixl K) (pe_lst (pa_cons (pe_lst pa_nil) (pa_cons (pe_op op_rep (pv 2) pe_int) (pa_cons (pe_op op_cat (pe_op op_cat (pe_slice (slK K) (pv 2) po_none (po_some (pv 9))) (pe_lst (pa_cons (pv 11) pa_nil))) (pe_slice (slK K) (pv 2) (po_some (pe_op op_add (pv 9) pe_int)) po_none)) (pa_cons (pv 2) pa_nil))))) (pe_op op_mod (pv 9) pe_int) (fun _ _ => rfl)) po_none (po_some pe_int)))) pss_nil)
              (C8.pss_cut (ps_if (pt_cmpR op_eq (pe_op op_mod (pe_op op_fdivW (pv 6) pe_int) pe_int) pe_int (nomark _)) (pss_one (ps_set (i := 3) sc_law.nd rfl (Or.inl rfl) (pe_ix (ixl K) (pe_lst (pa_cons (pe_lst pa_nil) (pa_cons (pe_op op_cat (pv 3) (pe_lst (pa_cons (pv 11) pa_nil))) (pa_cons (pe_op op_cat (pv 3) (pe_slice (slK K) (pv 3) po_none (po_some pe_int))) (pa_cons (pe_lst (pa_cons pe_int (pa_cons pe_int (pa_cons pe_int (pa_cons pe_int (pa_cons pe_int pa_nil)))))) (pa_cons (pe_lst (pa_cons (pe_callB (lenK K) (by rfl) T.n_len (by decide +kernel) (pa_cons (pv 2) pa_nil)) pa_nil)) pa_nil)))))) (pe_op op_mod (pv 9) pe_int) (fun _ _ => rfl)))) pss_nil)
              (C8.pss_cut (ps_if (pt_cmpR op_eq (pe_op op_fdivW (pv 6) pe_int) pe_int (nomark _)) (pss_one (ps_asg (pe_ix (ixl K) (pe_lst (pa_cons (pe_tup (pa_cons (pv 11) (pa_cons (pv 5) pa_nil))) (pa_cons (pe_tup (pa_cons (pv 4) (pa_cons (pv 11) pa_nil))) (pa_cons (pe_tup (pa_cons (pv 4) (pa_cons (pv 4) pa_nil))) (pa_cons (pe_tup (pa_cons (pv 11) (pa_cons (pv 11) pa_nil))) pa_nil))))) (pv 8) (fun _ _ => rfl)) (pgtK (n := 2) K rfl (pgs_cons (pg_name (i := 4) sc_law.nd rfl (Or.inl rfl)) (pgs_cons (pg_name (i := 5) sc_law.nd rfl (Or.inl rfl)) pgs_nil))))) pss_nil)
              (pss_cons (ps_set (i := 12) sc_law.nd rfl (Or.inl rfl) (pe_lst (pa_cons (pe_callTy (lstK K) (by rfl) T.n_list (by decide +kernel) (pa_cons (pv 3) pa_nil)) (pa_cons (pe_callTy (lstK K) (by rfl) T.n_list (by decide +kernel) (pa_cons (pv 2) pa_nil)) pa_nil))))
              (C8.pss_cut (ps_for PassesOwn.never rfl (pi_range1 (by rfl) T.n_range (pa_cons pe_int pa_nil)) (pg_name (i := 13) sc_law.nd rfl (Or.inl rfl))
                (pss_one (ps_if (pt_cmpR op_ne (pe_own C_lword (hr.mono (by omega)) (pa_cons (pv 13) (pa_cons (pe_ix (ixl K) (pv 12) pe_int (fun _ _ => rfl)) (pa_cons (pe_ix (ixl K) (pv 12) pe_int (fun _ _ => rfl)) (pa_cons (pv 4) (pa_cons (pv 5) pa_nil)))))) (pe_own C_ldue (hr.mono (by omega)) (pa_cons (pv 13) (pa_cons (pv 3) (pa_cons (pv 2) (pa_cons (pv 4) (pa_cons (pv 5) pa_nil)))))) (nomark _)) (pss_one (ps_ret pe_bl)) pss_nil)))
              (pss_one (ps_if (pt_cmpR (neDK K hr.units) (pv 12) (pe_lst (pa_cons (pv 3) (pa_cons (pv 2) pa_nil))) (nomark _)) (pss_one (ps_ret pe_bl)) pss_nil)))))))))))))
          (pss_one (ps_ret pe_bl)))), ?_⟩
    obtain ⟨ns1, cut1, len1⟩ := cut_ints ns none (some 63)
    refine ⟨_, rfl, _, rfl, a, _, rfl, hS, fun b hb => ?_⟩
    rw [cut1]
    refine ⟨fun _ _ => True, ?_, fun σ H1 _ => k _⟩
    refine ⟨8, rfl, by decide, by decide, for_range (lo := 0) (n := 8) (fun i σ H1 => ∃ v1 v2 v3 v4 v5 v6 v7 v8 v9 v10 v11 v12 v13 : Option V, σ = [some (.ref b), v1, v2, v3, v4, v5, v6, v7, v8, v9, v10, v11, v12, v13] ∧ SqL K H1 b (ns1.map V.int))
      ⟨none, none, none, none, none, none, none, none, none, none, none, none, none, rfl, SqL.of upd_same⟩ ?_ (fun _ _ _ => trivial)⟩
    rintro i σ H1 hi ⟨v1, v2, v3, v4, v5, v6, v7, v8, v9, v10, v11, v12, v13, rfl, hS1⟩
    refine ⟨_, rfl, _, rfl, _, _, rfl, rfl, mulL (by decide) (by decide), b, ns1, _, rfl, hS1, by omega, fun d ds H2 s2 nd hd dl1 dl10 dok => ?_⟩
    refine ⟨_, rfl, _, rfl, _, _, rfl, rfl, mulL (by decide) (by decide), _, _, rfl, rfl, _, rfl, _, _, rfl, .inl (SqL.of hd), b, ns1, _, _, rfl, s2.seq hS1, by omega, by rw [List.length_map]; exact dl1, by rw [List.length_map]; omega, fun w r H3 s3 nw hw rok => ?_⟩
    have rl := rok.1.2.1
    clear rok
    have hd3 := s3 _ _ hd
    refine ⟨_, rfl, _, rfl, _, _, rfl, rfl, mulL (by decide) (by decide), _, _, rfl, rfl, _, rfl, b, d, ns1, ds, _, rfl, (s2.trans s3).seq hS1, by omega, SqL.of hd3, dl1, dl10, dok, fun p4 s o H4 s4 np4 hp4 run => ?_⟩
    refine ⟨p4, _, rfl, SqT.of hp4, rfl, _, _, rfl, _, _, rfl, rfl, ?_⟩
    clear run dok
    have hw4 := s4 _ _ hw
    have hd4 := s4 _ _ hd3
    have hS4 := ((s2.trans s3).trans s4).seq hS1
    refine ⟨_, rfl, _, rfl, _, _, rfl, rfl, mulL (by decide) (by decide), _, _, rfl, rfl, _, _, rfl, rfl, ⟨by decide, by decide, by decide⟩, (by show 5 ≤ sizeLine; decide), fun p5 hp5 => ?_⟩
    have u5 := same_new (o := .lst [V.int 27, .int (10 ^ (29 : Int).toNat), .int 4, .int 11, .int 5]) hp5
    refine ⟨b, p5, ns1, [27, 10 ^ (29 : Int).toNat, 4, 11, 5], _, rfl, u5.seq hS4, by omega, SqL.of upd_same, (by show 5 ≤ 1000; decide), ?_, fun q6 es H6 nq6 s6 hq6 dig => ?_⟩
    · intro s hs
      simp only [List.mem_cons, List.not_mem_nil, or_false] at hs
      rcases hs with rfl | rfl | rfl | rfl | rfl <;> decide
    obtain ⟨spo, _, rfl, c0, c1, dig⟩ := dig.inv
    obtain ⟨far, _, rfl, c2, c3, dig⟩ := dig.inv
    obtain ⟨side, _, rfl, c4, c5, dig⟩ := dig.inv
    obtain ⟨at', _, rfl, c6, c7, dig⟩ := dig.inv
    obtain ⟨more, _, rfl, c8, c9, dig⟩ := dig.inv
    have e := dig.inv0
    subst e
    refine ⟨q6, _, rfl, SqL.of hq6, rfl, _, _, rfl, _, _, rfl, _, _, rfl, _, _, rfl, _, _, rfl, rfl, ?_⟩
    -- odd
    refine ⟨_, rfl, _, rfl, _, _, rfl, fun fr H7 s7 => ?_⟩
    refine ⟨_, rfl, (by show 5 ≤ sizeLine; decide), fun p8 hp8 => ?_⟩
    have u8 := same_new (o := .lst [V.int fr, .int (-1), .int 10000, .int 10001, .int 0]) hp8
    obtain ⟨odd, eo⟩ : ∃ odd : Int, atI [V.int fr, .int (-1), .int 10000, .int 10001, .int 0] more = some (.int odd) := by
      have k5 : more = 0 ∨ more = 1 ∨ more = 2 ∨ more = 3 ∨ more = 4 := by omega
      rcases k5 with rfl | rfl | rfl | rfl | rfl <;> exact ⟨_, rfl⟩
    refine ⟨_, rfl, p8, _, _, _, rfl, rfl, SqL.of upd_same, eo, ?_⟩
    have s48 := ((u5.trans s6).trans s7).trans u8
    have hw8 := s48 _ _ hw4
    have hd8 := s48 _ _ hd4
    have hS8 := s48.seq hS4
    generalize upd H7 p8 (.lst [V.int fr, .int (-1), .int 10000, .int 10001, .int 0]) = H8 at *
    clear s48 u5 s6 s7 u8 hp5 hp8
    have a4 := Int.emod_nonneg at' (by decide : (4 : Int) ≠ 0)
    have a4' := Int.emod_lt_of_pos at' (by decide : (0 : Int) < 4)
    have a5 := Int.emod_nonneg at' (by decide : (5 : Int) ≠ 0)
    have a5' := Int.emod_lt_of_pos at' (by decide : (0 : Int) < 5)
    -- days spoilt
    refine ⟨fun σ H9 => ∃ (d : Addr) (ds : List Int), σ = [some (.ref b), some (.int (0 + (i : Int))), some (.ref d), some (.ref w), some (.int s), some (optV o), some (.int spo), some (.int far), some (.int side), some (.int at'), some (.int more), some (.int odd), v12, v13] ∧ Same H8 H9 ∧ H9 d = some (.lst (ds.map V.int)) ∧ ds.length ≤ 20, ?_, ?_⟩
    · refine ⟨_, rfl, _, _, rfl, rfl, (by decide : (0 : Int) < 3), rfl, _, rfl, ?_⟩
      refine ite2 (fun _ => ?_) (fun _ => ⟨d, ds, rfl, Same.refl _, hd8, by omega⟩)
      refine ⟨Nat.zero_le _, fun x1 hx1 => ?_⟩
      have t1 := same_new (o := .lst []) hx1
      refine ⟨_, rfl, d, _, _, rfl, rfl, t1 _ _ hd8, by decide, by decide, sz_of (by simp; omega), fun x2 hx2 => ?_⟩
      have t2 := t1.trans (same_new (o := .lst (List.replicate (11 : Int).toNat (ds.map V.int)).flatten) hx2)
      obtain ⟨e1, ec1, el1⟩ := cut_ints ds none (some at')
      refine ⟨_, rfl, _, rfl, _, rfl, d, _, rfl, SqL.of (t2 _ _ hd8), fun x3 hx3 => ?_⟩
      rw [ec1]
      have t3 := t2.trans (same_new (o := .lst (e1.map V.int)) hx3)
      refine ⟨_, rfl, (by show 1 ≤ sizeLine; decide), fun x4 hx4 => ?_⟩
      have t4 := t3.trans (same_new (o := .lst [V.int odd]) hx4)
      refine ⟨x3, x4, _, _, rfl, rfl, (same_new hx4) _ _ upd_same, upd_same, sz_of (by simp; omega), fun x5 hx5 => ?_⟩
      have t5 := t4.trans (same_new (o := .lst (e1.map V.int ++ [V.int odd])) hx5)
      obtain ⟨e2, ec2, el2⟩ := cut_ints ds (some (at' + 1)) none
      refine ⟨_, rfl, _, rfl, _, _, rfl, rfl, _, rfl, d, _, rfl, SqL.of (t5 _ _ hd8), fun x6 hx6 => ?_⟩
      rw [ec2]
      have t6 := t5.trans (same_new (o := .lst (e2.map V.int)) hx6)
      refine ⟨x5, x6, _, _, rfl, rfl, (same_new hx6) _ _ upd_same, upd_same, sz_of (by simp; omega), fun x7 hx7 => ?_⟩
      have t7 := t6.trans (same_new (o := .lst (e1.map V.int ++ [V.int odd] ++ e2.map V.int)) hx7)
      refine ⟨_, rfl, (by show 4 ≤ sizeLine; decide), fun x8 hx8 => ?_⟩
      have t8 := t7.trans (same_new (o := .lst [V.ref x1, .ref x2, .ref x7, .ref d]) hx8)
      obtain ⟨y, ey, z, hz, zl⟩ : ∃ y, atI [V.ref x1, .ref x2, .ref x7, .ref d] (at' % 4) = some (V.ref y) ∧ ∃ z : List Int, upd (upd (upd (upd (upd (upd (upd (upd H8 x1 (.lst [])) x2 (.lst (List.replicate (11 : Int).toNat (ds.map V.int)).flatten)) x3 (.lst (e1.map V.int))) x4 (.lst [V.int odd])) x5 (.lst (e1.map V.int ++ [V.int odd]))) x6 (.lst (e2.map V.int))) x7 (.lst (e1.map V.int ++ [V.int odd] ++ e2.map V.int))) x8 (.lst [V.ref x1, .ref x2, .ref x7, .ref d]) y = some (.lst (z.map V.int)) ∧ z.length ≤ 1000 := by
        have t18 := ((((((same_new (o := .lst (List.replicate (11 : Int).toNat (ds.map V.int)).flatten) hx2).trans (same_new (o := .lst (e1.map V.int)) hx3)).trans (same_new (o := .lst [V.int odd]) hx4)).trans (same_new (o := .lst (e1.map V.int ++ [V.int odd])) hx5)).trans (same_new (o := .lst (e2.map V.int)) hx6)).trans (same_new (o := .lst (e1.map V.int ++ [V.int odd] ++ e2.map V.int)) hx7)).trans (same_new (o := .lst [V.ref x1, .ref x2, .ref x7, .ref d]) hx8)
        have t28 := (((((same_new (o := .lst (e1.map V.int)) hx3).trans (same_new (o := .lst [V.int odd]) hx4)).trans (same_new (o := .lst (e1.map V.int ++ [V.int odd])) hx5)).trans (same_new (o := .lst (e2.map V.int)) hx6)).trans (same_new (o := .lst (e1.map V.int ++ [V.int odd] ++ e2.map V.int)) hx7)).trans (same_new (o := .lst [V.ref x1, .ref x2, .ref x7, .ref d]) hx8)
        have k4 : at' % 4 = 0 ∨ at' % 4 = 1 ∨ at' % 4 = 2 ∨ at' % 4 = 3 := by omega
        rcases k4 with e | e | e | e
        · rw [e]
          exact ⟨x1, rfl, [], t18 _ _ upd_same, by simp⟩
        · rw [e]
          refine ⟨x2, rfl, (List.replicate 11 ds).flatten, ?_, by simp; omega⟩
          rw [t28 _ _ upd_same, List.map_flatten, List.map_replicate]
          rfl
        · rw [e]
          refine ⟨x7, rfl, e1 ++ [odd] ++ e2, ?_, by simp; omega⟩
          rw [(same_new hx8) _ _ upd_same, List.map_append, List.map_append]
          rfl
        · rw [e]
          exact ⟨d, rfl, ds, t8 _ _ hd8, by omega⟩
      refine ⟨_, rfl, _, _, rfl, rfl, (by decide : (0 : Int) < 4), x8, _, _, _, rfl, rfl, SqL.of upd_same, ey, _, rfl, y, _, rfl, SqL.of hz, fun x9 hx9 => ?_⟩
      obtain ⟨e9, ec9, el9⟩ := cut_ints z none (some 11)
      have l11 := cut_len (lo := none) (xs := z.map V.int) (k := 11)
      rw [show ((11 : Nat) : Int) = 11 from rfl, ec9, List.length_map] at l11
      rw [ec9]
      exact ⟨x9, e9, rfl, t8.trans (same_new hx9), upd_same, by omega⟩
    clear hd8 hd4 hd3 hd dl1 dl10 nd
    rintro σ H9 ⟨d', es, rfl, s9, hd, dl⟩
    -- row spoilt
    refine ⟨fun σ Ha => ∃ (w : Addr) (r : List Int), σ = [some (.ref b), some (.int (0 + (i : Int))), some (.ref d'), some (.ref w), some (.int s), some (optV o), some (.int spo), some (.int far), some (.int side), some (.int at'), some (.int more), some (.int odd), v12, v13] ∧ Same H9 Ha ∧ Ha w = some (.lst (r.map V.int)) ∧ r.length ≤ 20, ?_, ?_⟩
    · refine ⟨_, rfl, _, _, rfl, rfl, ⟨by decide, by decide⟩, _, _, rfl, rfl, (by decide : (0 : Int) < 3), rfl, _, rfl, ?_⟩
      have hw9 := s9 _ _ hw8
      refine ite2 (fun _ => ?_) (fun _ => ⟨w, r, rfl, Same.refl _, hw9, by omega⟩)
      refine ⟨Nat.zero_le _, fun x1 hx1 => ?_⟩
      have t1 := same_new (o := .lst []) hx1
      refine ⟨_, rfl, _, rfl, (by show 1 ≤ sizeLine; decide), fun x2 hx2 => ?_⟩
      have t2 := t1.trans (same_new (o := .lst [V.int odd]) hx2)
      refine ⟨w, x2, _, _, rfl, rfl, t2 _ _ hw9, upd_same, sz_of (by simp; omega), fun x3 hx3 => ?_⟩
      have t3 := t2.trans (same_new (o := .lst (r.map V.int ++ [V.int odd])) hx3)
      obtain ⟨e1, ec1, el1⟩ := cut_ints r none (some 1)
      refine ⟨_, rfl, _, rfl, _, rfl, w, _, rfl, SqL.of (t3 _ _ hw9), fun x4 hx4 => ?_⟩
      rw [ec1]
      have t4 := t3.trans (same_new (o := .lst (e1.map V.int)) hx4)
      refine ⟨w, x4, _, _, rfl, rfl, t4 _ _ hw9, upd_same, sz_of (by simp; omega), fun x5 hx5 => ?_⟩
      have t5 := t4.trans (same_new (o := .lst (r.map V.int ++ e1.map V.int)) hx5)
      refine ⟨(by show 5 ≤ sizeLine; decide), fun x6 hx6 => ?_⟩
      have t6 := t5.trans (same_new (o := .lst [V.int 0, .int 1, .int 2, .int 3, .int 4]) hx6)
      refine ⟨_, rfl, _, _, rfl, .inl (SqL.of (t6 _ _ hd)), (by show 1 ≤ sizeLine; decide), fun x7 hx7 => ?_⟩
      have t7 := t6.trans (same_new (o := .lst [V.int ((es.map V.int).length : Int)]) hx7)
      refine ⟨(by show 5 ≤ sizeLine; decide), fun x8 hx8 => ?_⟩
      have t8 := t7.trans (same_new (o := .lst [V.ref x1, .ref x3, .ref x5, .ref x6, .ref x7]) hx8)
      obtain ⟨y, ey, z, hz, zl⟩ : ∃ y, atI [V.ref x1, .ref x3, .ref x5, .ref x6, .ref x7] (at' % 5) = some (V.ref y) ∧ ∃ z : List Int, upd (upd (upd (upd (upd (upd (upd (upd H9 x1 (.lst [])) x2 (.lst [V.int odd])) x3 (.lst (r.map V.int ++ [V.int odd]))) x4 (.lst (e1.map V.int))) x5 (.lst (r.map V.int ++ e1.map V.int))) x6 (.lst [V.int 0, .int 1, .int 2, .int 3, .int 4])) x7 (.lst [V.int ((es.map V.int).length : Int)])) x8 (.lst [V.ref x1, .ref x3, .ref x5, .ref x6, .ref x7]) y = some (.lst (z.map V.int)) ∧ z.length ≤ 20 := by
        have q8 := same_new (o := .lst [V.ref x1, .ref x3, .ref x5, .ref x6, .ref x7]) hx8
        have q7 := (same_new (o := .lst [V.int ((es.map V.int).length : Int)]) hx7).trans q8
        have q6 := (same_new (o := .lst [V.int 0, .int 1, .int 2, .int 3, .int 4]) hx6).trans q7
        have q5 := (same_new (o := .lst (r.map V.int ++ e1.map V.int)) hx5).trans q6
        have q4 := (same_new (o := .lst (e1.map V.int)) hx4).trans q5
        have q3 := (same_new (o := .lst (r.map V.int ++ [V.int odd])) hx3).trans q4
        have q2 := (same_new (o := .lst [V.int odd]) hx2).trans q3
        have k4 : at' % 5 = 0 ∨ at' % 5 = 1 ∨ at' % 5 = 2 ∨ at' % 5 = 3 ∨ at' % 5 = 4 := by omega
        rcases k4 with e | e | e | e | e
        · rw [e]
          exact ⟨x1, rfl, [], q2 _ _ upd_same, by simp⟩
        · rw [e]
          refine ⟨x3, rfl, r ++ [odd], ?_, by simp; omega⟩
          rw [q4 _ _ upd_same, List.map_append]
          rfl
        · rw [e]
          refine ⟨x5, rfl, r ++ e1, ?_, by simp; omega⟩
          rw [q6 _ _ upd_same, List.map_append]
        · rw [e]
          exact ⟨x6, rfl, [0, 1, 2, 3, 4], q7 _ _ upd_same, by simp⟩
        · rw [e]
          exact ⟨x7, rfl, [((es.map V.int).length : Int)], q8 _ _ upd_same, by simp⟩
      exact ⟨_, rfl, _, _, rfl, rfl, (by decide : (0 : Int) < 5), x8, _, _, _, rfl, rfl, SqL.of upd_same, ey, y, z, rfl, t8, hz, zl⟩
    clear hw8 hw4 hw rl
    rintro σ Ha ⟨w', q, rfl, sa, hw, rl⟩
    -- day and stop spoilt
    refine ⟨fun σ Hb => ∃ (s : Int) (o : Option Int), σ = [some (.ref b), some (.int (0 + (i : Int))), some (.ref d'), some (.ref w'), some (.int s), some (optV o), some (.int spo), some (.int far), some (.int side), some (.int at'), some (.int more), some (.int odd), v12, v13] ∧ Same Ha Hb, ?_, ?_⟩
    · refine ⟨_, rfl, _, _, rfl, rfl, ⟨by decide, by decide⟩, rfl, _, rfl, ?_⟩
      refine ite2 (fun _ => ?_) (fun _ => ⟨s, o, rfl, Same.refl _⟩)
      refine ⟨_, rfl, _, rfl, (by show 2 ≤ sizeLine; decide), fun x1 hx1 => ?_⟩
      have t1 := same_new (o := .tup [V.int odd, optV o]) hx1
      refine ⟨_, rfl, _, rfl, (by show 2 ≤ sizeLine; decide), fun x2 hx2 => ?_⟩
      have t2 := t1.trans (same_new (o := .tup [V.int s, .int odd]) hx2)
      refine ⟨_, rfl, _, rfl, (by show 2 ≤ sizeLine; decide), fun x3 hx3 => ?_⟩
      have t3 := t2.trans (same_new (o := .tup [V.int s, .int s]) hx3)
      refine ⟨_, rfl, _, rfl, (by show 2 ≤ sizeLine; decide), fun x4 hx4 => ?_⟩
      have t4 := t3.trans (same_new (o := .tup [V.int odd, .int odd]) hx4)
      refine ⟨(by show 4 ≤ sizeLine; decide), fun x5 hx5 => ?_⟩
      have t5 := t4.trans (same_new (o := .lst [V.ref x1, .ref x2, .ref x3, .ref x4]) hx5)
      obtain ⟨y, ey, s', o', hy⟩ : ∃ y, atI [V.ref x1, .ref x2, .ref x3, .ref x4] side = some (V.ref y) ∧ ∃ (s' : Int) (o' : Option Int), upd (upd (upd (upd (upd Ha x1 (.tup [V.int odd, optV o])) x2 (.tup [V.int s, .int odd])) x3 (.tup [V.int s, .int s])) x4 (.tup [V.int odd, .int odd])) x5 (.lst [V.ref x1, .ref x2, .ref x3, .ref x4]) y = some (.tup [.int s', optV o']) := by
        have q5 := same_new (o := .lst [V.ref x1, .ref x2, .ref x3, .ref x4]) hx5
        have q4 := (same_new (o := .tup [V.int odd, .int odd]) hx4).trans q5
        have q3 := (same_new (o := .tup [V.int s, .int s]) hx3).trans q4
        have q2 := (same_new (o := .tup [V.int s, .int odd]) hx2).trans q3
        have k4 : side = 0 ∨ side = 1 ∨ side = 2 ∨ side = 3 := by omega
        rcases k4 with e | e | e | e
        · rw [e]
          exact ⟨x1, rfl, odd, o, q2 _ _ upd_same⟩
        · rw [e]
          exact ⟨x2, rfl, s, some odd, q3 _ _ upd_same⟩
        · rw [e]
          exact ⟨x3, rfl, s, some s, q4 _ _ upd_same⟩
        · rw [e]
          exact ⟨x4, rfl, odd, some odd, q5 _ _ upd_same⟩
      exact ⟨_, rfl, x5, _, _, _, rfl, rfl, SqL.of upd_same, ey, y, _, rfl, SqT.of hy, rfl, _, _, rfl, _, _, rfl, rfl, s', o', rfl, t5⟩
    rintro σ Hb ⟨s', o', rfl, sb⟩
    have hwb := sb _ _ hw
    have hdb := (sa.trans sb) _ _ hd
    have hSb := ((s9.trans sa).trans sb).seq hS8
    -- handed
    refine ⟨_, rfl, _, _, rfl, .inl (SqL.of hwb), fun l1 hl1 => ?_⟩
    have u1 := same_new (o := .lst (q.map V.int)) hl1
    refine ⟨_, rfl, _, _, rfl, .inl (SqL.of (u1 _ _ hdb)), fun l2 hl2 => ?_⟩
    have u2 := same_new (o := .lst (es.map V.int)) hl2
    refine ⟨(by show 2 ≤ sizeLine; decide), fun h4 hh4 => ?_⟩
    have u4 := same_new (o := .lst [V.ref l1, .ref l2]) hh4
    have hl1' := (u2.trans u4) _ _ (show upd Hb l1 (.lst (q.map V.int)) l1 = some _ from upd_same)
    have hl2' := u4 _ _ (show upd (upd Hb l1 (.lst (q.map V.int))) l2 (.lst (es.map V.int)) l2 = some _ from upd_same)
    have hh4' : upd (upd (upd Hb l1 (.lst (q.map V.int))) l2 (.lst (es.map V.int))) h4 (.lst [V.ref l1, .ref l2]) h4 = some _ := upd_same
    have hw5 := ((u1.trans u2).trans u4) _ _ hwb
    have hd5 := ((u1.trans u2).trans u4) _ _ hdb
    have hS5 := ((u1.trans u2).trans u4).seq hSb
    clear u1 u2 u4 hl1 hl2 hh4
    generalize upd (upd (upd Hb l1 (.lst (q.map V.int))) l2 (.lst (es.map V.int))) h4 (.lst [V.ref l1, .ref l2]) = H5 at *
    have sh2 : SeqAt.shaped (.list [intsD q, intsD es]) = true := shaped2 (shaped_ints _) (shaped_ints _) (by have := depth_ints q; omega) (by have := depth_ints es; omega)
    refine ⟨fun σ H6 => (∃ w13 : Option V, σ = [some (.ref b), some (.int (0 + (i : Int))), some (.ref d'), some (.ref w'), some (.int s'), some (optV o'), some (.int spo), some (.int far), some (.int side), some (.int at'), some (.int more), some (.int odd), some (.ref h4), w13]) ∧ Same H5 H6, ?_, ?_⟩
    · refine ⟨3, rfl, by decide, by decide, for_range (lo := 0) (n := 3) (fun j σ H6 => (∃ w13 : Option V, σ = [some (.ref b), some (.int (0 + (i : Int))), some (.ref d'), some (.ref w'), some (.int s'), some (optV o'), some (.int spo), some (.int far), some (.int side), some (.int at'), some (.int more), some (.int odd), some (.ref h4), w13]) ∧ Same H5 H6)
        ⟨⟨_, rfl⟩, Same.refl _⟩ ?_ (fun _ _ z => z)⟩
      rintro j σ H6 hj ⟨⟨w13, rfl⟩, s6⟩
      refine ⟨_, rfl, _, rfl, h4, _, _, _, rfl, rfl, SqL.of (s6 _ _ hh4'), rfl, _, rfl, h4, _, _, _, rfl, rfl, SqL.of (s6 _ _ hh4'), rfl, _, rfl, _, rfl, ?_⟩
      refine ⟨0 + (j : Int), l1, l2, q, es, s', o', rfl, by omega, by omega, SqL.of (s6 _ _ hl1'), by omega, SqL.of (s6 _ _ hl2'), fun H7 s7 => ?_⟩
      refine ⟨_, rfl, _, rfl, _, rfl, _, rfl, _, rfl, 0 + (j : Int), w', d', q, es, s', o', rfl, by omega, by omega, SqL.of ((s6.trans s7) _ _ hw5), by omega, SqL.of ((s6.trans s7) _ _ hd5), by omega, fun H8' s8' => ?_⟩
      exact ⟨rfl, _, rfl, iteNS rfl ⟨⟨_, rfl⟩, (s6.trans s7).trans s8'⟩⟩
    · rintro σ H6 ⟨⟨w13, rfl⟩, s6⟩
      refine ⟨_, rfl, _, rfl, _, rfl, (by show 2 ≤ sizeLine; decide), fun e6 he6 => ?_⟩
      have u6 := same_new (o := .lst [V.ref w', .ref d']) he6
      have s5a := s6.trans u6
      refine ⟨.list [intsD q, intsD es], .list [intsD q, intsD es], dp_pair (s5a _ _ hh4') (dp_ints (SqL.of (s5a _ _ hl1'))) (dp_ints (SqL.of (s5a _ _ hl2'))), dp_pair upd_same (dp_ints (SqL.of (s5a _ _ hw5))) (dp_ints (SqL.of (s5a _ _ hd5))), sh2, sh2, _, rfl, ?_⟩
      rw [eqv_self sh2]
      exact iteF ⟨_, _, _, _, _, _, _, _, _, _, _, _, _, rfl, s5a.seq hS5⟩

end
end K19

namespace K19
open PySem PySem.Spec PyProof.Rows L2 LH
def d_is_day : He.DefD := ⟨("is_day", none), "is_day", "is_day", defArgs s_is_day, defBody s_is_day, defScope s_is_day, [], []⟩
def d_check_count : He.DefD := ⟨("check_count", none), "check_count", "check_count", defArgs s_check_count, defBody s_check_count, defScope s_check_count, [], []⟩
def d_check_day : He.DefD := ⟨("check_day", none), "check_day", "check_day", defArgs s_check_day, defBody s_check_day, defScope s_check_day, [], []⟩
def d_check_unlike : He.DefD := ⟨("check_unlike", none), "check_unlike", "check_unlike", defArgs s_check_unlike, defBody s_check_unlike, defScope s_check_unlike, [], []⟩
def d_check_row : He.DefD := ⟨("check_row", none), "check_row", "check_row", defArgs s_check_row, defBody s_check_row, defScope s_check_row, [], []⟩
def d_check_run : He.DefD := ⟨("check_run", none), "check_run", "check_run", defArgs s_check_run, defBody s_check_run, defScope s_check_run, [], []⟩
def d_check_way : He.DefD := ⟨("check_way", none), "check_way", "check_way", defArgs s_check_way, defBody s_check_way, defScope s_check_way, [], []⟩
def d_holder : He.DefD := ⟨("holder", none), "holder", "holder", defArgs s_holder, defBody s_holder, defScope s_holder, [], []⟩
def d_turns : He.DefD := ⟨("turns", none), "turns", "turns", defArgs s_turns, defBody s_turns, defScope s_turns, [.int 0, .non], []⟩
def d_in_holding : He.DefD := ⟨("in_holding", none), "in_holding", "in_holding", defArgs s_in_holding, defBody s_in_holding, defScope s_in_holding, [.int 0, .non], []⟩
def d_lkin : He.DefD := ⟨("_law_kin", none), "_law_kin", "_law_kin", defArgs s_lkin, defBody s_lkin, defScope s_lkin, [], []⟩
def d_lmix : He.DefD := ⟨("_law_mix", none), "_law_mix", "_law_mix", defArgs s_lmix, defBody s_lmix, defScope s_lmix, [], []⟩
def d_lraw : He.DefD := ⟨("_law_raw", none), "_law_raw", "_law_raw", defArgs s_lraw, defBody s_lraw, defScope s_lraw, [], []⟩
def d_ldigits : He.DefD := ⟨("_law_digits", none), "_law_digits", "_law_digits", defArgs s_ldigits, defBody s_ldigits, defScope s_ldigits, [], []⟩
def d_ldays : He.DefD := ⟨("_law_days", none), "_law_days", "_law_days", defArgs s_ldays, defBody s_ldays, defScope s_ldays, [], []⟩
def d_lrow : He.DefD := ⟨("_law_row", none), "_law_row", "_law_row", defArgs s_lrow, defBody s_lrow, defScope s_lrow, [], []⟩
def d_lrun : He.DefD := ⟨("_law_run", none), "_law_run", "_law_run", defArgs s_lrun, defBody s_lrun, defScope s_lrun, [], []⟩
def d_lfar : He.DefD := ⟨("_law_far", none), "_law_far", "_law_far", defArgs s_lfar, defBody s_lfar, defScope s_lfar, [], []⟩
def d_lword : He.DefD := ⟨("_law_word", none), "_law_word", "_law_word", defArgs s_lword, defBody s_lword, defScope s_lword, [], []⟩
def d_ldue : He.DefD := ⟨("_law_due", none), "_law_due", "_law_due", defArgs s_ldue, defBody s_ldue, defScope s_ldue, [], []⟩
def d_law : He.DefD := ⟨("law", none), "law", "law", defArgs s_law, defBody s_law, defScope s_law, [], []⟩
def d_Span___init__ : He.DefD := ⟨("Span", some "__init__"), "__init__", "Span.__init__", defArgs s_Span___init__, defBody s_Span___init__, defScope s_Span___init__, [], []⟩
def fn : List He.DefD := [d_is_day, d_check_count, d_check_day, d_check_unlike, d_check_row, d_check_run, d_check_way, d_holder, d_turns, d_in_holding, d_lkin, d_lmix, d_lraw, d_ldigits, d_ldays, d_lrow, d_lrun, d_lfar, d_lword, d_ldue, d_law, d_Span___init__]
def fa : List He.Fa := [.glo "is_day", .glo "check_count", .glo "check_day", .glo "check_unlike", .glo "check_row", .glo "check_run", .glo "check_way", .glo "holder", .glo "turns", .glo "in_holding", .glo "_law_kin", .glo "_law_mix", .glo "_law_raw", .glo "_law_digits", .glo "_law_days", .glo "_law_row", .glo "_law_run", .glo "_law_far", .glo "_law_word", .glo "_law_due", .glo "law", .mkr "Span", .free "LookupError", .free "ValueError", .free "all", .free "isinstance", .free "len", .free "list", .free "max", .free "min", .free "range", .free "set", .free "zip", .int "LAST_DAY" (9999), .int "MOST_IN_ROW" (4), .int "MOST_LIVES" (10), .int "NOBODY" (-1), .glo "Against", .glo "BadCount", .glo "BadDay", .glo "BadName", .glo "BadRow", .glo "BadText", .glo "BadTie", .glo "CantBe", .glo "Full", .glo "GivenUp", .glo "Held", .glo "HoldError", .glo "Idle", .glo "NoHolding", .glo "NoLife", .glo "NoPlace", .glo "NoPresentment", .glo "Nothing", .glo "Span", .glo "Taken", .glo "Twice"]
abbrev R : PySem.W.OpenRow := PySem.W.OpenLaw.row PySem.Challenge.rw_lifehold_k19_rows_days_and_runs_refused
def exF (K : PySem.W.Frag) : Bool := [errB K "BadCount" false, errB K "BadDay" false, errB K "BadRow" false, spanB K].all id
abbrev hk : PySem.W.Hook := He.hookX 5 fa fn [] [] exF
def ob (s : PySem.W.SharedT) : He.AlX := He.obsX 5 fa fn [] [] exF (HandSHeadRun.getT s)
theorem ob_eq (s : PySem.W.SharedT) : ob s = hk.obs s.abs := He.obsX_eq (HandSHeadRun.getT_eq s)
def loose : List PySem.Str := (["_wall", "HoldError", "BadDay", "BadCount", "BadTie", "CantBe", "BadRow", "BadName", "Taken", "Full", "Twice", "GivenUp", "Held", "Idle", "Against", "BadText", "Missing", "NoLife", "NoHolding", "NoPresentment", "NoPlace", "Nothing", "LAST_DAY", "is_day", "Span", "MOST_LIVES", "check_count", "NOBODY", "MOST_IN_ROW", "check_day"] : List PySem.Str) ++ (["check_unlike", "check_row", "check_run", "check_way", "holder", "turns", "in_holding", "_law_kin", "_law_mix", "_law_raw", "_law_digits", "_law_days", "_law_row", "_law_run", "_law_far", "_law_word", "_law_due"] : List PySem.Str)
theorem run (w : World) : HandSHeadRun.RunEq R (PySem.W.view R.prog [52]) hk ob 12000 loose w := by
  intro os
  kernel_rfl
theorem facts {P : Program} {w : World} {K : PySem.W.Frag} {h : Heap} {mg : Str → Option Value} {f : Addr} (X : K.In h) (G : h.Ns mainGlobals mg) (hfa : mg ("law" : Str) = some (.ref f)) (c : He.SaysD fa fn K) (cm : exF K = true) :
    ∃ fd : FuncData, (∀ (s : Shared) (v : Value), BindsTo s fd ⟨[v], []⟩ [("_law_script", v)]) ∧ ∀ base : Heap, K.In base → base.Ns mainGlobals mg → FnOk P w K mg base CX0 7 f fd ["_law_script"] (sp_law K) := by
  obtain ⟨fd_is_day, F_is_day⟩ := c.def_ 0 (d := d_is_day) rfl
  obtain ⟨fd_check_count, F_check_count⟩ := c.def_ 1 (d := d_check_count) rfl
  obtain ⟨fd_check_day, F_check_day⟩ := c.def_ 2 (d := d_check_day) rfl
  obtain ⟨fd_check_unlike, F_check_unlike⟩ := c.def_ 3 (d := d_check_unlike) rfl
  obtain ⟨fd_check_row, F_check_row⟩ := c.def_ 4 (d := d_check_row) rfl
  obtain ⟨fd_check_run, F_check_run⟩ := c.def_ 5 (d := d_check_run) rfl
  obtain ⟨fd_check_way, F_check_way⟩ := c.def_ 6 (d := d_check_way) rfl
  obtain ⟨fd_holder, F_holder⟩ := c.def_ 7 (d := d_holder) rfl
  obtain ⟨fd_turns, F_turns⟩ := c.def_ 8 (d := d_turns) rfl
  obtain ⟨fd_in_holding, F_in_holding⟩ := c.def_ 9 (d := d_in_holding) rfl
  obtain ⟨fd_lkin, F_lkin⟩ := c.def_ 10 (d := d_lkin) rfl
  obtain ⟨fd_lmix, F_lmix⟩ := c.def_ 11 (d := d_lmix) rfl
  obtain ⟨fd_lraw, F_lraw⟩ := c.def_ 12 (d := d_lraw) rfl
  obtain ⟨fd_ldigits, F_ldigits⟩ := c.def_ 13 (d := d_ldigits) rfl
  obtain ⟨fd_ldays, F_ldays⟩ := c.def_ 14 (d := d_ldays) rfl
  obtain ⟨fd_lrow, F_lrow⟩ := c.def_ 15 (d := d_lrow) rfl
  obtain ⟨fd_lrun, F_lrun⟩ := c.def_ 16 (d := d_lrun) rfl
  obtain ⟨fd_lfar, F_lfar⟩ := c.def_ 17 (d := d_lfar) rfl
  obtain ⟨fd_lword, F_lword⟩ := c.def_ 18 (d := d_lword) rfl
  obtain ⟨fd_ldue, F_ldue⟩ := c.def_ 19 (d := d_ldue) rfl
  obtain ⟨fd_law, F_law⟩ := c.def_ 20 (d := d_law) rfl
  obtain ⟨fd_Span___init__, F_Span___init__⟩ := c.def_ 21 (d := d_Span___init__) rfl
  have T : Txt K mg := ⟨He.free_ok X G (c.fact 22 (f := .free "LookupError") rfl), He.free_ok X G (c.fact 23 (f := .free "ValueError") rfl), He.free_ok X G (c.fact 24 (f := .free "all") rfl), He.free_ok X G (c.fact 25 (f := .free "isinstance") rfl), He.free_ok X G (c.fact 26 (f := .free "len") rfl), He.free_ok X G (c.fact 27 (f := .free "list") rfl), He.free_ok X G (c.fact 28 (f := .free "max") rfl), He.free_ok X G (c.fact 29 (f := .free "min") rfl), He.free_ok X G (c.fact 30 (f := .free "range") rfl), He.free_ok X G (c.fact 31 (f := .free "set") rfl), He.free_ok X G (c.fact 32 (f := .free "zip") rfl), He.int_ok X G (c.fact 33 (f := .int "LAST_DAY" (9999)) rfl), He.int_ok X G (c.fact 34 (f := .int "MOST_IN_ROW" (4)) rfl), He.int_ok X G (c.fact 35 (f := .int "MOST_LIVES" (10)) rfl), He.int_ok X G (c.fact 36 (f := .int "NOBODY" (-1)) rfl), He.glo_ok X G (c.fact 37 (f := .glo "Against") rfl), He.glo_ok X G (c.fact 38 (f := .glo "BadCount") rfl), He.glo_ok X G (c.fact 39 (f := .glo "BadDay") rfl), He.glo_ok X G (c.fact 40 (f := .glo "BadName") rfl), He.glo_ok X G (c.fact 41 (f := .glo "BadRow") rfl), He.glo_ok X G (c.fact 42 (f := .glo "BadText") rfl), He.glo_ok X G (c.fact 43 (f := .glo "BadTie") rfl), He.glo_ok X G (c.fact 44 (f := .glo "CantBe") rfl), He.glo_ok X G (c.fact 45 (f := .glo "Full") rfl), He.glo_ok X G (c.fact 46 (f := .glo "GivenUp") rfl), He.glo_ok X G (c.fact 47 (f := .glo "Held") rfl), He.glo_ok X G (c.fact 48 (f := .glo "HoldError") rfl), He.glo_ok X G (c.fact 49 (f := .glo "Idle") rfl), He.glo_ok X G (c.fact 50 (f := .glo "NoHolding") rfl), He.glo_ok X G (c.fact 51 (f := .glo "NoLife") rfl), He.glo_ok X G (c.fact 52 (f := .glo "NoPlace") rfl), He.glo_ok X G (c.fact 53 (f := .glo "NoPresentment") rfl), He.glo_ok X G (c.fact 54 (f := .glo "Nothing") rfl), He.glo_ok X G (c.fact 55 (f := .glo "Span") rfl), He.glo_ok X G (c.fact 56 (f := .glo "Taken") rfl), He.glo_ok X G (c.fact 57 (f := .glo "Twice") rfl), errB_ok (List.all_eq_true.mp cm (errB K "BadCount" false) (by simp)), errB_ok (List.all_eq_true.mp cm (errB K "BadDay" false) (by simp)), errB_ok (List.all_eq_true.mp cm (errB K "BadRow" false) (by simp)), spanB_ok (List.all_eq_true.mp cm (spanB K) (by simp))⟩
  have e := hfa.symm.trans (He.glo_ok X G (c.fact 20 (f := .glo "law") rfl))
  cases e
  have b := FunD.bindsA (ps := ["_law_script"]) F_law fun _ _ _ _ _ _ us hl => match us, hl with | [_], _ => rfl
  refine ⟨fd_law, fun s v => b s [v] rfl, fun base _ _ => ?_⟩
  have B_is_day : Binds K fd_is_day ["number"] [] := F_is_day.bindsN fun _ _ _ _ _ _ us hl => match us, hl with | [_], _ => rfl
  have g_is_day := He.glo_ok X G (c.fact 0 (f := .glo "is_day") rfl)
  have C_is_day : Own P w K mg base "is_day" ["number"] 1 (sp_is_day) := ⟨_, fd_is_day, ok_is_day F_is_day T , g_is_day, F_is_day.kp, B_is_day⟩
  have B_check_count : Binds K fd_check_count ["many"] [] := F_check_count.bindsN fun _ _ _ _ _ _ us hl => match us, hl with | [_], _ => rfl
  have g_check_count := He.glo_ok X G (c.fact 1 (f := .glo "check_count") rfl)
  have C_check_count : OwnX P w K mg base "check_count" ["many"] 1 (sp_check_count K) := ⟨_, fd_check_count, ok_check_count F_check_count T , g_check_count, F_check_count.kp, B_check_count⟩
  have B_check_day : Binds K fd_check_day ["day"] [] := F_check_day.bindsN fun _ _ _ _ _ _ us hl => match us, hl with | [_], _ => rfl
  have g_check_day := He.glo_ok X G (c.fact 2 (f := .glo "check_day") rfl)
  have C_check_day : OwnX P w K mg base "check_day" ["day"] 2 (sp_check_day K) := ⟨_, fd_check_day, ok_check_day F_check_day T C_is_day, g_check_day, F_check_day.kp, B_check_day⟩
  have B_check_unlike : Binds K fd_check_unlike ["row"] [] := F_check_unlike.bindsN fun _ _ _ _ _ _ us hl => match us, hl with | [_], _ => rfl
  have g_check_unlike := He.glo_ok X G (c.fact 3 (f := .glo "check_unlike") rfl)
  have C_check_unlike : OwnX P w K mg base "check_unlike" ["row"] 1 (sp_check_unlike K) := ⟨_, fd_check_unlike, ok_check_unlike F_check_unlike T , g_check_unlike, F_check_unlike.kp, B_check_unlike⟩
  have B_check_row : Binds K fd_check_row ["many", "row"] [] := F_check_row.bindsN fun _ _ _ _ _ _ us hl => match us, hl with | [_, _], _ => rfl
  have g_check_row := He.glo_ok X G (c.fact 4 (f := .glo "check_row") rfl)
  have C_check_row : OwnX P w K mg base "check_row" ["many", "row"] 2 (sp_check_row K) := ⟨_, fd_check_row, ok_check_row F_check_row T C_check_unlike, g_check_row, F_check_row.kp, B_check_row⟩
  have B_check_run : Binds K fd_check_run ["start", "end"] [] := F_check_run.bindsN fun _ _ _ _ _ _ us hl => match us, hl with | [_, _], _ => rfl
  have g_check_run := He.glo_ok X G (c.fact 5 (f := .glo "check_run") rfl)
  have C_check_run : OwnX P w K mg base "check_run" ["start", "end"] 3 (sp_check_run K) := ⟨_, fd_check_run, ok_check_run F_check_run T C_check_day, g_check_run, F_check_run.kp, B_check_run⟩
  have B_check_way : Binds K fd_check_way ["days"] [] := F_check_way.bindsN fun _ _ _ _ _ _ us hl => match us, hl with | [_], _ => rfl
  have g_check_way := He.glo_ok X G (c.fact 6 (f := .glo "check_way") rfl)
  have C_check_way : OwnX P w K mg base "check_way" ["days"] 3 (sp_check_way K) := ⟨_, fd_check_way, ok_check_way F_check_way T C_check_count C_check_day, g_check_way, F_check_way.kp, B_check_way⟩
  have B_holder : Binds K fd_holder ["row", "days", "day"] [] := F_holder.bindsN fun _ _ _ _ _ _ us hl => match us, hl with | [_, _, _], _ => rfl
  have g_holder := He.glo_ok X G (c.fact 7 (f := .glo "holder") rfl)
  have C_holder : OwnX P w K mg base "holder" ["row", "days", "day"] 4 (sp_holder K) := ⟨_, fd_holder, ok_holder F_holder T C_check_day C_check_row C_check_way, g_holder, F_holder.kp, B_holder⟩
  have B_Span___init__ : Binds K fd_Span___init__ ["self", "first", "until"] [] := F_Span___init__.bindsN fun _ _ _ _ _ _ us hl => match us, hl with | [_, _, _], _ => rfl
  have C_Span___init__ : MakX P w K mg base "Span" ["self", "first", "until"] 1 (sp_Span___init__ K) := ⟨_, fd_Span___init__, He.mkr_ok (c.fact 21 (f := .mkr "Span") rfl), ok_Span___init__ F_Span___init__ T , He.glo_ok X G (c.fact 55 (f := .glo "Span") rfl), B_Span___init__⟩
  have g_turns := He.glo_ok X G (c.fact 8 (f := .glo "turns") rfl)
  have C_turns : OwnD P w K mg base "turns" s_turns ["row", "days", "start", "end"] [V.int 0, V.non] 4 (sp_turns K) := ⟨_, fd_turns, ok_turns F_turns T C_check_row C_check_run C_check_way C_Span___init__, g_turns, F_turns⟩
  have g_in_holding := He.glo_ok X G (c.fact 9 (f := .glo "in_holding") rfl)
  have C_in_holding : OwnD P w K mg base "in_holding" s_in_holding ["row", "days", "start", "end"] [V.int 0, V.non] 5 (sp_in_holding K) := ⟨_, fd_in_holding, ok_in_holding F_in_holding T C_turns, g_in_holding, F_in_holding⟩
  have B_lkin : Binds K fd_lkin ["_law_e"] [] := F_lkin.bindsN fun _ _ _ _ _ _ us hl => match us, hl with | [_], _ => rfl
  have g_lkin := He.glo_ok X G (c.fact 10 (f := .glo "_law_kin") rfl)
  have C_lkin : OwnE P w K mg base "_law_kin" ["_law_e"] 1 (sp_lkin K) := ⟨_, fd_lkin, ok_lkin F_lkin T , g_lkin, F_lkin.kp, B_lkin⟩
  have B_lmix : Binds K fd_lmix ["_law_seed"] [] := F_lmix.bindsN fun _ _ _ _ _ _ us hl => match us, hl with | [_], _ => rfl
  have g_lmix := He.glo_ok X G (c.fact 11 (f := .glo "_law_mix") rfl)
  have C_lmix : Own P w K mg base "_law_mix" ["_law_seed"] 1 (sp_lmix) := ⟨_, fd_lmix, ok_lmix F_lmix T , g_lmix, F_lmix.kp, B_lmix⟩
  have B_lraw : Binds K fd_lraw ["_law_script", "_law_k"] [] := F_lraw.bindsN fun _ _ _ _ _ _ us hl => match us, hl with | [_, _], _ => rfl
  have g_lraw := He.glo_ok X G (c.fact 12 (f := .glo "_law_raw") rfl)
  have C_lraw : Own P w K mg base "_law_raw" ["_law_script", "_law_k"] 2 (sp_lraw K) := ⟨_, fd_lraw, ok_lraw F_lraw T C_lmix, g_lraw, F_lraw.kp, B_lraw⟩
  have B_ldigits : Binds K fd_ldigits ["_law_script", "_law_k", "_law_sizes"] [] := F_ldigits.bindsN fun _ _ _ _ _ _ us hl => match us, hl with | [_, _, _], _ => rfl
  have g_ldigits := He.glo_ok X G (c.fact 13 (f := .glo "_law_digits") rfl)
  have C_ldigits : Own P w K mg base "_law_digits" ["_law_script", "_law_k", "_law_sizes"] 3 (sp_ldigits K) := ⟨_, fd_ldigits, ok_ldigits F_ldigits T C_lraw, g_ldigits, F_ldigits.kp, B_ldigits⟩
  have B_ldays : Binds K fd_ldays ["_law_script", "_law_k"] [] := F_ldays.bindsN fun _ _ _ _ _ _ us hl => match us, hl with | [_, _], _ => rfl
  have g_ldays := He.glo_ok X G (c.fact 14 (f := .glo "_law_days") rfl)
  have C_ldays : Own P w K mg base "_law_days" ["_law_script", "_law_k"] 4 (sp_ldays K) := ⟨_, fd_ldays, ok_ldays F_ldays T C_ldigits, g_ldays, F_ldays.kp, B_ldays⟩
  have B_lrow : Binds K fd_lrow ["_law_script", "_law_k", "_law_many"] [] := F_lrow.bindsN fun _ _ _ _ _ _ us hl => match us, hl with | [_, _, _], _ => rfl
  have g_lrow := He.glo_ok X G (c.fact 15 (f := .glo "_law_row") rfl)
  have C_lrow : Own P w K mg base "_law_row" ["_law_script", "_law_k", "_law_many"] 4 (sp_lrow K) := ⟨_, fd_lrow, ok_lrow F_lrow T C_ldigits, g_lrow, F_lrow.kp, B_lrow⟩
  have B_lrun : Binds K fd_lrun ["_law_script", "_law_k", "_law_days_here"] [] := F_lrun.bindsN fun _ _ _ _ _ _ us hl => match us, hl with | [_, _, _], _ => rfl
  have g_lrun := He.glo_ok X G (c.fact 16 (f := .glo "_law_run") rfl)
  have C_lrun : Own P w K mg base "_law_run" ["_law_script", "_law_k", "_law_days_here"] 4 (sp_lrun K) := ⟨_, fd_lrun, ok_lrun F_lrun T C_ldigits, g_lrun, F_lrun.kp, B_lrun⟩
  have B_lfar : Binds K fd_lfar ["_law_number", "_law_way"] [] := F_lfar.bindsN fun _ _ _ _ _ _ us hl => match us, hl with | [_, _], _ => rfl
  have g_lfar := He.glo_ok X G (c.fact 17 (f := .glo "_law_far") rfl)
  have C_lfar : Own P w K mg base "_law_far" ["_law_number", "_law_way"] 1 (sp_lfar) := ⟨_, fd_lfar, ok_lfar F_lfar T , g_lfar, F_lfar.kp, B_lfar⟩
  have B_lword : Binds K fd_lword ["_law_door", "_law_row_here", "_law_days_here", "_law_day", "_law_stop"] [] := F_lword.bindsN fun _ _ _ _ _ _ us hl => match us, hl with | [_, _, _, _, _], _ => rfl
  have g_lword := He.glo_ok X G (c.fact 18 (f := .glo "_law_word") rfl)
  have C_lword : Own P w K mg base "_law_word" ["_law_door", "_law_row_here", "_law_days_here", "_law_day", "_law_stop"] 6 (sp_lword K) := ⟨_, fd_lword, ok_lword F_lword T C_holder C_turns C_in_holding C_lkin, g_lword, F_lword.kp, B_lword⟩
  have B_ldue : Binds K fd_ldue ["_law_door", "_law_row_here", "_law_days_here", "_law_day", "_law_stop"] [] := F_ldue.bindsN fun _ _ _ _ _ _ us hl => match us, hl with | [_, _, _, _, _], _ => rfl
  have g_ldue := He.glo_ok X G (c.fact 19 (f := .glo "_law_due") rfl)
  have C_ldue : Own P w K mg base "_law_due" ["_law_door", "_law_row_here", "_law_days_here", "_law_day", "_law_stop"] 1 (sp_ldue K) := ⟨_, fd_ldue, ok_ldue F_ldue T , g_ldue, F_ldue.kp, B_ldue⟩
  exact ok_law F_law T C_ldigits C_ldays C_lrow C_lrun C_lfar C_lword C_ldue
end K19
open PySem PySem.W PySem.Calls PyProof.Rows
set_option maxRecDepth 100000 in
set_option maxHeartbeats 0 in
theorem PySem.Challenge.cw_lifehold_k19_rows_days_and_runs_refused_holds : PySem.Challenge.rw_lifehold_k19_rows_days_and_runs_refused.Holds := by
  w_on; o_law
  refine HandSHeadRun.head_any (r := OpenLaw.row PySem.Challenge.rw_lifehold_k19_rows_days_and_runs_refused) (q := view (OpenLaw.row PySem.Challenge.rw_lifehold_k19_rows_days_and_runs_refused).prog [52]) (H := K19.hk) (ob := K19.ob) (M := 12000) (loose := K19.loose) (d := HandSHeadRun.topDef (OpenLaw.row PySem.Challenge.rw_lifehold_k19_rows_days_and_runs_refused).prog 52) (kwd := []) K19.ob_eq
    (by kernel_rfl) (fun s => by kernel_rfl) K19.run (by kernel_rfl) (by kernel_rfl) (by kernel_rfl) (by rfl) (by first | assumption | decide +kernel) (by decide +kernel) ⟨rfl, rfl, rfl, rfl, rfl, by decide +kernel⟩ ?hw ?hc
  case hw => w_witness2
  case hc =>
    refine L2.walk_ofE (l := PySem.Challenge.rw_lifehold_k19_rows_days_and_runs_refused) (n := 63) (k := 7) (x := "_law_script") (CX := L2.CX0) rfl (by decide) (by kernel_rfl) ⟨rfl, by decide, by decide⟩ ?F (fun _ _ _ _ z => z)
    intro w mg fa h Y G hmg0
    obtain ⟨K, KX, c⟩ := Y
    have hmg : mg ("law" : PySem.Str) = some (.ref fa) := by
      have e : (HandSHeadRun.topDef (OpenLaw.row PySem.Challenge.rw_lifehold_k19_rows_days_and_runs_refused).prog 52).name = ("law" : PySem.Str) := by kernel_rfl
      rw [← e]
      exact hmg0
    obtain ⟨fd, hb, hF⟩ := K19.facts (P := (PySem.Challenge.rw_lifehold_k19_rows_days_and_runs_refused).prog) (w := w) KX G hmg c.t.d c.more
    exact ⟨K, fd, (K19.sp_law K), KX, hb, fun H a ns hl _ hS => ⟨a, ns, rfl, hS, hl, fun _ => rfl⟩, hF⟩

#print axioms PySem.Challenge.cw_lifehold_k19_rows_days_and_runs_refused_holds
