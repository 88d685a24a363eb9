import PyProof.Rows.All
import Wide.All
import OpenK.AllK
import Wide.FinOn
import KE.KStateDown
import PyProof.EqAt
import PyProof.EqKinds
import PyProof.TupleCall
import HandS.ForMost
import HandS.Defaults
import HandS.Wide
import HandS.NoneIn
import HandS.IsInst
import HandS.Zip
import HandS.Codes
import HandS.Walk
import HandS.Head0
import HandS.Head1
import HandS.Head2
import HandS.HeadEnd
import HandS.HeadHook1
import HandS.HeadHook2
import PySem.Challenge.RW_lifehold_k05_faults_of_ways
set_option Elab.async false
set_option linter.all false
set_option maxRecDepth 100000
set_option maxHeartbeats 4000000
/-! own words over the hand layer -/
namespace LH
open PySem PySem.Spec PyProof.Rows L2
abbrev FnP (K : PySem.W.Frag) (x : Str) (st : Stmt) (f : Addr) (fd : FuncData) : Prop := FunD K x x (defArgs st) (defBody st) (defScope st) [] [] f fd
/-- a def of the text that lets nothing out, by its name -/
structure Own (P : Program) (w : World) (K : PySem.W.Frag) (mg : Str → Option Value) (base : Heap) (x : Str) (ps : List Str) (k : Nat) (sp : Sp) : Prop where
  ex : ∃ (f : Addr) (fd : FuncData), FnOk P w K mg base CX0 k f fd ps sp ∧ mg x = some (.ref f) ∧ PySem.W.keepIn K (.ref f) = true ∧ Binds K fd ps []
section
variable {X : Cx}
theorem pe_own {x : Str} {ps : List Str} {k : Nat} {sp : Sp} {e : Expr} {es : List Expr} {p pos : Pos} {t : TA} (C : Own X.prog X.w X.K X.mg X.base x ps k sp) (hr : Room k X.A) (ha : PA X (e :: es) t) (hg : Gl X x := by rfl)
    (hdb : (x == ("__debug__" : Str)) = false := by decide) (he : starEach (e :: es) X.env = (false, eval e X.env) :: starEach es X.env := by rfl) (hpl : (backTo pos (starEach es X.env)).any (·.1) = false := by rfl) :
    PE X (.Call (.Name x p) (e :: es) [] pos) (tCall sp [] E0 t) := by
  obtain ⟨f, fd, F, hm, hk, hb⟩ := C.ex
  exact pe_call F hr hg hm hk hb .nil pass0 ha hdb he hpl
theorem pe_own0 {x : Str} {ps : List Str} {k : Nat} {sp : Sp} {p pos : Pos} (C : Own X.prog X.w X.K X.mg X.base x ps k sp) (hr : Room k X.A) (hg : Gl X x := by rfl)
    (hdb : (x == ("__debug__" : Str)) = false := by decide) : PE X (.Call (.Name x p) [] [] pos) (tCall sp [] E0 tNil) := by
  obtain ⟨f, fd, F, hm, hk, hb⟩ := C.ex
  exact pe_call0 F hr hg hm hk hb .nil pass0 hdb
theorem pe_const {x : Str} {i : Int} {pos : Pos} (h : ∃ t, X.mg x = some (.int i t)) (hg : Gl X x := by rfl) (hd : (x == ("__debug__" : Str)) = false := by decide) : PE X (.Name x pos) (tC (.int i)) := by
  obtain ⟨t, h⟩ := h
  exact pe_glob hg h ⟨_, rfl⟩ hd
end
/-! heaps -/
theorem same_new {H : Hp} {p : Addr} {o : HO} (h : H p = none) : Same H (upd H p o) := fun a u e => by
  rw [upd_ne (ne_of_none e h)]
  exact e
/-- what H does not know may change -/
theorem same_mut {H H' : Hp} {p : Addr} {o : HO} (e : Same H H') (h : H p = none) : Same H (upd H' p o) := fun a u ha => by
  rw [upd_ne (ne_of_none ha h)]
  exact e a u ha
theorem same_free {H H' : Hp} (e : Same H H') {l : Addr} (h : H' l = none) : H l = none := e.free h
theorem same_t {K : PySem.W.Frag} {H H' : Hp} {a : Addr} {xs : List V} (e : Same H H') (h : SqT K H a xs) : SqT K H' a xs := by
  rcases h with (h | ⟨o, h⟩) | h
  · exact .inl (.inl (e _ _ h))
  · exact .inl (.inr ⟨o, e _ _ h⟩)
  · exact .inr h
theorem sz_of {n : Nat} (h : n ≤ 100000) : n ≤ sizeLine := Nat.le_trans h (by decide)
theorem sz_lt {n : Nat} (h : n < 100000) : n < sizeLine := Nat.lt_of_lt_of_le h (by decide)
theorem mulR {i j : Int} (h1 : -(2 ^ 64) < j) (h2 : j < 2 ^ 64) : CMul i j := .inr ⟨h1, h2⟩
theorem mulL {i j : Int} (h1 : -(2 ^ 64) < i) (h2 : i < 2 ^ 64) : CMul i j := .inl ⟨h1, h2⟩
theorem bool_tt (b : Bool) : (b = true) ∨ (b = false) := by cases b <;> simp
theorem get_ints {ns : List Int} {i : Nat} {y : V} (hi : (ns.map V.int)[i]? = some y) : ∃ z, ns[i]? = some z ∧ y = V.int z := by
  rw [List.getElem?_map] at hi
  cases e : ns[i]? with
  | none => rw [e] at hi; cases hi
  | some z => rw [e] at hi; exact ⟨z, rfl, (Option.some.inj hi).symm⟩
/-! the rules that speak of the written part, with that part named -/
section
variable {X : Cx} (K : PySem.W.Frag)
theorem ixl (h : X.K = K := by rfl) : IxR X (rIxL K) := by subst h; exact ix_list
theorem ixt (h : X.K = K := by rfl) : IxR X (rIxT K) := by subst h; exact ix_tup
theorem lenK (h : X.K = K := by rfl) : CallR X (.builtin "len") (fun vs H Q => ∃ p ys, vs = [.ref p] ∧ (SqL K H p ys ∨ SqT K H p ys) ∧ Q (.int ys.length) H) := by subst h; exact call_len_seq
theorem slK (h : X.K = K := by rfl) : SlR X (rSlL K) := by subst h; exact sl_list
theorem allK (hc : X.calm = true) (h : X.K = K := by rfl) : CallR X (.builtin "all") (rAll K) := by subst h; exact cr_all hc
theorem anyK (hc : X.calm = true) (h : X.K = K := by rfl) : CallR X (.builtin "any") (rAny K) := by subst h; exact cr_any hc
theorem sumK (hc : X.calm = true) (h : X.K = K := by rfl) : CallR X (.builtin "sum") (rSum K) := by subst h; exact cr_sum hc
theorem maxK (hc : X.calm = true) (h : X.K = K := by rfl) : CallR X (.builtin "max") (rMax K) := by subst h; exact cr_max hc
theorem minK (hc : X.calm = true) (h : X.K = K := by rfl) : CallR X (.builtin "min") (rMin K) := by subst h; exact cr_min hc
theorem isiK (h : X.K = K := by rfl) : CallR X (.builtin "isinstance") (rIsi K) := by subst h; exact call_isi
theorem lstK (h : X.K = K := by rfl) : CallR X (.type "list") (fun vs H Q => ∃ p ys, vs = [.ref p] ∧ (SqL K H p ys ∨ SqT K H p ys) ∧ ∀ l, H l = none → Q (.ref l) (upd H l (.lst ys))) := by subst h; exact call_list_of
theorem eqDK (hu : X.A.units + 64 < cLine) (h : X.K = K := by rfl) : OpR X (compareOp .Eq) (rEqD K) := by subst h; exact op_eqD hu
theorem neDK (hu : X.A.units + 64 < cLine) (h : X.K = K := by rfl) : OpR X (compareOp .NotEq) (rNeD K) := by subst h; exact op_neD hu
theorem pilK {tg l : Expr} {tl : TE} (hl : PE X l tl) (h : X.K = K := by rfl) : PI X tg l (iList K tl) := by subst h; exact pi_list hl
theorem pitK {tg l : Expr} {tl : TE} (hl : PE X l tl) (h : X.K = K := by rfl) : PI X tg l (iTup K tl) := by subst h; exact pi_tup hl
theorem pgtK {es : List Expr} {k : Nat} {t : TGs} {n : Nat} {pos : Pos} (hc : X.calm = true) (hh : PGs X es t) (h : X.K = K := by rfl) (hn : (assignEach es X.env).length = n := by rfl) (hst : (assignEach es X.env).findIdx? (·.1) = none := by rfl) :
    PG X (.Tuple es k pos) (gTup K n t) := by subst h; exact pg_tup hc hh hn hst
theorem pguK {es : List Expr} {k : Nat} {t : TGs} {n : Nat} {pos : Pos} (hc : X.calm = true) (hh : PGs X es t) (h : X.K = K := by rfl) (hn : (assignEach es X.env).length = n := by rfl) (hst : (assignEach es X.env).findIdx? (·.1) = none := by rfl) :
    PG X (.Tuple es k pos) (gUnl K n t) := by subst h; exact pg_unl hc hh hn hst
end
end LH

set_option Elab.async false
set_option linter.all false
set_option maxRecDepth 100000
set_option maxHeartbeats 4000000
namespace LH
open PySem PySem.Spec PyProof.Rows L2
/-! ties -/
abbrev Tie := Int × Int × Int
def TieAt (H : Hp) (v : V) (t : Tie) : Prop := ∃ p, v = .ref p ∧ H p = some (.tup [.int t.1, .int t.2.1, .int t.2.2])
def TiesAt (H : Hp) : List V → List Tie → Prop
  | [], [] => True
  | v :: vs, t :: ts => TieAt H v t ∧ TiesAt H vs ts
  | _, _ => False
theorem TieAt.mono {H H' : Hp} {v : V} {t : Tie} (e : Same H H') (h : TieAt H v t) : TieAt H' v t := by
  obtain ⟨p, h1, h2⟩ := h
  exact ⟨p, h1, e _ _ h2⟩
theorem TiesAt.mono {H H' : Hp} (e : Same H H') : ∀ {vs : List V} {ts : List Tie}, TiesAt H vs ts → TiesAt H' vs ts
  | [], [], _ => trivial
  | _ :: _, _ :: _, h => ⟨h.1.mono e, TiesAt.mono e h.2⟩
theorem TiesAt.updL {H : Hp} {l : Addr} {o : HO} {zs : List V} (hl : H l = some (.lst zs)) : ∀ {vs : List V} {ts : List Tie}, TiesAt H vs ts → TiesAt (upd H l o) vs ts
  | [], [], _ => trivial
  | _ :: _, _ :: _, h => by
    obtain ⟨⟨p, h1, h2⟩, h3⟩ := h
    exact ⟨⟨p, h1, by rw [upd_ne (ne_of h2 hl (by intro z; cases z))]; exact h2⟩, TiesAt.updL hl h3⟩
theorem TiesAt.length {H : Hp} : ∀ {vs : List V} {ts : List Tie}, TiesAt H vs ts → vs.length = ts.length
  | [], [], _ => rfl
  | _ :: _, _ :: _, h => by simp [TiesAt.length h.2]
theorem TiesAt.app {H : Hp} : ∀ {vs ws : List V} {ts us : List Tie}, TiesAt H vs ts → TiesAt H ws us → TiesAt H (vs ++ ws) (ts ++ us)
  | [], _, [], _, _, h2 => h2
  | _ :: _, _, _ :: _, _, h, h2 => ⟨h.1, TiesAt.app h.2 h2⟩
theorem TiesAt.get {H : Hp} : ∀ {vs : List V} {ts : List Tie} {i : Nat} {v : V}, TiesAt H vs ts → vs[i]? = some v → ∃ t, ts[i]? = some t ∧ TieAt H v t
  | [], [], i, v, _, h2 => by simp at h2
  | v :: vs, t :: ts, 0, w, h, h2 => by
    have e : v = w := Option.some.inj h2
    subst e
    exact ⟨t, rfl, h.1⟩
  | v :: vs, t :: ts, i + 1, w, h, h2 => TiesAt.get (i := i) h.2 h2
theorem TiesAt.get' {H : Hp} {vs : List V} {ts : List Tie} {i : Nat} {t : Tie} (h : TiesAt H vs ts) (h2 : ts[i]? = some t) : ∃ v, vs[i]? = some v ∧ TieAt H v t := by
  have hi : i < vs.length := by
    rw [h.length]
    exact (List.getElem?_eq_some_iff.mp h2).1
  obtain ⟨t', e, q⟩ := h.get (List.getElem?_eq_getElem hi)
  rw [h2] at e
  cases e
  exact ⟨_, List.getElem?_eq_getElem hi, q⟩
theorem TiesAt.set {H : Hp} : ∀ {vs : List V} {ts : List Tie} {i : Nat} {v : V} {t : Tie}, TiesAt H vs ts → TieAt H v t → TiesAt H (vs.set i v) (ts.set i t)
  | [], [], _, _, _, _, _ => trivial
  | _ :: _, _ :: _, 0, _, _, h, h2 => ⟨h2, h.2⟩
  | _ :: _, _ :: _, i + 1, _, _, h, h2 => ⟨h.1, TiesAt.set (i := i) h.2 h2⟩
theorem TiesAt.take {H : Hp} : ∀ {vs : List V} {ts : List Tie} (n : Nat), TiesAt H vs ts → TiesAt H (vs.take n) (ts.take n)
  | [], [], n, _ => by simp [TiesAt]
  | _ :: _, _ :: _, 0, _ => trivial
  | _ :: _, _ :: _, n + 1, h => ⟨h.1, TiesAt.take n h.2⟩
theorem TiesAt.drop {H : Hp} : ∀ {vs : List V} {ts : List Tie} (n : Nat), TiesAt H vs ts → TiesAt H (vs.drop n) (ts.drop n)
  | [], [], n, _ => by simp [TiesAt]
  | _ :: _, _ :: _, 0, h => h
  | _ :: _, _ :: _, n + 1, h => TiesAt.drop n h.2
theorem TiesAt.rep {H : Hp} {vs : List V} {ts : List Tie} (h : TiesAt H vs ts) : ∀ n : Nat, TiesAt H (List.replicate n vs).flatten (List.replicate n ts).flatten
  | 0 => trivial
  | n + 1 => by
    rw [List.replicate_succ, List.replicate_succ, List.flatten_cons, List.flatten_cons]
    exact h.app (TiesAt.rep h n)
/-- a tie for so many lives -/
def TieOk (many : Int) (t : Tie) : Prop := -1 ≤ t.1 ∧ t.1 < many ∧ -1 ≤ t.2.1 ∧ t.2.1 < many ∧ t.1 ≠ t.2.1 ∧ -9999 ≤ t.2.2 ∧ t.2.2 ≤ 9999
instance (many : Int) (t : Tie) : Decidable (TieOk many t) := by unfold TieOk; infer_instance
def dayOf (ds : List Int) (o : Int) : Int := if o < 0 then 0 else ds.getD o.toNat 0
def KeptW (ds : List Int) (t : Tie) : Prop := t.2.2 ≤ dayOf ds t.1 - dayOf ds t.2.1
instance (ds : List Int) (t : Tie) : Decidable (KeptW ds t) := by unfold KeptW; infer_instance
theorem dayOf_neg {ds : List Int} {o : Int} (h : o < 0) : dayOf ds o = 0 := if_pos h
theorem dayOf_get {ds : List Int} {o z : Int} (h : ¬ o < 0) (e : ds[o.toNat]? = some z) : dayOf ds o = z := by
  unfold dayOf
  rw [if_neg h, List.getD_eq_getElem?_getD, e]
  rfl
theorem at_ints {ds : List Int} {o : Int} (h : ¬ o < 0) (h2 : o < ds.length) : atI (ds.map V.int) o = some (V.int (dayOf ds o)) := by
  obtain ⟨z, e⟩ : ∃ z, ds[o.toNat]? = some z := ⟨_, List.getElem?_eq_getElem (by omega)⟩
  refine at_of (j := o.toNat) (by omega) ?_
  rw [List.getElem?_map, e, dayOf_get h e]
  rfl
/-! data -/
def tieD (t : Tie) : PyData := .tuple [.int t.1, .int t.2.1, .int t.2.2]
def tiesD (ts : List Tie) : PyData := .list (ts.map tieD)
def intsD (ns : List Int) : PyData := .list (ns.map PyData.int)
theorem dpAll_ints {K : PySem.W.Frag} {H : Hp} : ∀ ns : List Int, DpAll K H (ns.map V.int) (ns.map PyData.int)
  | [] => .nil
  | n :: ns => .cons (.int n) (dpAll_ints ns)
theorem dp_ints {K : PySem.W.Frag} {H : Hp} {a : Addr} {ns : List Int} (h : SqL K H a (ns.map V.int)) : Dp K H (.ref a) (intsD ns) := .lst h (dpAll_ints ns)
theorem dp_tie {K : PySem.W.Frag} {H : Hp} {v : V} {t : Tie} (h : TieAt H v t) : Dp K H v (tieD t) := by
  obtain ⟨p, rfl, h2⟩ := h
  exact .tup (SqT.of h2) (.cons (.int _) (.cons (.int _) (.cons (.int _) .nil)))
theorem dpAll_ties {K : PySem.W.Frag} {H : Hp} : ∀ {vs : List V} {ts : List Tie}, TiesAt H vs ts → DpAll K H vs (ts.map tieD)
  | [], [], _ => .nil
  | _ :: _, _ :: _, h => .cons (dp_tie h.1) (dpAll_ties h.2)
theorem dp_ties {K : PySem.W.Frag} {H : Hp} {a : Addr} {vs : List V} {ts : List Tie} (h : SqL K H a vs) (h2 : TiesAt H vs ts) : Dp K H (.ref a) (tiesD ts) := .lst h (dpAll_ties h2)
theorem lay_ints : ∀ ns : List Int, PyData.canLayAll0 (ns.map PyData.int) = true ∧ PyData.depthAll (ns.map PyData.int) = 0
  | [] => ⟨rfl, rfl⟩
  | n :: ns => by
    obtain ⟨h1, h2⟩ := lay_ints ns
    constructor
    · simp [PyData.canLayAll0, PyData.canLay0, h1]
    · simp [PyData.depthAll, PyData.depth, h2]
theorem lay_ties : ∀ ts : List Tie, PyData.canLayAll0 (ts.map tieD) = true ∧ PyData.depthAll (ts.map tieD) ≤ 1
  | [] => ⟨rfl, Nat.zero_le _⟩
  | n :: ns => by
    obtain ⟨h1, h2⟩ := lay_ties ns
    constructor
    · simp [PyData.canLayAll0, PyData.canLay0, h1, tieD]
    · simp [PyData.depthAll, PyData.depth, tieD]
      omega
theorem shaped_ints (ns : List Int) : SeqAt.shaped (intsD ns) = true := by
  obtain ⟨h1, h2⟩ := lay_ints ns
  simp [SeqAt.shaped, intsD, PyData.canLay0, PyData.depth, h1, h2]
theorem shaped_ties (ts : List Tie) : SeqAt.shaped (tiesD ts) = true := by
  obtain ⟨h1, h2⟩ := lay_ties ts
  simp [SeqAt.shaped, tiesD, PyData.canLay0, PyData.depth, h1]
  omega
theorem eqv_self {d : PyData} (h : SeqAt.shaped d = true) : PyData.eqv d d = true := SeqAt.eqv_refl d (SeqAt.canLay_of_shaped h)
theorem eqv_ints_nil (ns : List Int) : PyData.eqv (intsD ns) (.list []) = decide (ns = []) := by
  cases ns with
  | nil => rfl
  | cons n ns => simp [intsD, PyData.eqv, PyData.eqvAll]
theorem eqv_ties_nil (ts : List Tie) : PyData.eqv (tiesD ts) (.list []) = decide (ts = []) := by
  cases ts with
  | nil => rfl
  | cons n ns => simp [tiesD, PyData.eqv, PyData.eqvAll]
theorem dp_nil {K : PySem.W.Frag} {H : Hp} {a : Addr} (h : H a = some (.lst [])) : Dp K H (.ref a) (.list []) := .lst (SqL.of h) .nil
/-! isinstance -/
def tyN : PyData → String
  | .none => "NoneType" | .bool _ => "bool" | .int _ => "int" | .str _ => "str" | .list _ => "list" | .tuple _ => "tuple" | .dict _ => "dict"
theorem tyX_of {K : PySem.W.Frag} {H : Hp} {v : V} {d : PyData} (h : Dp K H v d) : TyX K H v (.type (tyN d)) := by
  cases h with
  | non => exact .base .non
  | bl b => exact .base (.bl b)
  | int i => exact .base (.int i)
  | str x => exact .base (.str x)
  | lst h _ =>
    rcases h with (h | ⟨o, h⟩) | ⟨o, its, n, h1, h2, _⟩
    · exact .base (.lst h)
    · exact .base (.frz h)
    · exact .kList h1 h2
  | tup h _ =>
    rcases h with (h | ⟨o, h⟩) | ⟨o, its, n, h1, h2, _⟩
    · exact .base (.tup h)
    · exact .fTuple h
    · exact .kTuple h1 h2
def isI (d : PyData) (c : String) : Bool := (kitB (tyN d) c).getD false
theorem kit_is {K : PySem.W.Frag} (d : PyData) {c : String} (hc : c = "list" ∨ c = "tuple" ∨ c = "bool" ∨ c = "int" ∨ c = "str") : PySem.W.kitOne K (.type (tyN d)) (.type c) = some (isI d c) := by
  refine kit_ty ?_
  unfold isI
  rcases hc with rfl | rfl | rfl | rfl | rfl <;> cases d <;> simp only [tyN] <;> decide +kernel
mutual
theorem dp_mono {K : PySem.W.Frag} {H H' : Hp} (e : Same H H') : ∀ (d : PyData) (v : V), Dp K H v d → Dp K H' v d
  | .none, _, h => by cases h; exact .non
  | .bool b, _, h => by cases h; exact .bl b
  | .int i, _, h => by cases h; exact .int i
  | .str x, _, h => by cases h; exact .str x
  | .list ds, _, h => by
    cases h with
    | lst h q => exact .lst (e.seq h) (dp_monoAll e ds _ q)
  | .tuple ds, _, h => by
    cases h with
    | tup h q => exact .tup (same_t e h) (dp_monoAll e ds _ q)
  | .dict _, _, h => by cases h
theorem dp_monoAll {K : PySem.W.Frag} {H H' : Hp} (e : Same H H') : ∀ (ds : List PyData) (vs : List V), DpAll K H vs ds → DpAll K H' vs ds
  | [], _, h => by cases h; exact .nil
  | d :: ds, _, h => by
    cases h with
    | cons h q => exact .cons (dp_mono e d _ h) (dp_monoAll e ds _ q)
end
theorem dpAll_get {K : PySem.W.Frag} {H : Hp} : ∀ {vs : List V} {ds : List PyData} {i : Nat} {v : V}, DpAll K H vs ds → vs[i]? = some v → ∃ d, ds[i]? = some d ∧ Dp K H v d
  | [], _, i, v, h, h2 => by simp at h2
  | w :: vs, _, 0, v, h, h2 => by
    cases h with
    | cons h q =>
      have e : w = v := Option.some.inj h2
      subst e
      exact ⟨_, rfl, h⟩
  | w :: vs, _, i + 1, v, h, h2 => by
    cases h with
    | cons h q => exact dpAll_get (i := i) q h2
theorem dpAll_len {K : PySem.W.Frag} {H : Hp} : ∀ {vs : List V} {ds : List PyData}, DpAll K H vs ds → vs.length = ds.length
  | [], _, h => by cases h; rfl
  | w :: vs, _, h => by
    cases h with
    | cons h q => simp [dpAll_len q]
end LH
namespace LH
open PySem PySem.Spec PyProof.Rows L2
theorem iteD {c A B : Prop} [Decidable c] (hc : c) (h : A) : if decide c = true then A else B := by
  rw [decide_eq_true hc]
  exact iteT h
theorem iteDF {c A B : Prop} [Decidable c] (hc : ¬ c) (h : B) : if decide c = true then A else B := by
  rw [decide_eq_false hc]
  exact iteF h
theorem iteB {b : Bool} {A B : Prop} (hb : b = true) (h : A) : if b = true then A else B := by
  rw [hb]
  exact iteT h
theorem iteBF {b : Bool} {A B : Prop} (hb : b = false) (h : B) : if b = true then A else B := by
  rw [hb]
  exact iteF h
/-- zip of two tuples, walked -/
theorem walk_zipT {K : PySem.W.Frag} {a b : Addr} {xs ys : List V} {n : Nat} (hn : n = min xs.length ys.length) :
    Walk (RZ.ItzT K a b) n (fun H => SqT K H a xs ∧ SqT K H b ys) (YPair (fun i => xs[i]?) (fun i => ys[i]?)) := by
  subst hn
  constructor
  · intro i H hi q
    have h1 : i < xs.length := by omega
    have h2 : i < ys.length := by omega
    exact ⟨xs, ys, xs[i], ys[i], q.1, q.2, by simp [h1], by simp [h2]⟩
  · intro H q
    exact ⟨xs, ys, q.1, q.2, by omega⟩
  · intro i H v H' _ q y
    obtain ⟨T, x, z, h1, h2, h3, h4, h5⟩ := y
    exact ⟨T, x, z, h1, h2, h3, h4 xs q.1, h5 ys q.2⟩
theorem isI_list (d : PyData) : isI d "list" = (match d with | .list _ => true | _ => false) := by
  unfold isI
  cases d <;> simp only [tyN] <;> decide +kernel
theorem isI_tuple (d : PyData) : isI d "tuple" = (match d with | .tuple _ => true | _ => false) := by
  unfold isI
  cases d <;> simp only [tyN] <;> decide +kernel
theorem isI_bool (d : PyData) : isI d "bool" = (match d with | .bool _ => true | _ => false) := by
  unfold isI
  cases d <;> simp only [tyN] <;> decide +kernel
theorem isI_int (d : PyData) : isI d "int" = (match d with | .bool _ => true | .int _ => true | _ => false) := by
  unfold isI
  cases d <;> simp only [tyN] <;> decide +kernel
theorem depthAll_get : ∀ {ds : List PyData} {i : Nat} {d : PyData}, ds[i]? = some d → d.depth ≤ PyData.depthAll ds
  | [], i, d, h => by simp at h
  | e :: ds, 0, d, h => by
    have q : e = d := Option.some.inj h
    subst q
    simp only [PyData.depthAll]
    omega
  | e :: ds, i + 1, d, h => by
    have := depthAll_get (ds := ds) (i := i) (d := d) h
    simp only [PyData.depthAll]
    omega
theorem canLayAll_get : ∀ {ds : List PyData} {i : Nat} {d : PyData}, PyData.canLayAll0 ds = true → ds[i]? = some d → d.canLay0 = true
  | [], i, d, _, h => by simp at h
  | e :: ds, 0, d, h0, h => by
    have q : e = d := Option.some.inj h
    subst q
    simp only [PyData.canLayAll0, Bool.and_eq_true] at h0
    exact h0.1
  | e :: ds, i + 1, d, h0, h => by
    simp only [PyData.canLayAll0, Bool.and_eq_true] at h0
    exact canLayAll_get (ds := ds) (i := i) (d := d) h0.2 h
theorem shaped_mk {d : PyData} (h : d.canLay0 = true) (h2 : d.depth ≤ 64) : SeqAt.shaped d = true := by
  unfold SeqAt.shaped
  rw [h, decide_eq_true h2]
  rfl
mutual
/-- a bound on the lengths within -/
def sizeD : PyData → Nat
  | .list ds => ds.length + sizeAll ds
  | .tuple ds => ds.length + sizeAll ds
  | .none => 0
  | .bool _ => 0
  | .int _ => 0
  | .str _ => 0
  | .dict _ => 0
def sizeAll : List PyData → Nat
  | [] => 0
  | d :: ds => sizeD d + sizeAll ds
end
theorem sizeAll_get : ∀ {ds : List PyData} {i : Nat} {d : PyData}, ds[i]? = some d → sizeD d ≤ sizeAll ds
  | [], i, d, h => by simp at h
  | e :: ds, 0, d, h => by
    have q : e = d := Option.some.inj h
    subst q
    simp only [sizeAll]
    omega
  | e :: ds, i + 1, d, h => by
    have := sizeAll_get (ds := ds) (i := i) (d := d) h
    simp only [sizeAll]
    omega
/-- 0 if o < 0 else days[o] -/
theorem if_day {K : PySem.W.Frag} {ds : List Int} {a : Addr} {o : Int} {i j : Nat} {σ : L2.St} {H : Hp} {Q : VK} (hS : SqL K H a (ds.map V.int)) (hi : σ[i]? = some (some (.int o))) (hj : σ[j]? = some (some (.ref a))) (ho : o < ds.length) (q : Q (.int (dayOf ds o)) H) :
    tIf (tTest (tOp (rI0 fun i j => .bl (decide (i < j))) (tVar i) (tC (.int 0)))) (tC (.int 0)) (tOp (rIxL K) (tVar j) (tVar i)) σ H Q := by
  refine ⟨_, hi, _, _, rfl, rfl, _, rfl, ?_⟩
  refine ite2 (fun c => ?_) (fun c => ?_)
  · rw [dayOf_neg (of_decide_eq_true c)] at q
    exact q
  · exact ⟨_, hj, _, hi, a, _, o, _, rfl, rfl, hS, at_ints (fun z => c (decide_eq_true z)) ho, q⟩
/-- 0 if o == 0 else days[o - 1] -/
theorem if_day1 {K : PySem.W.Frag} {ds : List Int} {a : Addr} {o : Int} {i j : Nat} {σ : L2.St} {H : Hp} {Q : VK} (hS : SqL K H a (ds.map V.int)) (hi : σ[i]? = some (some (.int o))) (hj : σ[j]? = some (some (.ref a))) (h0 : 0 ≤ o) (ho : o ≤ ds.length) (q : Q (.int (dayOf ds (o - 1))) H) :
    tIf (tTest (tOp rEq (tVar i) (tC (.int 0)))) (tC (.int 0)) (tOp (rIxL K) (tVar j) (tOp (rI0 fun i j => .int (i - j)) (tVar i) (tC (.int 1)))) σ H Q := by
  refine ⟨_, hi, rfl, _, rfl, ?_⟩
  refine ite2 (fun c => ?_) (fun c => ?_)
  · have c : V.int o = V.int 0 := of_decide_eq_true c
    have c2 : o = 0 := by injection c
    rw [dayOf_neg (by omega)] at q
    exact q
  · have hne : o ≠ 0 := fun z => c (decide_eq_true (by rw [z]))
    exact ⟨_, hj, _, hi, _, _, rfl, rfl, a, _, _, _, rfl, rfl, hS, at_ints (by omega) (by omega), q⟩
/-! what is drawn -/
structure GreatAt (H H' : Hp) (p l d : Addr) (xs : List V) (ts : List Tie) (ds : List Int) (m bad most : Int) : Prop where
  same : Same H H'
  np : H p = none
  nl : H l = none
  nd : H d = none
  tup : H' p = some (.tup [.int m, .ref l, .ref d, .int bad])
  lst : H' l = some (.lst xs)
  ties : TiesAt H' xs ts
  days : H' d = some (.lst (ds.map V.int))
  m1 : 1 ≤ m
  m10 : m ≤ 10
  dl : (ds.length : Int) = m
  dr : ∀ x ∈ ds, 0 ≤ x ∧ x ≤ 9999
  ok : ∀ t ∈ ts, TieOk m t
  kept : ∀ t ∈ ts, KeptW ds t
  tl : (ts.length : Int) ≤ most
  b0 : 0 ≤ bad
  b4 : bad < 4
theorem flat_one {α : Type} (x : α) : ∀ n : Nat, (List.replicate n [x]).flatten = List.replicate n x
  | 0 => rfl
  | n + 1 => by
    rw [List.replicate_succ, List.flatten_cons, flat_one x n, List.replicate_succ]
    rfl
theorem dayOf_range {ds : List Int} (h : ∀ x ∈ ds, 0 ≤ x ∧ x ≤ 9999) (o : Int) : 0 ≤ dayOf ds o ∧ dayOf ds o ≤ 9999 := by
  unfold dayOf
  split
  · omega
  · rw [List.getD_eq_getElem?_getD]
    cases e : ds[o.toNat]? with
    | none => simp
    | some z => exact h z (List.mem_of_getElem? e)
theorem emod_wrap {x M : Int} (h0 : 0 ≤ x) (h1 : x < 2 * M) (hM : 0 < M) : x % M = if x < M then x else x - M := by
  split
  · exact Int.emod_eq_of_lt h0 (by assumption)
  · rw [← Int.sub_emod_right]
    exact Int.emod_eq_of_lt (by omega) (by omega)
theorem cut_ints (ds : List Int) (lo hi : Option Int) : ∃ es : List Int, cutV (ds.map V.int) lo hi = es.map V.int ∧ es.length ≤ ds.length := by
  have hl := cutV_length (ds.map V.int) lo hi
  unfold cutV at hl ⊢
  rw [← List.map_drop, ← List.map_take] at hl ⊢
  exact ⟨_, rfl, by simpa using hl⟩
theorem dp_int_tup {K : PySem.W.Frag} {H : Hp} {p : Addr} {x : Str} {i : Int} (h : H p = some (.tup [.str x, .int i])) : Dp K H (.ref p) (.tuple [.str x, .int i]) := .tup (SqT.of h) (.cons (.str _) (.cons (.int _) .nil))
/-! faults of ways -/
def badDay (ds : List Int) (i : Nat) : Bool := !decide (0 ≤ ds.getD i 0 ∧ ds.getD i 0 ≤ 9999)
def badTie (ts : List Tie) (ds : List Int) (i : Nat) : Bool := !decide (KeptW ds (ts.getD i (0, 0, 0)))
def wfDue (m : Int) (ts : List Tie) (ds : List Int) : Option (Str × Int) :=
  if (ds.length : Int) ≠ m then some ("many", (ds.length : Int)) else
    match (List.range ds.length).find? (badDay ds) with
    | some i => some ("day", (i : Int))
    | none => match (List.range ts.length).find? (badTie ts ds) with
      | some i => some ("tie", (i : Int))
      | none => none
def dueD : Option (Str × Int) → PyData
  | none => .none
  | some (x, i) => .tuple [.str x, .int i]
theorem find_first {p : Nat → Bool} {n i : Nat} (hi : i < n) (h : p i = true) (hb : ∀ j, j < i → p j = false) : (List.range n).find? p = some i := by
  rw [List.find?_range_eq_some]
  refine ⟨h, List.mem_range.mpr hi, fun j hj => by rw [hb j hj]; rfl⟩
theorem find_none {p : Nat → Bool} {n : Nat} (hb : ∀ j, j < n → p j = false) : (List.range n).find? p = none := by
  rw [List.find?_eq_none]
  intro j hj
  rw [hb j (List.mem_range.mp hj)]
  exact Bool.false_ne_true
theorem getD_of {α : Type} {l : List α} {i : Nat} {x d : α} (h : l[i]? = some x) : l.getD i d = x := by
  rw [List.getD_eq_getElem?_getD, h]
  rfl
/-- the places, told as ints -/
def places (p : Nat → Bool) (n : Nat) : List Int := ((List.range n).filter p).map fun (j : Nat) => (j : Int)
theorem places_succ (p : Nat → Bool) (n : Nat) : places p (n + 1) = if p n = true then places p n ++ [(n : Int)] else places p n := by
  unfold places
  rw [List.range_succ, List.filter_append]
  cases h : p n with
  | true => simp [h]
  | false => simp [h]
theorem places_len (p : Nat → Bool) (n : Nat) : (places p n).length ≤ n := by
  unfold places
  rw [List.length_map]
  have := List.length_filter_le p (List.range n)
  simpa using this
theorem places_head (p : Nat → Bool) (n : Nat) : (places p n).head? = ((List.range n).find? p).map fun (j : Nat) => (j : Int) := by
  unfold places
  rw [List.head?_map, List.head?_filter]
theorem at_head {ns : List Int} {z : Int} (h : ns.head? = some z) : atI (ns.map V.int) 0 = some (V.int z) := by
  cases ns with
  | nil => cases h
  | cons n ns =>
    have e : n = z := Option.some.inj h
    subst e
    exact at_of (j := 0) rfl rfl
theorem due_shape (m : Int) (ts : List Tie) (ds : List Int) : SeqAt.shaped (dueD (wfDue m ts ds)) = true ∧ (dueD (wfDue m ts ds)).depth ≤ 1 ∧ sizeD (dueD (wfDue m ts ds)) ≤ 10 := by
  have key : ∀ (x : Str) (i : Int), PyData.canLay0 (.str x) = true → SeqAt.shaped (dueD (some (x, i))) = true ∧ (dueD (some (x, i))).depth ≤ 1 ∧ sizeD (dueD (some (x, i))) ≤ 10 := fun x i hx => by
    refine ⟨shaped_mk ?_ ?_, ?_, ?_⟩
    · simp only [dueD, PyData.canLay0, PyData.canLayAll0] at hx ⊢
      rw [hx]
      rfl
    · simp [dueD, PyData.depth, PyData.depthAll]
    · simp [dueD, PyData.depth, PyData.depthAll]
    · simp [dueD, sizeD, sizeAll]
  unfold wfDue
  split
  · exact key _ _ (by decide +kernel)
  · split
    · exact key _ _ (by decide +kernel)
    · split
      · exact key _ _ (by decide +kernel)
      · exact ⟨rfl, Nat.zero_le _, Nat.zero_le _⟩
/-- lo <= x <= hi, as a test -/
theorem t_between {lo hi z : Int} {tb : TE} {σ : L2.St} {H : Hp} {Q : Bool → Hp → Prop} (hb : ∀ Q' : VK, Q' (.int z) H → tb σ H Q') (q : Q (decide (lo ≤ z ∧ z ≤ hi)) H) :
    tTest (tChain (rI0 fun i j => .bl (decide (i ≤ j))) (rI0 fun i j => .bl (decide (i ≤ j))) (tC (.int lo)) tb (tC (.int hi))) σ H Q := by
  refine hb _ ⟨_, _, rfl, rfl, _, rfl, ?_⟩
  refine ite2 (fun c => ?_) (fun c => ?_)
  · have c : lo ≤ z := of_decide_eq_true c
    refine ⟨_, _, rfl, rfl, _, rfl, ?_⟩
    have e : decide (lo ≤ z ∧ z ≤ hi) = decide (z ≤ hi) := by simp [c]
    rw [e] at q
    exact q
  · refine ⟨_, rfl, ?_⟩
    have e : decide (lo ≤ z ∧ z ≤ hi) = false := decide_eq_false fun z => c (decide_eq_true z.1)
    rw [e] at q
    exact q
theorem shaped2 {d e : PyData} (hd : SeqAt.shaped d = true) (he : SeqAt.shaped e = true) (h1 : d.depth ≤ 10) (h2 : e.depth ≤ 10) : SeqAt.shaped (.list [d, e]) = true := by
  refine shaped_mk ?_ ?_
  · simp [PyData.canLay0, PyData.canLayAll0, SeqAt.canLay_of_shaped hd, SeqAt.canLay_of_shaped he]
  · simp [PyData.depth, PyData.depthAll]
    omega
theorem depth_ints (ns : List Int) : (intsD ns).depth ≤ 1 := by
  have := (lay_ints ns).2
  simp [intsD, PyData.depth, this]
theorem depth_ties (ts : List Tie) : (tiesD ts).depth ≤ 2 := by
  have := (lay_ties ts).2
  simp [tiesD, PyData.depth]
  omega
theorem dp_pair {K : PySem.W.Frag} {H : Hp} {a : Addr} {u v : V} {d e : PyData} (h : H a = some (.lst [u, v])) (hd : Dp K H u d) (he : Dp K H v e) : Dp K H (.ref a) (.list [d, e]) := .lst (SqL.of h) (.cons hd (.cons he .nil))
theorem at_ints_nat {ds : List Int} {i : Nat} {z o : Int} (e : o = (i : Int)) (h : ds[i]? = some z) : atI (ds.map V.int) o = some (V.int z) := at_of (j := i) e (by rw [List.getElem?_map, h]; rfl)
end LH

set_option Elab.async false
set_option linter.all false
set_option maxRecDepth 100000
set_option maxHeartbeats 4000000
namespace K05
open PySem PySem.Spec PyProof.Rows L2 LH
def top (i : Nat) : Stmt := PySem.Challenge.pw_lifehold_k05_faults_of_ways.main.body.getD i (.Pass ⟨0, 0, 0, 0⟩)
abbrev s_is_day : Stmt := top 6
abbrev N_is_day : List Str := ["number"]
abbrev s_is_one : Stmt := top 11
abbrev N_is_one : List Str := ["many", "one"]
abbrev s_is_tie : Stmt := top 12
abbrev N_is_tie : List Str := ["many", "tie", "one", "other", "least"]
abbrev s_check_tie : Stmt := top 13
abbrev N_check_tie : List Str := ["many", "tie"]
abbrev s_check_ties : Stmt := top 14
abbrev N_check_ties : List Str := ["many", "ties", "tie"]
abbrev s_day_of : Stmt := top 15
abbrev N_day_of : List Str := ["days", "one"]
abbrev s_is_kept : Stmt := top 16
abbrev N_is_kept : List Str := ["tie", "days", "one", "other", "least"]
abbrev s_way_fault : Stmt := top 18
abbrev N_way_fault : List Str := ["many", "ties", "days", "place", "day", "tie"]
abbrev s_lmix : Stmt := top 20
abbrev N_lmix : List Str := ["_law_seed", "_law_one", "_law_two"]
abbrev s_lraw : Stmt := top 21
abbrev N_lraw : List Str := ["_law_script", "_law_k", "_law_cell", "_law_found", "_law_turn"]
abbrev s_ldigits : Stmt := top 22
abbrev N_ldigits : List Str := ["_law_script", "_law_k", "_law_sizes", "_law_rest", "_law_found", "_law_size"]
abbrev s_lfar : Stmt := top 23
abbrev N_lfar : List Str := ["_law_number", "_law_way"]
abbrev s_lgreat : Stmt := top 24
abbrev N_lgreat : List Str := ["_law_script", "_law_k", "_law_most", "_law_many", "_law_count", "_law_near", "_law_bad", "_law_days", "_law_day", "_law_ties", "_law_turn", "_law_one", "_law_by", "_law_slack", "_law_kind", "_law_other", "_law_here", "_law_there"]
abbrev s_lkept : Stmt := top 26
abbrev N_lkept : List Str := ["_law_days", "_law_tie", "_law_one", "_law_other", "_law_least", "_law_here", "_law_there"]
abbrev s_lsame : Stmt := top 27
abbrev N_lsame : List Str := ["_law_told", "_law_due", "_law_one", "_law_other"]
abbrev s_lbent : Stmt := top 28
abbrev N_lbent : List Str := ["_law_script", "_law_k", "_law_days", "_law_way", "_law_at", "_law_day", "_law_far_here", "_law_side"]
abbrev s_law : Stmt := top 29
abbrev N_law : List Str := ["_law_script", "_law_k", "_law_many", "_law_ties", "_law_days", "_law_bad", "_law_turn", "_law_due", "_law_wrong", "_law_at", "_law_broken", "_law_handed"]
structure Txt (K : PySem.W.Frag) (mg : Str → Option Value) : Prop where
  n_all : mg "all" = none
  n_bool : mg "bool" = none
  n_enumerate : mg "enumerate" = none
  n_int : mg "int" = none
  n_isinstance : mg "isinstance" = none
  n_len : mg "len" = none
  n_list : mg "list" = none
  n_max : mg "max" = none
  n_range : mg "range" = none
  n_str : mg "str" = none
  n_tuple : mg "tuple" = none
  n_zip : mg "zip" = none
  c_BEGINNING : ∃ t, mg "BEGINNING" = some (.int (-1) t)
  c_LAST_DAY : ∃ t, mg "LAST_DAY" = some (.int (9999) t)
  c_MOST_LIVES : ∃ t, mg "MOST_LIVES" = some (.int (10) t)
  c_MOST_TIES : ∃ t, mg "MOST_TIES" = some (.int (80) t)

section
variable {P : Program} {w : World} {K : PySem.W.Frag} {mg : Str → Option Value} {base : Heap}
theorem sc_is_day : FnScope N_is_day ["number"] (defScope s_is_day) := ⟨rfl, rfl, rfl, by decide +kernel, rfl, by decide +kernel, by decide +kernel⟩
def sp_is_day : Sp := fun vs H Q _ => ∃ n : Int, vs = [.int n] ∧ Q (.bl (decide (0 ≤ n ∧ n ≤ 9999))) H
theorem ok_is_day {f : Addr} {fd : FuncData} (F : FnP K "is_day" s_is_day f fd) (T : Txt K mg) : FnOk P w K mg base CX0 1 f fd ["number"] (sp_is_day) := by
  refine F.ok sc_is_day (fun vs H Q E h => ?_) (fun cdv A outer s H vs Q E hr h => ?_)
  · obtain ⟨n, rfl, _⟩ := h
    rfl
  · obtain ⟨n, rfl, k⟩ := h
    refine ⟨_, PSs.nox (pss_one (ps_ret (pe_chain op_le op_le pe_int (pv 0) (pe_const T.c_LAST_DAY)))), ?_⟩
    refine ⟨_, rfl, _, _, rfl, rfl, _, rfl, ?_⟩
    refine ite2 (fun c1 => ?_) (fun c1 => ?_)
    · have c1 := of_decide_eq_true c1
      refine ⟨_, _, rfl, rfl, ?_⟩
      have e : decide (0 ≤ n ∧ n ≤ 9999) = decide (n ≤ 9999) := by simp [c1]
      rw [e] at k
      exact k
    · have e : decide (0 ≤ n ∧ n ≤ 9999) = false := decide_eq_false (fun z => c1 (decide_eq_true z.1))
      rw [e] at k
      exact k

theorem sc_is_one : FnScope N_is_one ["many", "one"] (defScope s_is_one) := ⟨rfl, rfl, rfl, by decide +kernel, rfl, by decide +kernel, by decide +kernel⟩
def sp_is_one : Sp := fun vs H Q _ => ∃ m n : Int, vs = [.int m, .int n] ∧ Q (.bl (decide (-1 ≤ n ∧ n < m))) H
theorem ok_is_one {f : Addr} {fd : FuncData} (F : FnP K "is_one" s_is_one f fd) (T : Txt K mg) : FnOk P w K mg base CX0 1 f fd ["many", "one"] (sp_is_one) := by
  refine F.ok sc_is_one (fun vs H Q E h => ?_) (fun cdv A outer s H vs Q E hr h => ?_)
  · obtain ⟨m, n, rfl, _⟩ := h
    rfl
  · obtain ⟨m, n, rfl, k⟩ := h
    refine ⟨_, PSs.nox (pss_one (ps_ret (pe_chain op_le op_lt (pe_const T.c_BEGINNING) (pv 1) (pv 0)))), ?_⟩
    refine ⟨_, rfl, _, _, rfl, rfl, _, rfl, ?_⟩
    refine ite2 (fun c1 => ?_) (fun c1 => ?_)
    · have c1 := of_decide_eq_true c1
      refine ⟨_, rfl, _, _, rfl, rfl, ?_⟩
      have e : decide (-1 ≤ n ∧ n < m) = decide (n < m) := by simp [c1]
      rw [e] at k
      exact k
    · have e : decide (-1 ≤ n ∧ n < m) = false := decide_eq_false (fun z => c1 (decide_eq_true z.1))
      rw [e] at k
      exact k

theorem sc_is_tie : FnScope N_is_tie ["many", "tie"] (defScope s_is_tie) := ⟨rfl, rfl, rfl, by decide +kernel, rfl, by decide +kernel, by decide +kernel⟩
def sp_is_tie (K : PySem.W.Frag) : Sp := fun vs H Q _ => ∃ (m : Int) (v : V) (t : Tie), vs = [.int m, v] ∧ TieAt H v t ∧ Q (.bl (decide (TieOk m t))) H
theorem ok_is_tie {f : Addr} {fd : FuncData} (F : FnP K "is_tie" s_is_tie f fd) (T : Txt K mg) (C_is_one : Own P w K mg base "is_one" ["many", "one"] 1 (sp_is_one)) : FnOk P w K mg base CX0 2 f fd ["many", "tie"] (sp_is_tie K) := by
  refine F.ok sc_is_tie (fun vs H Q E h => ?_) (fun cdv A outer s H vs Q E hr h => ?_)
  · obtain ⟨m, v, t, rfl, _⟩ := h
    rfl
  · obtain ⟨m, v, t, rfl, ⟨p, rfl, hp⟩, k⟩ := h
    refine ⟨_, PSs.nox (C8.pss_cut (ps_if (pt_cmpR op_ne (pe_callB (lenK K) (by rfl) T.n_len (by decide +kernel) (pa_cons (pv 1) pa_nil)) pe_int (nomark _)) (pss_one (ps_ret pe_bl)) pss_nil)
          (pss_cons (ps_asg (pv 1) (pgtK (n := 3) K rfl (pgs_cons (pg_name (i := 2) sc_is_tie.nd rfl (Or.inl rfl)) (pgs_cons (pg_name (i := 3) sc_is_tie.nd rfl (Or.inl rfl)) (pgs_cons (pg_name (i := 4) sc_is_tie.nd rfl (Or.inl rfl)) pgs_nil)))))
          (C8.pss_cut (ps_if (PW.pt (pw_or (pt_cmpR op_eq (pv 2) (pv 3) (nomark _)) (pw_or (pt_not (pt_val (pe_own C_is_one (hr.mono (by omega)) (pa_cons (pv 0) (pa_cons (pv 2) pa_nil))))) (pw_or1 (pt_not (pt_val (pe_own C_is_one (hr.mono (by omega)) (pa_cons (pv 0) (pa_cons (pv 3) pa_nil))))))))) (pss_one (ps_ret pe_bl)) pss_nil)
          (pss_one (ps_ret (pe_chain op_le op_le (pe_un un_neg (pe_const T.c_LAST_DAY)) (pv 4) (pe_const T.c_LAST_DAY))))))), ?_⟩
    refine ⟨fun σ H' => σ = [some (.int m), some (.ref p), none, none, none] ∧ H' = H, ?_, ?_⟩
    · refine ⟨_, rfl, _, _, rfl, .inr (SqT.of hp), rfl, _, rfl, ?_⟩
      exact iteNS rfl ⟨rfl, rfl⟩
    rintro σ H' ⟨rfl, rfl⟩
    refine ⟨_, rfl, p, _, rfl, SqT.of hp, rfl, _, _, rfl, _, _, rfl, _, _, rfl, rfl, ?_⟩
    have hno : ¬ TieOk m t → Q (.bl false) H' := fun z => by
      rw [decide_eq_false z] at k
      exact k
    refine ⟨fun σ H2 => σ = [some (.int m), some (.ref p), some (.int t.1), some (.int t.2.1), some (.int t.2.2)] ∧ H2 = H' ∧ -1 ≤ t.1 ∧ t.1 < m ∧ -1 ≤ t.2.1 ∧ t.2.1 < m ∧ t.1 ≠ t.2.1, ?_, ?_⟩
    · refine ⟨_, rfl, _, rfl, rfl, _, rfl, ?_⟩
      refine ite2 (fun c1 => ?_) (fun c1 => ?_)
      · have c1 : V.int t.1 = V.int t.2.1 := of_decide_eq_true c1
        exact hno fun z => z.2.2.2.2.1 (by injection c1)
      have n1 : t.1 ≠ t.2.1 := fun z => c1 (decide_eq_true (by rw [z]))
      refine ⟨_, rfl, _, rfl, _, _, rfl, _, rfl, ?_⟩
      refine ite2 (fun c2 => ?_) (fun c2 => ?_)
      · exact hno fun z => by
          rw [decide_eq_true (show -1 ≤ t.1 ∧ t.1 < m from ⟨z.1, z.2.1⟩)] at c2
          cases c2
      have n2 : -1 ≤ t.1 ∧ t.1 < m := by
        rcases Decidable.em (-1 ≤ t.1 ∧ t.1 < m) with z | z
        · exact z
        · rw [decide_eq_false z] at c2
          exact absurd rfl c2
      refine ⟨_, rfl, _, rfl, _, _, rfl, _, rfl, ?_⟩
      refine ite2 (fun c3 => ?_) (fun c3 => ?_)
      · exact hno fun z => by
          rw [decide_eq_true (show -1 ≤ t.2.1 ∧ t.2.1 < m from ⟨z.2.2.1, z.2.2.2.1⟩)] at c3
          cases c3
      have n3 : -1 ≤ t.2.1 ∧ t.2.1 < m := by
        rcases Decidable.em (-1 ≤ t.2.1 ∧ t.2.1 < m) with z | z
        · exact z
        · rw [decide_eq_false z] at c3
          exact absurd rfl c3
      exact ⟨rfl, rfl, n2.1, n2.2, n3.1, n3.2, n1⟩
    · rintro σ H2 ⟨rfl, rfl, n1, n2, n3, n4, n5⟩
      refine ⟨_, rfl, _, rfl, _, _, rfl, rfl, _, rfl, ?_⟩
      refine ite2 (fun c1 => ?_) (fun c1 => ?_)
      · have c1 : (-9999 : Int) ≤ t.2.2 := of_decide_eq_true c1
        refine ⟨_, _, rfl, rfl, ?_⟩
        have e : decide (TieOk m t) = decide (t.2.2 ≤ 9999) := by
          unfold TieOk
          simp [n1, n2, n3, n4, n5, c1]
        rw [e] at k
        exact k
      · exact hno fun z => c1 (decide_eq_true z.2.2.2.2.2.1)

theorem sc_check_tie : FnScope N_check_tie ["many", "tie"] (defScope s_check_tie) := ⟨rfl, rfl, rfl, by decide +kernel, rfl, by decide +kernel, by decide +kernel⟩
def sp_check_tie (K : PySem.W.Frag) : Sp := fun vs H Q _ => ∃ (m : Int) (v : V) (t : Tie), vs = [.int m, v] ∧ TieAt H v t ∧ TieOk m t ∧ Q .non H
theorem ok_check_tie {f : Addr} {fd : FuncData} (F : FnP K "check_tie" s_check_tie f fd) (T : Txt K mg) (C_is_tie : Own P w K mg base "is_tie" ["many", "tie"] 2 (sp_is_tie K)) : FnOk P w K mg base CX0 3 f fd ["many", "tie"] (sp_check_tie K) := by
  refine F.ok sc_check_tie (fun vs H Q E h => ?_) (fun cdv A outer s H vs Q E hr h => ?_)
  · obtain ⟨m, v, t, rfl, _⟩ := h
    rfl
  · obtain ⟨m, v, t, rfl, hp, ok, k⟩ := h
    refine ⟨_, PSs.nox (pss_one (ps_if (pt_not (pt_val (pe_own C_is_tie (hr.mono (by omega)) (pa_cons (pv 0) (pa_cons (pv 1) pa_nil))))) (pss_one ps_never) pss_nil)), ?_⟩
    refine ⟨_, rfl, _, rfl, m, v, t, rfl, hp, _, rfl, ?_⟩
    rw [decide_eq_true ok]
    exact k

theorem sc_check_ties : FnScope N_check_ties ["many", "ties"] (defScope s_check_ties) := ⟨rfl, rfl, rfl, by decide +kernel, rfl, by decide +kernel, by decide +kernel⟩
def sp_check_ties (K : PySem.W.Frag) : Sp := fun vs H Q _ => ∃ (m : Int) (a : Addr) (xs : List V) (ts : List Tie), vs = [.int m, .ref a] ∧ SqL K H a xs ∧ TiesAt H xs ts ∧ 1 ≤ m ∧ m ≤ 10 ∧ ts.length ≤ 80 ∧ (∀ t ∈ ts, TieOk m t) ∧ Q .non H
theorem ok_check_ties {f : Addr} {fd : FuncData} (F : FnP K "check_ties" s_check_ties f fd) (T : Txt K mg) (C_check_tie : Own P w K mg base "check_tie" ["many", "tie"] 3 (sp_check_tie K)) : FnOk P w K mg base CX0 4 f fd ["many", "ties"] (sp_check_ties K) := by
  refine F.ok sc_check_ties (fun vs H Q E h => ?_) (fun cdv A outer s H vs Q E hr h => ?_)
  · obtain ⟨m, a, xs, ts, rfl, _⟩ := h
    rfl
  · obtain ⟨m, a, xs, ts, rfl, hS, hT, h1, h2, h3, h4, k⟩ := h
    refine ⟨_, PSs.nox (C8.pss_cut (ps_if (pt_not (pt_chain op_le op_le pe_int (pv 0) (pe_const T.c_MOST_LIVES))) (pss_one ps_never) pss_nil)
          (C8.pss_cut (ps_if (pt_cmpR op_gt (pe_callB (lenK K) (by rfl) T.n_len (by decide +kernel) (pa_cons (pv 1) pa_nil)) (pe_const T.c_MOST_TIES) (nomark _)) (pss_one ps_never) pss_nil)
          (pss_one (ps_for PassesOwn.never rfl (pilK K (pv 1)) (pg_name (i := 2) sc_check_ties.nd rfl (Or.inl rfl))
            (pss_one (ps_expr (pe_own C_check_tie (hr.mono (by omega)) (pa_cons (pv 0) (pa_cons (pv 2) pa_nil))))))))), ?_⟩
    refine ⟨fun σ H' => σ = [some (.int m), some (.ref a), none] ∧ H' = H, ?_, ?_⟩
    · refine ⟨_, rfl, _, _, rfl, rfl, _, rfl, ?_⟩
      refine iteD h1 ?_
      refine ⟨_, _, rfl, rfl, _, rfl, ?_⟩
      rw [decide_eq_true h2]
      exact ⟨rfl, rfl⟩
    rintro σ H' ⟨rfl, rfl⟩
    refine ⟨fun σ H2 => σ = [some (.int m), some (.ref a), none] ∧ H2 = H', ?_, ?_⟩
    · refine ⟨_, rfl, _, _, rfl, .inl hS, _, _, rfl, rfl, _, rfl, ?_⟩
      refine iteDF ?_ ⟨rfl, rfl⟩
      have := hT.length
      omega
    rintro σ H2 ⟨rfl, rfl⟩
    refine ⟨_, rfl, a, rfl, ⟨_, hS⟩, for_list (K := K) (a := a) (xs := xs) (fun i σ H3 => ∃ v, σ = [some (.int m), some (.ref a), v] ∧ H3 = H2) ⟨none, rfl, rfl⟩ (fun i σ H3 _ ⟨_, _, e⟩ => by rw [e]; exact hS) ?_ ?_⟩
    · rintro i y σ H3 hi ⟨v, rfl, rfl⟩
      obtain ⟨t, ht, hy⟩ := hT.get hi
      refine ⟨_, rfl, _, rfl, m, y, t, rfl, hy, h4 t (List.mem_of_getElem? ht), ?_⟩
      exact ⟨_, rfl, rfl⟩
    · rintro σ H3 ⟨v, rfl, rfl⟩
      exact k

theorem sc_day_of : FnScope N_day_of ["days", "one"] (defScope s_day_of) := ⟨rfl, rfl, rfl, by decide +kernel, rfl, by decide +kernel, by decide +kernel⟩
def sp_day_of (K : PySem.W.Frag) : Sp := fun vs H Q _ => ∃ (a : Addr) (ds : List Int) (o : Int), vs = [.ref a, .int o] ∧ SqL K H a (ds.map V.int) ∧ -1 ≤ o ∧ o < ds.length ∧ Q (.int (dayOf ds o)) H
theorem ok_day_of {f : Addr} {fd : FuncData} (F : FnP K "day_of" s_day_of f fd) (T : Txt K mg) : FnOk P w K mg base CX0 1 f fd ["days", "one"] (sp_day_of K) := by
  refine F.ok sc_day_of (fun vs H Q E h => ?_) (fun cdv A outer s H vs Q E hr h => ?_)
  · obtain ⟨a, ds, o, rfl, _⟩ := h
    rfl
  · obtain ⟨a, ds, o, rfl, hS, h1, h2, k⟩ := h
    refine ⟨_, PSs.nox (C8.pss_cut (ps_if (pt_cmpR op_eq (pv 1) (pe_const T.c_BEGINNING) (nomark _)) (pss_one (ps_ret pe_int)) pss_nil)
          (pss_one (ps_ret (pe_ix (ixl K) (pv 0) (pv 1) (fun _ _ => rfl))))), ?_⟩
    refine ⟨fun σ H' => σ = [some (.ref a), some (.int o)] ∧ H' = H ∧ ¬ o < 0, ?_, ?_⟩
    · refine ⟨_, rfl, rfl, _, rfl, ?_⟩
      refine ite2 (fun c1 => ?_) (fun c1 => ⟨rfl, rfl, fun z => c1 (decide_eq_true ?_)⟩)
      · have c1 : V.int o = V.int (-1) := of_decide_eq_true c1
        have c2 : o = -1 := by injection c1
        rw [dayOf_neg (by omega)] at k
        exact k
      · have e : o = -1 := by omega
        rw [e]
    · rintro σ H' ⟨rfl, rfl, hn⟩
      exact ⟨_, rfl, _, rfl, a, _, _, _, rfl, rfl, hS, at_ints hn h2, k⟩

theorem sc_is_kept : FnScope N_is_kept ["tie", "days"] (defScope s_is_kept) := ⟨rfl, rfl, rfl, by decide +kernel, rfl, by decide +kernel, by decide +kernel⟩
def sp_is_kept (K : PySem.W.Frag) : Sp := fun vs H Q _ => ∃ (a : Addr) (v : V) (ds : List Int) (t : Tie), vs = [v, .ref a] ∧ SqL K H a (ds.map V.int) ∧ TieAt H v t ∧ -1 ≤ t.1 ∧ t.1 < ds.length ∧ -1 ≤ t.2.1 ∧ t.2.1 < ds.length ∧ Q (.bl (decide (KeptW ds t))) H
theorem ok_is_kept {f : Addr} {fd : FuncData} (F : FnP K "is_kept" s_is_kept f fd) (T : Txt K mg) (C_day_of : Own P w K mg base "day_of" ["days", "one"] 1 (sp_day_of K)) : FnOk P w K mg base CX0 2 f fd ["tie", "days"] (sp_is_kept K) := by
  refine F.ok sc_is_kept (fun vs H Q E h => ?_) (fun cdv A outer s H vs Q E hr h => ?_)
  · obtain ⟨a, v, ds, t, rfl, _⟩ := h
    rfl
  · obtain ⟨a, v, ds, t, rfl, hS, ⟨p, rfl, hp⟩, h1, h2, h3, h4, k⟩ := h
    refine ⟨_, PSs.nox (pss_cons (ps_asg (pv 0) (pgtK (n := 3) K rfl (pgs_cons (pg_name (i := 2) sc_is_kept.nd rfl (Or.inl rfl)) (pgs_cons (pg_name (i := 3) sc_is_kept.nd rfl (Or.inl rfl)) (pgs_cons (pg_name (i := 4) sc_is_kept.nd rfl (Or.inl rfl)) pgs_nil)))))
          (pss_one (ps_ret (pe_cmpR op_ge (pe_op op_sub (pe_own C_day_of (hr.mono (by omega)) (pa_cons (pv 1) (pa_cons (pv 2) pa_nil))) (pe_own C_day_of (hr.mono (by omega)) (pa_cons (pv 1) (pa_cons (pv 3) pa_nil)))) (pv 4) (nomark _))))), ?_⟩
    refine ⟨_, rfl, p, _, rfl, SqT.of hp, rfl, _, _, rfl, _, _, rfl, _, _, rfl, rfl, ?_⟩
    exact ⟨_, rfl, _, rfl, a, ds, _, rfl, hS, h1, h2, _, rfl, _, rfl, a, ds, _, rfl, hS, h3, h4, _, _, rfl, rfl, _, rfl, _, _, rfl, rfl, k⟩

theorem sc_way_fault : FnScope N_way_fault ["many", "ties", "days"] (defScope s_way_fault) := ⟨rfl, rfl, rfl, by decide +kernel, rfl, by decide +kernel, by decide +kernel⟩
def sp_way_fault (K : PySem.W.Frag) : Sp := fun vs H Q _ => ∃ (m : Int) (l d : Addr) (xs : List V) (ts : List Tie) (ds : List Int), vs = [.int m, .ref l, .ref d] ∧ SqL K H l xs ∧ TiesAt H xs ts ∧ SqL K H d (ds.map V.int) ∧ 1 ≤ m ∧ m ≤ 10 ∧ ts.length ≤ 80 ∧ (∀ t ∈ ts, TieOk m t) ∧
  ∀ (v : V) (H' : Hp), Same H H' → Dp K H' v (dueD (wfDue m ts ds)) → Q v H'
theorem ok_way_fault {f : Addr} {fd : FuncData} (F : FnP K "way_fault" s_way_fault f fd) (T : Txt K mg) (C_is_day : Own P w K mg base "is_day" ["number"] 1 (sp_is_day)) (C_check_ties : Own P w K mg base "check_ties" ["many", "ties"] 4 (sp_check_ties K)) (C_is_kept : Own P w K mg base "is_kept" ["tie", "days"] 2 (sp_is_kept K)) : FnOk P w K mg base CX0 5 f fd ["many", "ties", "days"] (sp_way_fault K) := by
  refine F.ok sc_way_fault (fun vs H Q E h => ?_) (fun cdv A outer s H vs Q E hr h => ?_)
  · obtain ⟨m, l, d, xs, ts, ds, rfl, _⟩ := h
    rfl
  · obtain ⟨m, l, d, xs, ts, ds, rfl, hL, hT, hD, m1, m10, hlen, hok, k⟩ := h
    refine ⟨_, PSs.nox (pss_cons (ps_expr (pe_own C_check_ties (hr.mono (by omega)) (pa_cons (pv 0) (pa_cons (pv 1) pa_nil))))
          (C8.pss_cut (ps_if (pt_cmpR op_ne (pe_callB (lenK K) (by rfl) T.n_len (by decide +kernel) (pa_cons (pv 2) pa_nil)) (pv 0) (nomark _)) (pss_one (ps_ret (pe_tup (pa_cons pe_str (pa_cons (pe_callB (lenK K) (by rfl) T.n_len (by decide +kernel) (pa_cons (pv 2) pa_nil)) pa_nil))))) pss_nil)
          (C8.pss_cut (ps_for PassesOwn.never rfl (pi_enum (by rfl) T.n_enumerate (pa_cons (pv 2) pa_nil)) (pgtK (n := 2) K rfl (pgs_cons (pg_name (i := 3) sc_way_fault.nd rfl (Or.inl rfl)) (pgs_cons (pg_name (i := 4) sc_way_fault.nd rfl (Or.inl rfl)) pgs_nil)))
            (pss_one (ps_if (pt_not (pt_val (pe_own C_is_day (hr.mono (by omega)) (pa_cons (pv 4) pa_nil)))) (pss_one (ps_ret (pe_tup (pa_cons pe_str (pa_cons (pv 3) pa_nil))))) pss_nil)))
          (C8.pss_cut (ps_for PassesOwn.never rfl (pi_enum (by rfl) T.n_enumerate (pa_cons (pv 1) pa_nil)) (pgtK (n := 2) K rfl (pgs_cons (pg_name (i := 3) sc_way_fault.nd rfl (Or.inl rfl)) (pgs_cons (pg_name (i := 5) sc_way_fault.nd rfl (Or.inl rfl)) pgs_nil)))
            (pss_one (ps_if (pt_not (pt_val (pe_own C_is_kept (hr.mono (by omega)) (pa_cons (pv 5) (pa_cons (pv 2) pa_nil))))) (pss_one (ps_ret (pe_tup (pa_cons pe_str (pa_cons (pv 3) pa_nil))))) pss_nil)))
          (pss_one (ps_ret pe_non)))))), ?_⟩
    refine ⟨_, rfl, _, rfl, m, l, xs, ts, rfl, hL, hT, m1, m10, hlen, hok, ?_⟩
    have lm : (ds.map V.int).length = ds.length := List.length_map ..
    refine ⟨fun σ H' => σ = [some (.int m), some (.ref l), some (.ref d), none, none, none] ∧ H' = H ∧ (ds.length : Int) = m, ?_, ?_⟩
    · refine ⟨_, rfl, _, _, rfl, .inl hD, _, rfl, rfl, _, rfl, ?_⟩
      refine ite2 (fun c1 => ?_) (fun c1 => ⟨rfl, rfl, ?_⟩)
      · have hne : (ds.length : Int) ≠ m := fun z => by
          rw [decide_eq_true (show V.int ((ds.map V.int).length : Int) = V.int m by rw [lm, z])] at c1
          cases c1
        refine ⟨_, rfl, _, _, rfl, .inl hD, (by show 2 ≤ sizeLine; decide), fun p hp => ?_⟩
        refine k _ _ (same_new hp) ?_
        unfold wfDue
        rw [if_pos hne, ← lm]
        exact dp_int_tup upd_same
      · rcases Decidable.em ((ds.length : Int) = m) with z | z
        · exact z
        · rw [decide_eq_false (fun q : V.int ((ds.map V.int).length : Int) = V.int m => z (by injection q with q; rw [← lm]; exact q))] at c1
          exact absurd rfl c1
    rintro σ H0 ⟨rfl, rfl, hm⟩
    refine ⟨fun σ H' => (∃ v3 v4 : Option V, σ = [some (.int m), some (.ref l), some (.ref d), v3, v4, none]) ∧ Same H0 H' ∧ ∀ j, j < ds.length → badDay ds j = false, ?_, ?_⟩
    · refine ⟨_, rfl, d, _, rfl, hD, ?_⟩
      refine for_it (walk_enum (K := K) (a := d) (xs := ds.map V.int)) (fun i σ H' => (∃ v3 v4 : Option V, σ = [some (.int m), some (.ref l), some (.ref d), v3, v4, none]) ∧ Same H0 H' ∧ ∀ j, j < i → badDay ds j = false)
        ⟨⟨none, none, rfl⟩, Same.refl _, fun j hj => absurd hj (Nat.not_lt_zero j)⟩ (fun i σ H' _ q => q.2.1.seq hD) ?_ ?_
      · rintro i x σ H1 H2 hi ⟨⟨v3, v4, rfl⟩, s1, hb⟩ ⟨T1, u1, u2, rfl, hT1, rfl, g1, g2⟩
        cases g1
        obtain ⟨z, hz, rfl⟩ := get_ints g2
        have s2 := s1.trans (same_new (o := .tup [V.int (i : Nat), .int z]) hT1)
        refine ⟨T1, _, rfl, SqT.of upd_same, rfl, _, _, rfl, _, _, rfl, rfl, ?_⟩
        refine ⟨_, rfl, z, rfl, _, rfl, ?_⟩
        have eb : badDay ds i = !decide (0 ≤ z ∧ z ≤ 9999) := by
          unfold badDay
          rw [getD_of hz]
        refine ite2 (fun c1 => ?_) (fun c1 => ?_)
        · rw [← eb] at c1
          refine ⟨_, rfl, (by show 2 ≤ sizeLine; decide), fun p hp => ?_⟩
          refine k _ _ (s2.trans (same_new hp)) ?_
          unfold wfDue
          rw [if_neg (by rw [hm]; exact fun z => z rfl), find_first (by rw [lm] at hi; exact hi) c1 hb]
          exact dp_int_tup upd_same
        · rw [← eb] at c1
          refine ⟨⟨_, _, rfl⟩, s2, fun j hj => ?_⟩
          rcases Nat.lt_or_ge j i with h1 | h1
          · exact hb j h1
          · have e : j = i := by omega
            rw [e]
            exact Bool.eq_false_iff.mpr c1
      · rintro σ H1 ⟨q1, s1, hb⟩
        rw [lm] at hb
        exact ⟨q1, s1, hb⟩
    rintro σ H1 ⟨⟨v3, v4, rfl⟩, s1, hb⟩
    have hL1 := s1.seq hL
    have hT1 := hT.mono s1
    have hD1 := s1.seq hD
    refine ⟨fun σ H' => Same H0 H' ∧ ∀ j, j < ts.length → badTie ts ds j = false, ?_, ?_⟩
    · refine ⟨_, rfl, l, _, rfl, hL1, ?_⟩
      refine for_it (walk_enum (K := K) (a := l) (xs := xs)) (fun i σ H' => (∃ v3 v4 v5 : Option V, σ = [some (.int m), some (.ref l), some (.ref d), v3, v4, v5]) ∧ Same H1 H' ∧ ∀ j, j < i → badTie ts ds j = false)
        ⟨⟨_, _, _, rfl⟩, Same.refl _, fun j hj => absurd hj (Nat.not_lt_zero j)⟩ (fun i σ H' _ q => q.2.1.seq hL1) ?_ ?_
      · rintro i x σ H2 H3 hi ⟨⟨v3, v4, v5, rfl⟩, s2, hb2⟩ ⟨T1, u1, u2, rfl, hT2, rfl, g1, g2⟩
        cases g1
        obtain ⟨t, ht, hu⟩ := hT1.get g2
        have s3 := s2.trans (same_new (o := .tup [V.int (i : Nat), u2]) hT2)
        have ok := hok t (List.mem_of_getElem? ht)
        refine ⟨T1, _, rfl, SqT.of upd_same, rfl, _, _, rfl, _, _, rfl, rfl, ?_⟩
        refine ⟨_, rfl, _, rfl, d, u2, ds, t, rfl, s3.seq hD1, hu.mono s3, ok.1, by rw [hm]; exact ok.2.1, ok.2.2.1, by rw [hm]; exact ok.2.2.2.1, _, rfl, ?_⟩
        have eb : badTie ts ds i = !decide (KeptW ds t) := by
          unfold badTie
          rw [getD_of ht]
        refine ite2 (fun c1 => ?_) (fun c1 => ?_)
        · rw [← eb] at c1
          refine ⟨_, rfl, (by show 2 ≤ sizeLine; decide), fun p hp => ?_⟩
          refine k _ _ ((s1.trans s3).trans (same_new hp)) ?_
          unfold wfDue
          rw [if_neg (by rw [hm]; exact fun z => z rfl), find_none hb, find_first (by rw [hT.length] at hi; exact hi) c1 hb2]
          exact dp_int_tup upd_same
        · rw [← eb] at c1
          refine ⟨⟨_, _, _, rfl⟩, s3, fun j hj => ?_⟩
          rcases Nat.lt_or_ge j i with h1 | h1
          · exact hb2 j h1
          · have e : j = i := by omega
            rw [e]
            exact Bool.eq_false_iff.mpr c1
      · rintro σ H2 ⟨q1, s2, hb2⟩
        rw [hT.length] at hb2
        exact ⟨s1.trans s2, hb2⟩
    rintro σ H2 ⟨s2, hb2⟩
    refine k _ _ s2 ?_
    unfold wfDue
    rw [if_neg (by rw [hm]; exact fun z => z rfl), find_none hb, find_none hb2]
    exact .non

theorem sc_lmix : FnScope N_lmix ["_law_seed"] (defScope s_lmix) := ⟨rfl, rfl, rfl, by decide +kernel, rfl, by decide +kernel, by decide +kernel⟩
def sp_lmix : Sp := fun vs H Q _ => ∃ n : Int, vs = [.int n] ∧ ∀ r : Int, 0 ≤ r → r < 2147483563 → Q (.int r) H
theorem ok_lmix {f : Addr} {fd : FuncData} (F : FnP K "_law_mix" s_lmix f fd) (T : Txt K mg) : FnOk P w K mg base CX0 1 f fd ["_law_seed"] (sp_lmix) := by
  refine F.ok sc_lmix (fun vs H Q E h => ?_) (fun cdv A outer s H vs Q E hr h => ?_)
  · obtain ⟨n, rfl, _⟩ := h
    rfl
  · obtain ⟨n, rfl, k⟩ := h
    refine ⟨_, PSs.nox (pss_cons (ps_set (i := 1) sc_lmix.nd rfl (Or.inl rfl) (pe_op op_mod (pe_op op_add (pe_op op_mul (pv 0) pe_int) pe_int) pe_int))
          (pss_cons (ps_set (i := 2) sc_lmix.nd rfl (Or.inl rfl) (pe_op op_mod (pe_op op_add (pe_op op_add (pe_op op_mul (pv 1) (pv 1)) (pe_op op_mul pe_int (pv 1))) (pv 0)) pe_int))
          (pss_one (ps_ret (pe_op op_mod (pe_op op_add (pe_op op_add (pe_op op_mul (pv 2) (pv 2)) (pe_op op_mul pe_int (pv 2))) (pv 1)) pe_int))))), ?_⟩
    refine ⟨_, rfl, _, _, rfl, rfl, mulR (by decide) (by decide), _, _, rfl, rfl, _, _, rfl, rfl, (by decide : (0 : Int) < 2147483647), ?_⟩
    have a1 := Int.emod_nonneg (n * 48271 + 11) (by decide : (2147483647 : Int) ≠ 0)
    have a2 := Int.emod_lt_of_pos (n * 48271 + 11) (by decide : (0 : Int) < 2147483647)
    generalize (n * 48271 + 11) % 2147483647 = a at *
    refine ⟨_, rfl, _, rfl, _, _, rfl, rfl, mulL (by omega) (by omega), _, rfl, _, _, rfl, rfl, mulR (by omega) (by omega), _, _, rfl, rfl, _, rfl, _, _, rfl, rfl, _, _, rfl, rfl, (by decide : (0 : Int) < 2147483399), ?_⟩
    have b1 := Int.emod_nonneg (a * a + 40692 * a + n) (by decide : (2147483399 : Int) ≠ 0)
    have b2 := Int.emod_lt_of_pos (a * a + 40692 * a + n) (by decide : (0 : Int) < 2147483399)
    generalize (a * a + 40692 * a + n) % 2147483399 = b at *
    refine ⟨_, rfl, _, rfl, _, _, rfl, rfl, mulL (by omega) (by omega), _, rfl, _, _, rfl, rfl, mulR (by omega) (by omega), _, _, rfl, rfl, _, rfl, _, _, rfl, rfl, _, _, rfl, rfl, (by decide : (0 : Int) < 2147483563), ?_⟩
    exact k _ (Int.emod_nonneg _ (by decide)) (Int.emod_lt_of_pos _ (by decide))

theorem sc_lraw : FnScope N_lraw ["_law_script", "_law_k"] (defScope s_lraw) := ⟨rfl, rfl, rfl, by decide +kernel, rfl, by decide +kernel, by decide +kernel⟩
def sp_lraw (K : PySem.W.Frag) : Sp := fun vs H Q _ => ∃ (a : Addr) (ns : List Int) (n : Int), vs = [.ref a, .int n] ∧ SqL K H a (ns.map V.int) ∧ ns.length ≤ 63 ∧ ∀ r : Int, Q (.int r) H
theorem ok_lraw {f : Addr} {fd : FuncData} (F : FnP K "_law_raw" s_lraw f fd) (T : Txt K mg) (C_lmix : Own P w K mg base "_law_mix" ["_law_seed"] 1 (sp_lmix)) : FnOk P w K mg base CX0 2 f fd ["_law_script", "_law_k"] (sp_lraw K) := by
  refine F.ok sc_lraw (fun vs H Q E h => ?_) (fun cdv A outer s H vs Q E hr h => ?_)
  · obtain ⟨a, ns, n, rfl, _⟩ := h
    rfl
  · obtain ⟨a, ns, n, rfl, hS, hlen, k⟩ := h
    refine ⟨_, PSs.nox (pss_cons (ps_set (i := 2) sc_lraw.nd rfl (Or.inl rfl) (pe_op op_add (pe_op op_mul pe_int (pv 1)) pe_int))
          (C8.pss_cut (ps_if (pt_cmpR op_gt (pe_callB (lenK K) (by rfl) T.n_len (by decide +kernel) (pa_cons (pv 0) pa_nil)) pe_int (nomark _)) (pss_one (ps_set (i := 2) sc_lraw.nd rfl (Or.inl rfl) (pe_op op_add (pe_ix (ixl K) (pv 0) (pe_op op_mod (pv 1) (pe_callB (lenK K) (by rfl) T.n_len (by decide +kernel) (pa_cons (pv 0) pa_nil))) (fun _ _ => rfl)) (pe_op op_mul pe_int (pe_op op_fdivW (pv 1) (pe_callB (lenK K) (by rfl) T.n_len (by decide +kernel) (pa_cons (pv 0) pa_nil))))))) pss_nil)
          (C8.pss_cut (ps_if (PW.pt (pw_and (pt_cmpR op_lt (pv 1) (pe_callB (lenK K) (by rfl) T.n_len (by decide +kernel) (pa_cons (pv 0) pa_nil)) (nomark _)) (pw_and1 (pt_cmpR op_ge (pv 2) (pe_op op_pow pe_int pe_int) (nomark _))))) (pss_one (ps_ret (pe_op op_sub (pv 2) (pe_op op_pow pe_int pe_int)))) pss_nil)
          (pss_cons (ps_set (i := 3) sc_lraw.nd rfl (Or.inl rfl) pe_int)
          (C8.pss_cut (ps_for PassesOwn.never rfl (pi_range1 (by rfl) T.n_range (pa_cons pe_int pa_nil)) (pg_name (i := 4) sc_lraw.nd rfl (Or.inl rfl))
            (pss_one (ps_set (i := 3) sc_lraw.nd rfl (Or.inl rfl) (pe_op op_add (pe_op op_mul (pv 3) pe_int) (pe_own C_lmix (hr.mono (by omega)) (pa_cons (pe_op op_add (pe_op op_add (pv 2) (pe_op op_mul pe_int (pv 1))) (pe_op op_mul pe_int (pv 4))) pa_nil))))))
          (pss_one (ps_ret (pv 3)))))))), ?_⟩
    have hlm : (ns.map V.int).length = ns.length := List.length_map ..
    refine ⟨_, rfl, _, _, rfl, rfl, mulL (by decide) (by decide), _, _, rfl, rfl, ?_⟩
    refine ⟨fun σ H' => H' = H ∧ ∃ c : Int, σ = [some (.ref a), some (.int n), some (.int c), none, none], ?_, ?_⟩
    · refine ⟨_, rfl, _, _, rfl, .inl hS, _, _, rfl, rfl, _, rfl, ?_⟩
      refine ite2 (fun c1 => ?_) (fun _ => ⟨rfl, _, rfl⟩)
      have hpos : (0 : Int) < ((ns.map V.int).length : Int) := of_decide_eq_true c1
      have hm1 := Int.emod_nonneg n (by omega : ((ns.map V.int).length : Int) ≠ 0)
      have hm2 := Int.emod_lt_of_pos n hpos
      obtain ⟨v, hv⟩ : ∃ v, ns[(n % ((ns.map V.int).length : Int)).toNat]? = some v := ⟨_, List.getElem?_eq_getElem (by omega)⟩
      refine ⟨_, rfl, _, rfl, _, rfl, _, _, rfl, .inl hS, _, _, rfl, rfl, hpos, _, _, _, _, rfl, rfl, hS, at_of (j := (n % ((ns.map V.int).length : Int)).toNat) (by omega) (by rw [List.getElem?_map, hv]; rfl), ?_⟩
      refine ⟨_, rfl, _, rfl, _, _, rfl, .inl hS, _, _, rfl, rfl, wide_div hpos (b := 10) (by omega) (by decide) (by decide), _, _, rfl, rfl, mulL (by decide) (by decide), _, _, rfl, rfl, ?_⟩
      exact ⟨rfl, _, rfl⟩
    · rintro σ H' ⟨rfl, c, rfl⟩
      refine ⟨fun σ H2 => H2 = H' ∧ σ = [some (.ref a), some (.int n), some (.int c), none, none], ?_, ?_⟩
      · refine ⟨_, rfl, _, rfl, _, _, rfl, .inl hS, _, _, rfl, rfl, _, rfl, ?_⟩
        refine ite2 (fun _ => ?_) (fun _ => iteF ⟨rfl, rfl⟩)
        refine ⟨_, rfl, _, _, rfl, rfl, ⟨by decide, by decide, by decide⟩, _, _, rfl, rfl, _, rfl, ?_⟩
        refine ite2 (fun _ => ?_) (fun _ => ⟨rfl, rfl⟩)
        refine ⟨_, rfl, _, _, rfl, rfl, ⟨by decide, by decide, by decide⟩, _, _, rfl, rfl, k _⟩
      · rintro σ H2 ⟨rfl, rfl⟩
        refine ⟨fun σ H3 => H3 = H2 ∧ ∃ (r : Int) (v : Option V), σ = [some (.ref a), some (.int n), some (.int c), some (.int r), v], ?_, ?_⟩
        · refine ⟨40, rfl, by decide, by decide, for_range (lo := 0) (n := 40) (fun i σ H3 => H3 = H2 ∧ ∃ (r : Int) (v : Option V), σ = [some (.ref a), some (.int n), some (.int c), some (.int r), v]) ⟨rfl, 0, none, rfl⟩ ?_ ?_⟩
          · rintro i σ H3 hi ⟨rfl, r, v, rfl⟩
            refine ⟨_, rfl, _, _, rfl, rfl, mulR (by decide) (by decide), _, rfl, _, rfl, _, _, rfl, rfl, mulL (by decide) (by decide), _, _, rfl, rfl, _, rfl, _, _, rfl, rfl, mulL (by decide) (by decide), _, _, rfl, rfl, _, rfl, fun m _ _ => ?_⟩
            exact ⟨_, _, rfl, rfl, rfl, _, _, rfl⟩
          · rintro σ H3 ⟨rfl, r, v, rfl⟩
            exact ⟨rfl, r, v, rfl⟩
        · rintro σ H3 ⟨rfl, r, v, rfl⟩
          exact ⟨_, rfl, k r⟩

theorem sc_ldigits : FnScope N_ldigits ["_law_script", "_law_k", "_law_sizes"] (defScope s_ldigits) := ⟨rfl, rfl, rfl, by decide +kernel, rfl, by decide +kernel, by decide +kernel⟩
/-- the sizes and the digits drawn by them -/
def DigOk : List Int → List Int → Prop
  | [], [] => True
  | s :: ss, d :: ds => 0 ≤ d ∧ d < s ∧ DigOk ss ds
  | _, _ => False
theorem DigOk.length : ∀ {ss ds : List Int}, DigOk ss ds → ds.length = ss.length
  | [], [], _ => rfl
  | _ :: ss, _ :: ds, h => by
    have := DigOk.length h.2.2
    simp [this]
theorem DigOk.snoc : ∀ {ss ds : List Int} {s d : Int}, DigOk ss ds → 0 ≤ d → d < s → DigOk (ss ++ [s]) (ds ++ [d])
  | [], [], _, _, _, h1, h2 => ⟨h1, h2, trivial⟩
  | _ :: ss, _ :: ds, _, _, h, h1, h2 => ⟨h.1, h.2.1, DigOk.snoc h.2.2 h1 h2⟩
theorem DigOk.inv {s : Int} {ss ds : List Int} (h : DigOk (s :: ss) ds) : ∃ d r, ds = d :: r ∧ 0 ≤ d ∧ d < s ∧ DigOk ss r := by
  cases ds with
  | nil => exact h.elim
  | cons d r => exact ⟨d, r, rfl, h.1, h.2.1, h.2.2⟩
theorem DigOk.inv0 {ds : List Int} (h : DigOk [] ds) : ds = [] := by
  cases ds with
  | nil => rfl
  | cons d r => exact h.elim
theorem DigOk.rep : ∀ {n : Nat} {s : Int} {ds : List Int}, DigOk (List.replicate n s) ds → ds.length = n ∧ ∀ x ∈ ds, 0 ≤ x ∧ x < s
  | 0, s, ds, h => by
    rw [DigOk.inv0 h]
    exact ⟨rfl, fun x hx => by cases hx⟩
  | n + 1, s, ds, h => by
    obtain ⟨d, r, rfl, h1, h2, h3⟩ := DigOk.inv h
    obtain ⟨h4, h5⟩ := DigOk.rep h3
    refine ⟨by simp [h4], fun x hx => ?_⟩
    cases hx with
    | head => exact ⟨h1, h2⟩
    | tail _ hx => exact h5 x hx
def sp_ldigits (K : PySem.W.Frag) : Sp := fun vs H Q _ => ∃ (a b : Addr) (ns ss : List Int) (n : Int), vs = [.ref a, .int n, .ref b] ∧ SqL K H a (ns.map V.int) ∧ ns.length ≤ 63 ∧ SqL K H b (ss.map V.int) ∧ ss.length ≤ 1000 ∧ (∀ s ∈ ss, 0 < s ∧ s ≤ 10 ^ 29) ∧
  ∀ (p : Addr) (ds : List Int) (H' : Hp), H p = none → Same H H' → H' p = some (.lst (ds.map V.int)) → DigOk ss ds → Q (.ref p) H'
theorem ok_ldigits {f : Addr} {fd : FuncData} (F : FnP K "_law_digits" s_ldigits f fd) (T : Txt K mg) (C_lraw : Own P w K mg base "_law_raw" ["_law_script", "_law_k"] 2 (sp_lraw K)) : FnOk P w K mg base CX0 3 f fd ["_law_script", "_law_k", "_law_sizes"] (sp_ldigits K) := by
  refine F.ok sc_ldigits (fun vs H Q E h => ?_) (fun cdv A outer s H vs Q E hr h => ?_)
  · obtain ⟨a, b, ns, ss, n, rfl, _⟩ := h
    rfl
  · obtain ⟨a, b, ns, ss, n, rfl, hS, hlen, hB, hbl, hpos, k⟩ := h
    refine ⟨_, PSs.nox (pss_cons (ps_set (i := 3) sc_ldigits.nd rfl (Or.inl rfl) (pe_own C_lraw (hr.mono (by omega)) (pa_cons (pv 0) (pa_cons (pv 1) pa_nil))))
          (pss_cons (ps_set (i := 4) sc_ldigits.nd rfl (Or.inl rfl) (pe_lst pa_nil))
          (C8.pss_cut (ps_for PassesOwn.never rfl (pilK K (pv 2)) (pg_name (i := 5) sc_ldigits.nd rfl (Or.inl rfl))
            (pss_cons (ps_expr (pe_bm PySem.F.plainAttrs_list PySem.F.slot_list_append PySem.F.type_list_append mt_append (pv 4) (pa_cons (pe_op op_mod (pv 3) (pv 5)) pa_nil)))
              (pss_one (ps_set (i := 3) sc_ldigits.nd rfl (Or.inl rfl) (pe_op op_fdivW (pv 3) (pv 5))))))
          (pss_one (ps_ret (pv 4)))))), ?_⟩
    refine ⟨_, rfl, _, rfl, a, ns, n, rfl, hS, hlen, fun r => ?_⟩
    refine ⟨Nat.zero_le _, fun p hp => ?_⟩
    refine ⟨fun σ H' => ∃ (ds : List Int), σ[4]? = some (some (.ref p)) ∧ Same H H' ∧ H' p = some (.lst (ds.map V.int)) ∧ DigOk ss ds, ?_, ?_⟩
    · refine ⟨_, rfl, b, rfl, ⟨_, (same_new hp).seq hB⟩, for_list (K := K) (a := b) (xs := ss.map V.int) (fun i σ H' => ∃ (r : Int) (ds : List Int) (v : Option V), σ = [some (.ref a), some (.int n), some (.ref b), some (.int r), some (.ref p), v] ∧ Same H H' ∧ H' p = some (.lst (ds.map V.int)) ∧ DigOk (ss.take i) ds)
        ⟨r, [], none, rfl, same_new hp, upd_same, trivial⟩ (fun i σ H' _ ⟨_, _, _, _, s1, _⟩ => s1.seq hB) ?_ ?_⟩
      · rintro i y σ H' hi ⟨r, ds, v, rfl, s1, hq, hd⟩
        obtain ⟨z, hz, rfl⟩ := get_ints hi
        have hzz := hpos z (List.mem_of_getElem? hz)
        have hdl := hd.length
        rw [List.length_take] at hdl
        refine ⟨_, rfl, .inl ⟨rfl, _, SqL.of hq⟩, _, rfl, _, rfl, _, _, rfl, rfl, hzz.1, p, _, _, rfl, rfl, hq, sz_lt (by rw [List.length_map]; omega), ?_⟩
        refine ⟨_, rfl, _, rfl, _, _, rfl, rfl, wide_div hzz.1 (b := 100) (by omega) (by decide) (by decide), ?_⟩
        refine ⟨_, ds ++ [r % z], _, rfl, same_mut s1 hp, ?_, ?_⟩
        · rw [upd_same, List.map_append]
          rfl
        · rw [List.take_succ, hz]
          exact hd.snoc (Int.emod_nonneg _ (by omega)) (Int.emod_lt_of_pos _ hzz.1)
      · rintro σ H' ⟨r, ds, v, rfl, s1, hq, hd⟩
        rw [List.length_map, List.take_length] at hd
        exact ⟨ds, rfl, s1, hq, hd⟩
    · rintro σ H' ⟨ds, e4, s1, hq, hd⟩
      exact ⟨_, e4, k p ds H' hp s1 hq hd⟩

theorem sc_lfar : FnScope N_lfar ["_law_number", "_law_way"] (defScope s_lfar) := ⟨rfl, rfl, rfl, by decide +kernel, rfl, by decide +kernel, by decide +kernel⟩
def sp_lfar : Sp := fun vs H Q _ => ∃ n m : Int, vs = [.int n, .int m] ∧ ∀ (r : Int) (H' : Hp), Same H H' → Q (.int r) H'
theorem ok_lfar {f : Addr} {fd : FuncData} (F : FnP K "_law_far" s_lfar f fd) (T : Txt K mg) : FnOk P w K mg base CX0 1 f fd ["_law_number", "_law_way"] (sp_lfar) := by
  refine F.ok sc_lfar (fun vs H Q E h => ?_) (fun cdv A outer s H vs Q E hr h => ?_)
  · obtain ⟨n, m, rfl, _⟩ := h
    rfl
  · obtain ⟨n, m, rfl, k⟩ := h
    refine ⟨_, PSs.nox (pss_one (ps_ret (pe_ix (ixl K) (pe_lst (pa_cons (pv 0) (pa_cons (pe_op op_sub (pe_op op_sub pe_int pe_int) (pv 0)) (pa_cons (pe_op op_sub (pe_op op_pow pe_int pe_int) (pv 0)) (pa_cons (pe_op op_sub (pv 0) (pe_op op_pow pe_int pe_int)) pa_nil))))) (pe_op op_mod (pv 1) pe_int) (fun _ _ => rfl)))), ?_⟩
    refine ⟨_, rfl, _, _, rfl, rfl, _, rfl, _, _, rfl, rfl, _, _, rfl, rfl, ⟨by decide, by decide, by decide⟩, _, rfl, _, _, rfl, rfl, _, rfl, _, _, rfl, rfl, ⟨by decide, by decide, by decide⟩, _, _, rfl, rfl, (by show 4 ≤ sizeLine; decide), fun p hp => ?_⟩
    refine ⟨_, rfl, _, _, rfl, rfl, (by decide : (0 : Int) < 4), ?_⟩
    have a1 := Int.emod_nonneg m (by decide : (4 : Int) ≠ 0)
    have a2 := Int.emod_lt_of_pos m (by decide : (0 : Int) < 4)
    obtain ⟨j, hj, e⟩ : ∃ j : Nat, j < 4 ∧ m % 4 = (j : Int) := ⟨(m % 4).toNat, by omega, by omega⟩
    show rIxL K (V.ref p) (V.int (m % 4)) _ _
    rw [e]
    match j, hj with
    | 0, _ => exact ⟨p, _, _, _, rfl, rfl, SqL.of upd_same, rfl, k _ _ (same_new hp)⟩
    | 1, _ => exact ⟨p, _, _, _, rfl, rfl, SqL.of upd_same, rfl, k _ _ (same_new hp)⟩
    | 2, _ => exact ⟨p, _, _, _, rfl, rfl, SqL.of upd_same, rfl, k _ _ (same_new hp)⟩
    | 3, _ => exact ⟨p, _, _, _, rfl, rfl, SqL.of upd_same, rfl, k _ _ (same_new hp)⟩

theorem sc_lgreat : FnScope N_lgreat ["_law_script", "_law_k", "_law_most"] (defScope s_lgreat) := ⟨rfl, rfl, rfl, by decide +kernel, rfl, by decide +kernel, by decide +kernel⟩
def sp_lgreat (K : PySem.W.Frag) : Sp := fun vs H Q _ => ∃ (a : Addr) (ns : List Int) (n most : Int), vs = [.ref a, .int n, .int most] ∧ SqL K H a (ns.map V.int) ∧ ns.length ≤ 63 ∧ 0 ≤ most ∧ most ≤ 1000 ∧
  ∀ (p l d : Addr) (xs : List V) (ts : List Tie) (ds : List Int) (m bad : Int) (H' : Hp), GreatAt H H' p l d xs ts ds m bad most → Q (.ref p) H'
theorem ok_lgreat {f : Addr} {fd : FuncData} (F : FnP K "_law_great" s_lgreat f fd) (T : Txt K mg) (C_ldigits : Own P w K mg base "_law_digits" ["_law_script", "_law_k", "_law_sizes"] 3 (sp_ldigits K)) : FnOk P w K mg base CX0 4 f fd ["_law_script", "_law_k", "_law_most"] (sp_lgreat K) := by
  refine F.ok sc_lgreat (fun vs H Q E h => ?_) (fun cdv A outer s H vs Q E hr h => ?_)
  · obtain ⟨a, ns, n, most, rfl, _⟩ := h
    rfl
  · obtain ⟨a, ns, n, most, rfl, hS, hlen, hm0, hm1, k⟩ := h
    refine ⟨_, PSs.nox (pss_cons (ps_asg (pe_own C_ldigits (hr.mono (by omega)) (pa_cons (pv 0) (pa_cons (pv 1) (pa_cons (pe_lst (pa_cons pe_int (pa_cons (pe_op op_add (pv 2) pe_int) (pa_cons pe_int (pa_cons pe_int pa_nil))))) pa_nil)))) (pguK (n := 4) K rfl (pgs_cons (pg_name (i := 3) sc_lgreat.nd rfl (Or.inl rfl)) (pgs_cons (pg_name (i := 4) sc_lgreat.nd rfl (Or.inl rfl)) (pgs_cons (pg_name (i := 5) sc_lgreat.nd rfl (Or.inl rfl)) (pgs_cons (pg_name (i := 6) sc_lgreat.nd rfl (Or.inl rfl)) pgs_nil))))))
          (pss_cons (ps_set (i := 3) sc_lgreat.nd rfl (Or.inl rfl) (pe_op op_add pe_int (pv 3)))
          (pss_cons (ps_set (i := 7) sc_lgreat.nd rfl (Or.inl rfl) (pe_own C_ldigits (hr.mono (by omega)) (pa_cons (pv 0) (pa_cons (pe_op op_add (pv 1) pe_int) (pa_cons (pe_op op_rep (pe_lst (pa_cons pe_int pa_nil)) (pv 3)) pa_nil)))))
          (C8.pss_cut (ps_if (pt_cmpR op_eq (pv 5) pe_int (nomark _)) (pss_one (ps_setLc (i := 7) (own := [("_law_day", 8)]) rfl sc_lgreat.nd rfl rfl (sw_true rfl rfl rfl (by decide +kernel)) (pilK K (pv 7)) (blkOk_by (own := [("_law_day", 8)]) (N := N_lgreat) (sc := defScope s_lgreat) (by decide +kernel)) (fun _ _ _ _ _ => by exact (pg_name (i := 8) sc_lgreat.nd rfl (Or.inl rfl))) (fun _ _ _ _ _ => by exact pts_nil) (fun _ _ _ _ _ => by exact (pe_op op_add pe_int (pe_op op_mod (pv 8) pe_int))))) pss_nil)
          (pss_cons (ps_set (i := 9) sc_lgreat.nd rfl (Or.inl rfl) (pe_lst pa_nil))
          (C8.pss_cut (ps_for PassesOwn.never rfl (pi_range1 (by rfl) T.n_range (pa_cons (pv 4) pa_nil)) (pg_name (i := 10) sc_lgreat.nd rfl (Or.inl rfl))
            (pss_cons (ps_asg (pe_own C_ldigits (hr.mono (by omega)) (pa_cons (pv 0) (pa_cons (pe_op op_add (pe_op op_add (pv 1) pe_int) (pv 10)) (pa_cons (pe_lst (pa_cons (pe_op op_add (pv 3) pe_int) (pa_cons (pv 3) (pa_cons pe_int (pa_cons pe_int pa_nil))))) pa_nil)))) (pguK (n := 4) K rfl (pgs_cons (pg_name (i := 11) sc_lgreat.nd rfl (Or.inl rfl)) (pgs_cons (pg_name (i := 12) sc_lgreat.nd rfl (Or.inl rfl)) (pgs_cons (pg_name (i := 13) sc_lgreat.nd rfl (Or.inl rfl)) (pgs_cons (pg_name (i := 14) sc_lgreat.nd rfl (Or.inl rfl)) pgs_nil))))))
              (pss_cons (ps_set (i := 15) sc_lgreat.nd rfl (Or.inl rfl) (pe_op op_sub (pe_op op_mod (pe_op op_add (pe_op op_add (pv 11) pe_int) (pv 12)) (pe_op op_add (pv 3) pe_int)) pe_int))
              (pss_cons (ps_set (i := 13) sc_lgreat.nd rfl (Or.inl rfl) (pe_ix (ixl K) (pe_lst (pa_cons pe_int (pa_cons (pe_op op_mod (pv 13) pe_int) (pa_cons (pe_op op_mod (pv 13) pe_int) (pa_cons (pv 13) pa_nil))))) (pv 14) (fun _ _ => rfl)))
              (pss_cons (ps_set (i := 16) sc_lgreat.nd rfl (Or.inl rfl) (pe_ifExp (pt_cmpR op_eq (pv 11) pe_int (nomark _)) pe_int (pe_ix (ixl K) (pv 7) (pe_op op_sub (pv 11) pe_int) (fun _ _ => rfl))))
              (pss_cons (ps_set (i := 17) sc_lgreat.nd rfl (Or.inl rfl) (pe_ifExp (pt_cmpR op_lt (pv 15) pe_int (nomark _)) pe_int (pe_ix (ixl K) (pv 7) (pv 15) (fun _ _ => rfl))))
              (pss_one (ps_expr (pe_bm PySem.F.plainAttrs_list PySem.F.slot_list_append PySem.F.type_list_append mt_append (pv 9) (pa_cons (pe_tup (pa_cons (pe_op op_sub (pv 11) pe_int) (pa_cons (pv 15) (pa_cons (pe_callB (call_max2 rfl) (by rfl) T.n_max (by decide +kernel) (pa_cons (pe_un un_neg pe_int) (pa_cons (pe_op op_sub (pe_op op_sub (pv 16) (pv 17)) (pv 13)) pa_nil))) pa_nil)))) pa_nil))))))))))
          (pss_one (ps_ret (pe_tup (pa_cons (pv 3) (pa_cons (pv 9) (pa_cons (pv 7) (pa_cons (pv 6) pa_nil))))))))))))), ?_⟩
    refine ⟨_, rfl, _, rfl, _, rfl, _, _, rfl, rfl, (by show 4 ≤ sizeLine; decide), fun p0 hp0 => ?_⟩
    have s0 : Same H (upd H p0 (.lst [.int 10, .int (most + 1), .int 3, .int 4])) := same_new hp0
    refine ⟨a, p0, ns, [10, most + 1, 3, 4], n, rfl, s0.seq hS, hlen, SqL.of upd_same, (by show 4 ≤ 1000; decide), ?_, fun q0 es H1 nq0 s1 hq0 dig => ?_⟩
    · intro s hs
      simp only [List.mem_cons, List.not_mem_nil, or_false] at hs
      rcases hs with rfl | rfl | rfl | rfl <;> omega
    obtain ⟨d0, _, rfl, a0, b0, dig⟩ := dig.inv
    obtain ⟨cnt, _, rfl, a1, b1, dig⟩ := dig.inv
    obtain ⟨near, _, rfl, a2, b2, dig⟩ := dig.inv
    obtain ⟨bad, _, rfl, a3, b3, dig⟩ := dig.inv
    have e := dig.inv0
    subst e
    refine ⟨q0, _, rfl, SqL.of hq0, rfl, _, _, rfl, _, _, rfl, _, _, rfl, _, _, rfl, rfl, ?_⟩
    have s01 := s0.trans s1
    -- many = 1 + many; days
    refine ⟨_, rfl, _, _, rfl, rfl, ?_⟩
    refine ⟨_, rfl, _, rfl, _, _, rfl, rfl, (by show 1 ≤ sizeLine; decide), fun p2 hp2 => ?_⟩
    refine ⟨_, rfl, p2, _, _, rfl, rfl, upd_same, by omega, by omega, sz_of (by simp; omega), fun p3 hp3 => ?_⟩
    have s2 : Same H1 (upd (upd H1 p2 (.lst [.int 10000])) p3 (.lst (List.replicate (1 + d0).toNat [V.int 10000]).flatten)) := (same_new hp2).trans (same_new hp3)
    refine ⟨a, p3, ns, List.replicate (1 + d0).toNat 10000, _, rfl, (s01.trans s2).seq hS, hlen, SqL.of ?_, by rw [List.length_replicate]; omega, ?_, fun d1 ds1 H2 nd1 s3 hd1 dg1 => ?_⟩
    · rw [upd_same, flat_one, List.map_replicate]
    · intro s hs
      rw [List.eq_of_mem_replicate hs]
      omega
    obtain ⟨dl1, dr1⟩ := dg1.rep
    have s02 : Same H H2 := (s01.trans s2).trans s3
    refine ⟨fun σ H3 => ∃ (d : Addr) (ds : List Int), σ = [some (.ref a), some (.int n), some (.int most), some (.int (1 + d0)), some (.int cnt), some (.int near), some (.int bad), some (.ref d), none, none, none, none, none, none, none, none, none, none] ∧ Same H H3 ∧ H d = none ∧ H3 d = some (.lst (ds.map V.int)) ∧ ds.length = (1 + d0).toNat ∧ ∀ x ∈ ds, 0 ≤ x ∧ x ≤ 9999, ?_, ?_⟩
    · refine ⟨_, rfl, rfl, _, rfl, ?_⟩
      refine ite2 (fun _ => ?_) (fun _ => ⟨d1, ds1, rfl, s02, (s01.trans s2).free nd1, hd1, dl1, fun x hx => by have := dr1 x hx; omega⟩)
      refine ⟨_, rfl, d1, rfl, ⟨_, SqL.of hd1⟩, fun D hD => ?_⟩
      refine lc_list (K := K) (a := d1) (xs := ds1.map V.int) (fun i H3 => Same H2 H3 ∧ ∃ ds : List Int, H3 D = some (.lst (ds.map V.int)) ∧ ds.length = i ∧ ∀ x ∈ ds, 0 ≤ x ∧ x ≤ 9999)
        ⟨same_new hD, [], upd_same, rfl, fun x hx => by cases hx⟩ (fun i H3 _ ⟨s4, _⟩ => s4.seq (SqL.of hd1)) ?_ ?_
      · rintro i y H3 hi ⟨s4, ds, hq, hl, hr'⟩
        obtain ⟨z, hz, rfl⟩ := get_ints hi
        have z1 := Int.emod_nonneg z (by decide : (20 : Int) ≠ 0)
        have z2 := Int.emod_lt_of_pos z (by decide : (0 : Int) < 20)
        have hil : i < ds1.length := (List.getElem?_eq_some_iff.mp hz).1
        refine ⟨rfl, ?_⟩
        refine ⟨_, rfl, _, _, rfl, rfl, (by decide : (0 : Int) < 20), _, _, rfl, rfl, _, hq, sz_lt (by rw [List.length_map]; omega), same_mut s4 hD, ds ++ [4990 + z % 20], ?_, by simp [hl], ?_⟩
        · rw [upd_same, List.map_append]
          rfl
        · intro x hx
          rcases List.mem_append.mp hx with hx | hx
          · exact hr' x hx
          · rw [List.mem_singleton.mp hx]
            omega
      · rintro H3 ⟨s4, ds, hq, hl, hr'⟩
        exact ⟨D, ds, rfl, s02.trans s4, s02.free hD, hq, by rw [hl, List.length_map, dl1], hr'⟩
    rintro σ H3 ⟨d, ds, rfl, s03, nd, hd, dl, dr⟩
    -- ties = []
    refine ⟨Nat.zero_le _, fun l hl => ?_⟩
    have ndl : d ≠ l := ne_of_none hd hl
    have hdl : (ds.length : Int) = 1 + d0 := by omega
    refine ⟨fun σ H4 => ∃ (xs : List V) (ts : List Tie), σ[3]? = some (some (.int (1 + d0))) ∧ σ[9]? = some (some (.ref l)) ∧ σ[7]? = some (some (.ref d)) ∧ σ[6]? = some (some (.int bad)) ∧ Same H H4 ∧ H4 d = some (.lst (ds.map V.int)) ∧ H4 l = some (.lst xs) ∧ TiesAt H4 xs ts ∧
      (ts.length : Int) ≤ most ∧ (∀ t ∈ ts, TieOk (1 + d0) t) ∧ (∀ t ∈ ts, KeptW ds t), ?_, ?_⟩
    · refine ⟨_, rfl, cnt, rfl, by omega, by omega, for_range (lo := 0) (n := cnt.toNat) (fun i σ H4 => ∃ (xs : List V) (ts : List Tie) (v0 v1 v2 v3 v4 v5 v6 v7 : Option V), σ = [some (.ref a), some (.int n), some (.int most), some (.int (1 + d0)), some (.int cnt), some (.int near), some (.int bad), some (.ref d), none, some (.ref l), v0, v1, v2, v3, v4, v5, v6, v7] ∧
          Same H H4 ∧ H4 d = some (.lst (ds.map V.int)) ∧ H4 l = some (.lst xs) ∧ TiesAt H4 xs ts ∧ ts.length = i ∧ (∀ t ∈ ts, TieOk (1 + d0) t) ∧ (∀ t ∈ ts, KeptW ds t))
        ⟨[], [], none, none, none, none, none, none, none, none, rfl, s03.trans (same_new hl), by rw [upd_ne ndl]; exact hd, upd_same, trivial, rfl, (fun t ht => absurd ht List.not_mem_nil), (fun t ht => absurd ht List.not_mem_nil)⟩ ?_ ?_⟩
      · rintro i σ H4 hi ⟨xs, ts, v0, v1, v2, v3, v4, v5, v6, v7, rfl, s04, hd4, hl4, hts, htl, hok, hkp⟩
        refine ⟨_, rfl, _, rfl, _, _, rfl, rfl, _, rfl, _, _, rfl, rfl, _, rfl, _, _, rfl, rfl, _, rfl, (by show 4 ≤ sizeLine; decide), fun p5 hp5 => ?_⟩
        have s5 := same_new (o := .lst [V.int (1 + d0 + 1), .int (1 + d0), .int 10000, .int 4]) hp5
        refine ⟨a, p5, ns, [1 + d0 + 1, 1 + d0, 10000, 4], _, rfl, (s04.trans s5).seq hS, hlen, SqL.of upd_same, (by show 4 ≤ 1000; decide), ?_, fun q5 es5 H5 nq5 s6 hq5 dig => ?_⟩
        · intro s hs
          simp only [List.mem_cons, List.not_mem_nil, or_false] at hs
          rcases hs with rfl | rfl | rfl | rfl <;> omega
        obtain ⟨one, _, rfl, c0, c1, dig⟩ := dig.inv
        obtain ⟨by', _, rfl, c2, c3, dig⟩ := dig.inv
        obtain ⟨slack, _, rfl, c4, c5, dig⟩ := dig.inv
        obtain ⟨kind, _, rfl, c6, c7, dig⟩ := dig.inv
        have e := dig.inv0
        subst e
        have s56 := s5.trans s6
        refine ⟨q5, _, rfl, SqL.of hq5, rfl, _, _, rfl, _, _, rfl, _, _, rfl, _, _, rfl, rfl, ?_⟩
        -- other
        refine ⟨_, rfl, _, _, rfl, rfl, _, rfl, _, _, rfl, rfl, _, rfl, _, _, rfl, rfl, _, _, rfl, rfl, (by show (0 : Int) < 1 + d0 + 1; omega), _, _, rfl, rfl, ?_⟩
        have ew := emod_wrap (x := one + 1 + by') (M := 1 + d0 + 1) (by omega) (by omega) (by omega)
        generalize (one + 1 + by') % (1 + d0 + 1) = om at *
        have o1 : 0 ≤ om ∧ om < 1 + d0 + 1 ∧ om ≠ one := by
          split at ew <;> omega
        -- slack
        refine ⟨_, rfl, _, _, rfl, rfl, (by decide : (0 : Int) < 5), _, rfl, _, _, rfl, rfl, (by decide : (0 : Int) < 200), _, rfl, (by show 4 ≤ sizeLine; decide), fun p6 hp6 => ?_⟩
        obtain ⟨sl, esl, sl0⟩ : ∃ sl : Int, atI [V.int 0, .int (slack % 5), .int (slack % 200), .int slack] kind = some (.int sl) ∧ 0 ≤ sl := by
          have k4 : kind = 0 ∨ kind = 1 ∨ kind = 2 ∨ kind = 3 := by omega
          rcases k4 with rfl | rfl | rfl | rfl
          · exact ⟨0, rfl, by decide⟩
          · exact ⟨slack % 5, rfl, Int.emod_nonneg _ (by decide)⟩
          · exact ⟨slack % 200, rfl, Int.emod_nonneg _ (by decide)⟩
          · exact ⟨slack, rfl, c4⟩
        have s7 := same_new (o := .lst [V.int 0, .int (slack % 5), .int (slack % 200), .int slack]) hp6
        refine ⟨_, rfl, p6, _, _, _, rfl, rfl, SqL.of upd_same, esl, ?_⟩
        have s57 := s56.trans s7
        have hd7 := s57 _ _ hd4
        have hl7 := s57 _ _ hl4
        -- here, there
        refine if_day1 (K := K) (ds := ds) (a := d) (SqL.of hd7) rfl rfl c0 (by omega) ?_
        refine if_day (K := K) (ds := ds) (a := d) (SqL.of hd7) rfl rfl (by omega) ?_
        -- append
        refine ⟨_, rfl, .inl ⟨rfl, _, SqL.of hl7⟩, ?_⟩
        refine ⟨_, rfl, _, _, rfl, rfl, _, rfl, _, rfl, _, rfl, _, rfl, _, _, rfl, rfl, _, rfl, _, _, rfl, rfl, _, _, rfl, (by show 3 ≤ sizeLine; decide), fun p8 hp8 => ?_⟩
        have s8 := same_new (o := .tup [V.int (one - 1), .int (om - 1), .int (if dayOf ds (one - 1) - dayOf ds (om - 1) - sl > -9999 then dayOf ds (one - 1) - dayOf ds (om - 1) - sl else -9999)]) hp8
        have s58 := s57.trans s8
        refine ⟨l, xs, _, rfl, rfl, s8 _ _ hl7, sz_lt (by rw [hts.length]; omega), ?_⟩
        have r1 := dayOf_range dr (one - 1)
        have r2 := dayOf_range dr (om - 1)
        have hl8 := s8 _ _ hl7
        have nl8 : H l = none := s03.free hl
        refine ⟨_, ts ++ [(one - 1, om - 1, (if dayOf ds (one - 1) - dayOf ds (om - 1) - sl > -9999 then dayOf ds (one - 1) - dayOf ds (om - 1) - sl else -9999))], _, _, _, _, _, _, _, _, rfl, same_mut (s04.trans s58) nl8, ?_, upd_same, ?_, by simp [htl], ?_, ?_⟩
        · rw [upd_ne ndl]
          exact s58 _ _ hd4
        · exact TiesAt.updL hl8 ((hts.mono s58).app ⟨⟨p8, rfl, upd_same⟩, trivial⟩)
        · intro t ht
          rcases List.mem_append.mp ht with ht | ht
          · exact hok t ht
          · rw [List.mem_singleton.mp ht]
            unfold TieOk
            dsimp only
            split <;> omega
        · intro t ht
          rcases List.mem_append.mp ht with ht | ht
          · exact hkp t ht
          · rw [List.mem_singleton.mp ht]
            unfold KeptW
            dsimp only
            split <;> omega
      · rintro σ H4 ⟨xs, ts, v0, v1, v2, v3, v4, v5, v6, v7, rfl, s04, hd4, hl4, hts, htl, hok, hkp⟩
        exact ⟨xs, ts, rfl, rfl, rfl, rfl, s04, hd4, hl4, hts, by omega, hok, hkp⟩
    · rintro σ H4 ⟨xs, ts, g3, g9, g7, g6, s04, hd4, hl4, hts, htl, hok, hkp⟩
      refine ⟨_, g3, _, g9, _, g7, _, g6, (by show 4 ≤ sizeLine; decide), fun p9 hp9 => ?_⟩
      have s9 := same_new (o := .tup [V.int (1 + d0), .ref l, .ref d, .int bad]) hp9
      exact k p9 l d xs ts ds (1 + d0) bad _ ⟨s04.trans s9, s04.free hp9, s03.free hl, nd, upd_same, s9 _ _ hl4, hts.mono s9, s9 _ _ hd4, by omega, by omega, hdl, dr, hok, hkp, htl, a3, b3⟩

theorem sc_lkept : FnScope N_lkept ["_law_days", "_law_tie"] (defScope s_lkept) := ⟨rfl, rfl, rfl, by decide +kernel, rfl, by decide +kernel, by decide +kernel⟩
def sp_lkept (K : PySem.W.Frag) : Sp := fun vs H Q _ => ∃ (a : Addr) (v : V) (ds : List Int) (t : Tie), vs = [.ref a, v] ∧ SqL K H a (ds.map V.int) ∧ TieAt H v t ∧ t.1 < ds.length ∧ t.2.1 < ds.length ∧ Q (.bl (decide (KeptW ds t))) H
theorem ok_lkept {f : Addr} {fd : FuncData} (F : FnP K "_law_kept" s_lkept f fd) (T : Txt K mg) : FnOk P w K mg base CX0 1 f fd ["_law_days", "_law_tie"] (sp_lkept K) := by
  refine F.ok sc_lkept (fun vs H Q E h => ?_) (fun cdv A outer s H vs Q E hr h => ?_)
  · obtain ⟨a, v, ds, t, rfl, _⟩ := h
    rfl
  · obtain ⟨a, v, ds, t, rfl, hS, ⟨p, rfl, hp⟩, h1, h2, k⟩ := h
    refine ⟨_, PSs.nox (pss_cons (ps_asg (pv 1) (pgtK (n := 3) K rfl (pgs_cons (pg_name (i := 2) sc_lkept.nd rfl (Or.inl rfl)) (pgs_cons (pg_name (i := 3) sc_lkept.nd rfl (Or.inl rfl)) (pgs_cons (pg_name (i := 4) sc_lkept.nd rfl (Or.inl rfl)) pgs_nil)))))
          (pss_cons (ps_set (i := 5) sc_lkept.nd rfl (Or.inl rfl) (pe_ifExp (pt_cmpR op_lt (pv 2) pe_int (nomark _)) pe_int (pe_ix (ixl K) (pv 0) (pv 2) (fun _ _ => rfl))))
          (pss_cons (ps_set (i := 6) sc_lkept.nd rfl (Or.inl rfl) (pe_ifExp (pt_cmpR op_lt (pv 3) pe_int (nomark _)) pe_int (pe_ix (ixl K) (pv 0) (pv 3) (fun _ _ => rfl))))
          (pss_one (ps_ret (pe_cmpR op_ge (pe_op op_sub (pv 5) (pv 6)) (pv 4) (nomark _))))))), ?_⟩
    refine ⟨_, rfl, p, _, rfl, SqT.of hp, rfl, _, _, rfl, _, _, rfl, _, _, rfl, rfl, ?_⟩
    refine if_day hS rfl rfl h1 ?_
    refine if_day hS rfl rfl h2 ?_
    exact ⟨_, rfl, _, rfl, _, _, rfl, rfl, _, rfl, _, _, rfl, rfl, k⟩

theorem sc_lsame : FnScope N_lsame ["_law_told", "_law_due"] (defScope s_lsame) := ⟨rfl, rfl, rfl, by decide +kernel, rfl, by decide +kernel, by decide +kernel⟩
def sp_lsame (K : PySem.W.Frag) : Nat → Sp
  | 0 => fun _ _ _ _ => False
  | n + 1 => fun vs H Q _ => ∃ (x y : V) (d : PyData), vs = [x, y] ∧ d.depth ≤ n ∧ SeqAt.shaped d = true ∧ sizeD d ≤ 10000 ∧ Dp K H x d ∧ Dp K H y d ∧ ∀ H', Same H H' → Q (.bl true) H'
theorem ok_lsame0 {f : Addr} {fd : FuncData} (F : FnP K "_law_same" s_lsame f fd) : FnOk P w K mg base CX0 1 f fd ["_law_told", "_law_due"] (sp_lsame K 0) :=
  F.ok (k := 0) sc_lsame (fun _ _ _ _ h => h.elim) (fun _ _ _ _ _ _ _ _ _ h => h.elim)
/-- the comprehension's end, over lists and over tuples -/
theorem lsame_all {n : Nat} {K : PySem.W.Frag} {H : Hp} {D : Addr} {Q : VK} (hq : ∀ H', Same H H' → Q (.bl true) H') {H' : Hp} (s1 : Same H H') (h : H' D = some (.lst (List.replicate n (V.bl true)))) : rAll K [.ref D] H' Q := by
  refine ⟨D, List.replicate n true, rfl, SqL.of (by rw [h, List.map_replicate]), ?_⟩
  have e : (List.replicate n true).all id = true := by simp
  rw [e]
  exact hq H' s1
theorem ok_lsame {f : Addr} {fd : FuncData} (F : FnP K "_law_same" s_lsame f fd) (T : Txt K mg) (n : Nat) (C_lsame : Own P w K mg base "_law_same" ["_law_told", "_law_due"] (n + 1) (sp_lsame K n)) : FnOk P w K mg base CX0 (n + 2) f fd ["_law_told", "_law_due"] (sp_lsame K (n + 1)) := by
  refine F.ok sc_lsame (fun vs H Q E h => ?_) (fun cdv A outer s H vs Q E hr h => ?_)
  · obtain ⟨x, y, d, rfl, _⟩ := h
    rfl
  · obtain ⟨x, y, d, rfl, hdep, hsh, hsz, hx, hy, k⟩ := h
    refine ⟨_, PSs.nox (C8.pss_cut (ps_if (pt_cmpR op_isN (pv 1) pe_non (nomark _)) (pss_one (ps_ret (pe_cmpR op_isN (pv 0) pe_non (nomark _)))) pss_nil)
          (C8.pss_cut (ps_if (PW.pt (pw_or (pt_val (pe_callB (isiK K) (by rfl) T.n_isinstance (by decide +kernel) (pa_cons (pv 1) (pa_cons (pe_bltn (v := .ty "list") (by rfl) T.n_list (by decide +kernel) rfl) pa_nil)))) (pw_or1 (pt_val (pe_callB (isiK K) (by rfl) T.n_isinstance (by decide +kernel) (pa_cons (pv 1) (pa_cons (pe_bltn (v := .ty "tuple") (by rfl) T.n_tuple (by decide +kernel) rfl) pa_nil))))))) (C8.pss_cut (ps_if (PW.pt (pw_or (pt_cmpR op_ne (pe_callB (isiK K) (by rfl) T.n_isinstance (by decide +kernel) (pa_cons (pv 0) (pa_cons (pe_bltn (v := .ty "list") (by rfl) T.n_list (by decide +kernel) rfl) pa_nil))) (pe_callB (isiK K) (by rfl) T.n_isinstance (by decide +kernel) (pa_cons (pv 1) (pa_cons (pe_bltn (v := .ty "list") (by rfl) T.n_list (by decide +kernel) rfl) pa_nil))) (nomark _)) (pw_or1 (pt_cmpR op_ne (pe_callB (isiK K) (by rfl) T.n_isinstance (by decide +kernel) (pa_cons (pv 0) (pa_cons (pe_bltn (v := .ty "tuple") (by rfl) T.n_tuple (by decide +kernel) rfl) pa_nil))) (pe_callB (isiK K) (by rfl) T.n_isinstance (by decide +kernel) (pa_cons (pv 1) (pa_cons (pe_bltn (v := .ty "tuple") (by rfl) T.n_tuple (by decide +kernel) rfl) pa_nil))) (nomark _))))) (pss_one (ps_ret pe_bl)) pss_nil)
            (pss_one (ps_ret (pe_and (pe_cmpR op_eq (pe_callB (lenK K) (by rfl) T.n_len (by decide +kernel) (pa_cons (pv 0) pa_nil)) (pe_callB (lenK K) (by rfl) T.n_len (by decide +kernel) (pa_cons (pv 1) pa_nil)) (nomark _)) (pe_one (pe_callB (allK K rfl) (by rfl) T.n_all (by decide +kernel) (pa_cons (by exact (pe_lc (own := [("_law_one", 2), ("_law_other", 3)]) rfl sc_lsame.nd (RZ.pi_zipA (by rfl) T.n_zip (pa_cons (pv 0) (pa_cons (pv 1) pa_nil))) (blkOk_by (own := [("_law_one", 2), ("_law_other", 3)]) (N := N_lsame) (sc := defScope s_lsame) (by decide +kernel)) (fun _ _ _ _ _ => by exact (pgtK (n := 2) K rfl (pgs_cons (pg_name (i := 2) sc_lsame.nd rfl (Or.inl rfl)) (pgs_cons (pg_name (i := 3) sc_lsame.nd rfl (Or.inl rfl)) pgs_nil)))) (fun _ _ _ _ _ => by exact pts_nil) (fun _ _ _ _ _ => by exact (pe_own C_lsame (hr.mono (by omega)) (pa_cons (pv 2) (pa_cons (pv 3) pa_nil)))))) pa_nil))))))) pss_nil)
          (C8.pss_cut (ps_if (PW.pt (pw_or (pt_cmpR op_ne (pe_callB (isiK K) (by rfl) T.n_isinstance (by decide +kernel) (pa_cons (pv 0) (pa_cons (pe_bltn (v := .ty "bool") (by rfl) T.n_bool (by decide +kernel) rfl) pa_nil))) (pe_callB (isiK K) (by rfl) T.n_isinstance (by decide +kernel) (pa_cons (pv 1) (pa_cons (pe_bltn (v := .ty "bool") (by rfl) T.n_bool (by decide +kernel) rfl) pa_nil))) (nomark _)) (pw_or1 (pt_cmpR op_ne (pe_callB (isiK K) (by rfl) T.n_isinstance (by decide +kernel) (pa_cons (pv 0) (pa_cons (pe_bltn (v := .ty "int") (by rfl) T.n_int (by decide +kernel) rfl) pa_nil))) (pe_callB (isiK K) (by rfl) T.n_isinstance (by decide +kernel) (pa_cons (pv 1) (pa_cons (pe_bltn (v := .ty "int") (by rfl) T.n_int (by decide +kernel) rfl) pa_nil))) (nomark _))))) (pss_one (ps_ret pe_bl)) pss_nil)
          (pss_one (ps_ret (pe_and (pe_cmpR op_eq (pe_callB (isiK K) (by rfl) T.n_isinstance (by decide +kernel) (pa_cons (pv 0) (pa_cons (pe_bltn (v := .ty "str") (by rfl) T.n_str (by decide +kernel) rfl) pa_nil))) (pe_callB (isiK K) (by rfl) T.n_isinstance (by decide +kernel) (pa_cons (pv 1) (pa_cons (pe_bltn (v := .ty "str") (by rfl) T.n_str (by decide +kernel) rfl) pa_nil))) (nomark _)) (pe_one (pe_cmpR (eqDK K hr.units) (pv 0) (pv 1) (nomark _))))))))), ?_⟩
    have cl0 := SeqAt.canLay_of_shaped hsh
    have dp0 := SeqAt.depth_of_shaped hsh
    refine ⟨fun σ H' => σ = [some x, some y, none, none] ∧ H' = H ∧ d ≠ .none, ?_, ?_⟩
    · refine ⟨_, rfl, rfl, _, rfl, ?_⟩
      refine ite2 (fun c1 => ?_) (fun c1 => ⟨rfl, rfl, fun e => ?_⟩)
      · have e1 : y = .non := of_decide_eq_true c1
        subst e1
        cases hy
        cases hx
        exact ⟨_, rfl, rfl, k H (Same.refl H)⟩
      · subst e
        cases hy
        exact c1 (decide_eq_true rfl)
    rintro σ H' ⟨rfl, rfl, hnn⟩
    refine ⟨fun σ H2 => σ = [some x, some y, none, none] ∧ H2 = H' ∧ isI d "list" = false ∧ isI d "tuple" = false, ?_, ?_⟩
    · refine ⟨_, rfl, _, _, _, _, _, rfl, .ty _, tyX_of hy, kit_is _ (by simp), _, rfl, ?_⟩
      cases d with
      | none => exact absurd rfl hnn
      | bool b0 =>
        refine iteBF (isI_list _) ?_
        refine ⟨_, rfl, _, _, _, _, _, rfl, .ty _, tyX_of hy, kit_is _ (by simp), _, rfl, ?_⟩
        refine iteBF (isI_tuple _) ?_
        exact ⟨rfl, rfl, isI_list _, isI_tuple _⟩
      | int i0 =>
        refine iteBF (isI_list _) ?_
        refine ⟨_, rfl, _, _, _, _, _, rfl, .ty _, tyX_of hy, kit_is _ (by simp), _, rfl, ?_⟩
        refine iteBF (isI_tuple _) ?_
        exact ⟨rfl, rfl, isI_list _, isI_tuple _⟩
      | str x0 =>
        refine iteBF (isI_list _) ?_
        refine ⟨_, rfl, _, _, _, _, _, rfl, .ty _, tyX_of hy, kit_is _ (by simp), _, rfl, ?_⟩
        refine iteBF (isI_tuple _) ?_
        exact ⟨rfl, rfl, isI_list _, isI_tuple _⟩
      | dict d0 =>
        refine iteBF (isI_list _) ?_
        refine ⟨_, rfl, _, _, _, _, _, rfl, .ty _, tyX_of hy, kit_is _ (by simp), _, rfl, ?_⟩
        refine iteBF (isI_tuple _) ?_
        exact ⟨rfl, rfl, isI_list _, isI_tuple _⟩
      | list ds =>
        refine iteB (isI_list _) ?_
        refine ⟨fun σ H2 => σ = [some x, some y, none, none] ∧ H2 = H', ?_, ?_⟩
        · refine ⟨_, rfl, _, _, _, _, _, rfl, .ty _, tyX_of hx, kit_is _ (by simp), _, rfl, _, _, _, _, _, rfl, .ty _, tyX_of hy, kit_is _ (by simp), rfl, _, rfl, ?_⟩
          refine iteNS rfl ?_
          refine ⟨_, rfl, _, _, _, _, _, rfl, .ty _, tyX_of hx, kit_is _ (by simp), _, rfl, _, _, _, _, _, rfl, .ty _, tyX_of hy, kit_is _ (by simp), rfl, _, rfl, ?_⟩
          refine iteNS rfl ?_
          exact ⟨rfl, rfl⟩
        · rintro σ H2 ⟨rfl, rfl⟩
          cases hx with
          | @lst a xs _ hxs hxd =>
            cases hy with
            | @lst b ys _ hys hyd =>
              have l1 := dpAll_len hxd
              have l2 := dpAll_len hyd
              obtain ⟨m, rfl⟩ : ∃ m, n = m + 1 := ⟨n - 1, by simp only [PyData.depth] at hdep; omega⟩
              refine ⟨_, rfl, _, _, rfl, .inl hxs, _, rfl, _, _, rfl, .inl hys, rfl, _, rfl, ?_⟩
              refine iteD (by rw [l1, l2]) ?_
              refine ⟨_, rfl, _, rfl, a, b, xs, ys, rfl, .inl ⟨hxs, hys, fun D hD => ?_⟩⟩
              refine lc_it (walk_zip (K := K) (a := a) (b := b) (xs := xs) (ys := ys) (n := ds.length) (by rw [l1, l2, Nat.min_self])) (fun i H3 => Same H2 H3 ∧ H3 D = some (.lst (List.replicate i (V.bl true))))
                ⟨same_new hD, upd_same⟩ (fun i H3 _ ⟨s1, _⟩ => ⟨s1.seq hxs, s1.seq hys⟩) ?_ ?_
              · rintro i v H3 H4 hi ⟨s1, hq⟩ ⟨T1, u1, u2, rfl, hT, rfl, g1, g2⟩
                obtain ⟨e1, j1, k1⟩ := dpAll_get hxd g1
                obtain ⟨e2, j2, k2⟩ := dpAll_get hyd g2
                rw [j1] at j2
                cases j2
                have s2 : Same H2 (upd H3 T1 (.tup [u1, u2])) := s1.trans (same_new hT)
                refine ⟨T1, _, rfl, SqT.of upd_same, rfl, _, _, rfl, _, _, rfl, rfl, rfl, ?_⟩
                refine ⟨_, rfl, _, rfl, u1, u2, e1, rfl, ?_, ?_, ?_, dp_mono s2 _ _ k1, dp_mono s2 _ _ k2, fun H5 s3 => ?_⟩
                · have := depthAll_get j1
                  simp only [PyData.depth] at hdep
                  omega
                · have := depthAll_get j1
                  simp only [PyData.depth] at dp0
                  exact shaped_mk (canLayAll_get (by simpa [PyData.canLay0] using cl0) j1) (by omega)
                · have := sizeAll_get j1
                  simp only [sizeD] at hsz
                  omega
                · have hD3 : D ≠ T1 := ne_of_none hq hT
                  have hq5 : H5 D = some (.lst (List.replicate i (V.bl true))) := s3 _ _ (by rw [upd_ne hD3]; exact hq)
                  refine ⟨_, hq5, sz_lt (by rw [List.length_replicate]; have := hsz; simp only [sizeD] at this; omega), same_mut (s2.trans s3) hD, ?_⟩
                  rw [upd_same, List.replicate_succ']
              · rintro H3 ⟨s1, hq⟩
                exact lsame_all (n := ds.length) k s1 hq
      | tuple ds =>
        refine iteBF (isI_list _) ?_
        refine ⟨_, rfl, _, _, _, _, _, rfl, .ty _, tyX_of hy, kit_is _ (by simp), _, rfl, ?_⟩
        refine iteB (isI_tuple _) ?_
        refine ⟨fun σ H2 => σ = [some x, some y, none, none] ∧ H2 = H', ?_, ?_⟩
        · refine ⟨_, rfl, _, _, _, _, _, rfl, .ty _, tyX_of hx, kit_is _ (by simp), _, rfl, _, _, _, _, _, rfl, .ty _, tyX_of hy, kit_is _ (by simp), rfl, _, rfl, ?_⟩
          refine iteNS rfl ?_
          refine ⟨_, rfl, _, _, _, _, _, rfl, .ty _, tyX_of hx, kit_is _ (by simp), _, rfl, _, _, _, _, _, rfl, .ty _, tyX_of hy, kit_is _ (by simp), rfl, _, rfl, ?_⟩
          refine iteNS rfl ?_
          exact ⟨rfl, rfl⟩
        · rintro σ H2 ⟨rfl, rfl⟩
          cases hx with
          | @tup a xs _ hxs hxd =>
            cases hy with
            | @tup b ys _ hys hyd =>
              have l1 := dpAll_len hxd
              have l2 := dpAll_len hyd
              obtain ⟨m, rfl⟩ : ∃ m, n = m + 1 := ⟨n - 1, by simp only [PyData.depth] at hdep; omega⟩
              refine ⟨_, rfl, _, _, rfl, .inr hxs, _, rfl, _, _, rfl, .inr hys, rfl, _, rfl, ?_⟩
              refine iteD (by rw [l1, l2]) ?_
              refine ⟨_, rfl, _, rfl, a, b, xs, ys, rfl, .inr ⟨hxs, hys, fun D hD => ?_⟩⟩
              refine lc_it (walk_zipT (K := K) (a := a) (b := b) (xs := xs) (ys := ys) (n := ds.length) (by rw [l1, l2, Nat.min_self])) (fun i H3 => Same H2 H3 ∧ H3 D = some (.lst (List.replicate i (V.bl true))))
                ⟨same_new hD, upd_same⟩ (fun i H3 _ ⟨s1, _⟩ => ⟨same_t s1 hxs, same_t s1 hys⟩) ?_ ?_
              · rintro i v H3 H4 hi ⟨s1, hq⟩ ⟨T1, u1, u2, rfl, hT, rfl, g1, g2⟩
                obtain ⟨e1, j1, k1⟩ := dpAll_get hxd g1
                obtain ⟨e2, j2, k2⟩ := dpAll_get hyd g2
                rw [j1] at j2
                cases j2
                have s2 : Same H2 (upd H3 T1 (.tup [u1, u2])) := s1.trans (same_new hT)
                refine ⟨T1, _, rfl, SqT.of upd_same, rfl, _, _, rfl, _, _, rfl, rfl, rfl, ?_⟩
                refine ⟨_, rfl, _, rfl, u1, u2, e1, rfl, ?_, ?_, ?_, dp_mono s2 _ _ k1, dp_mono s2 _ _ k2, fun H5 s3 => ?_⟩
                · have := depthAll_get j1
                  simp only [PyData.depth] at hdep
                  omega
                · have := depthAll_get j1
                  simp only [PyData.depth] at dp0
                  exact shaped_mk (canLayAll_get (by simpa [PyData.canLay0] using cl0) j1) (by omega)
                · have := sizeAll_get j1
                  simp only [sizeD] at hsz
                  omega
                · have hD3 : D ≠ T1 := ne_of_none hq hT
                  have hq5 : H5 D = some (.lst (List.replicate i (V.bl true))) := s3 _ _ (by rw [upd_ne hD3]; exact hq)
                  refine ⟨_, hq5, sz_lt (by rw [List.length_replicate]; have := hsz; simp only [sizeD] at this; omega), same_mut (s2.trans s3) hD, ?_⟩
                  rw [upd_same, List.replicate_succ']
              · rintro H3 ⟨s1, hq⟩
                exact lsame_all (n := ds.length) k s1 hq
    · rintro σ H2 ⟨rfl, rfl, n1, n2⟩
      refine ⟨fun σ H3 => σ = [some x, some y, none, none] ∧ H3 = H2, ?_, ?_⟩
      · refine ⟨_, rfl, _, _, _, _, _, rfl, .ty _, tyX_of hx, kit_is _ (by simp), _, rfl, _, _, _, _, _, rfl, .ty _, tyX_of hy, kit_is _ (by simp), rfl, _, rfl, ?_⟩
        refine iteNS rfl ?_
        refine ⟨_, rfl, _, _, _, _, _, rfl, .ty _, tyX_of hx, kit_is _ (by simp), _, rfl, _, _, _, _, _, rfl, .ty _, tyX_of hy, kit_is _ (by simp), rfl, _, rfl, ?_⟩
        refine iteNS rfl ?_
        exact ⟨rfl, rfl⟩
      · rintro σ H3 ⟨rfl, rfl⟩
        refine ⟨_, rfl, _, _, _, _, _, rfl, .ty _, tyX_of hx, kit_is _ (by simp), _, rfl, _, _, _, _, _, rfl, .ty _, tyX_of hy, kit_is _ (by simp), rfl, _, rfl, ?_⟩
        refine iteD rfl ?_
        refine ⟨_, rfl, _, rfl, d, d, hx, hy, hsh, hsh, ?_⟩
        rw [eqv_self hsh]
        exact k _ (Same.refl _)

theorem sc_lbent : FnScope N_lbent ["_law_script", "_law_k", "_law_days"] (defScope s_lbent) := ⟨rfl, rfl, rfl, by decide +kernel, rfl, by decide +kernel, by decide +kernel⟩
def sp_lbent (K : PySem.W.Frag) : Sp := fun vs H Q _ => ∃ (a d : Addr) (ns ds : List Int) (n : Int), vs = [.ref a, .int n, .ref d] ∧ SqL K H a (ns.map V.int) ∧ ns.length ≤ 63 ∧ H d = some (.lst (ds.map V.int)) ∧ ds.length ≤ 1000 ∧
  ∀ (d' : Addr) (es : List Int) (H' : Hp), Same H H' → H' d' = some (.lst (es.map V.int)) → es.length ≤ 2 * ds.length + 1 → Q (.ref d') H'
theorem ok_lbent {f : Addr} {fd : FuncData} (F : FnP K "_law_bent" s_lbent f fd) (T : Txt K mg) (C_ldigits : Own P w K mg base "_law_digits" ["_law_script", "_law_k", "_law_sizes"] 3 (sp_ldigits K)) (C_lfar : Own P w K mg base "_law_far" ["_law_number", "_law_way"] 1 (sp_lfar)) : FnOk P w K mg base CX0 4 f fd ["_law_script", "_law_k", "_law_days"] (sp_lbent K) := by
  refine F.ok sc_lbent (fun vs H Q E h => ?_) (fun cdv A outer s H vs Q E hr h => ?_)
  · obtain ⟨a, d, ns, ds, n, rfl, _⟩ := h
    rfl
  · obtain ⟨a, d, ns, ds, n, rfl, hS, hlen, hd, hdl, k⟩ := h
    refine ⟨_, PSs.nox (pss_cons (ps_asg (pe_own C_ldigits (hr.mono (by omega)) (pa_cons (pv 0) (pa_cons (pv 1) (pa_cons (pe_lst (pa_cons pe_int (pa_cons pe_int (pa_cons pe_int (pa_cons (pe_op op_pow pe_int pe_int) (pa_cons pe_int pa_nil)))))) pa_nil)))) (pguK (n := 5) K rfl (pgs_cons (pg_name (i := 3) sc_lbent.nd rfl (Or.inl rfl)) (pgs_cons (pg_name (i := 4) sc_lbent.nd rfl (Or.inl rfl)) (pgs_cons (pg_name (i := 5) sc_lbent.nd rfl (Or.inl rfl)) (pgs_cons (pg_name (i := 6) sc_lbent.nd rfl (Or.inl rfl)) (pgs_cons (pg_name (i := 7) sc_lbent.nd rfl (Or.inl rfl)) pgs_nil)))))))
          (C8.pss_cut (ps_set (i := 4) sc_lbent.nd rfl (Or.inl rfl) (pe_op op_mod (pv 4) (pe_op op_add (pe_callB (lenK K) (by rfl) T.n_len (by decide +kernel) (pa_cons (pv 2) pa_nil)) pe_int)))
          (C8.pss_cut (ps_if (pt_cmpR op_eq (pv 3) pe_int (nomark _)) (pss_one (ps_ret (pe_op op_cat (pe_slice (slK K) (pv 2) po_none (po_some (pv 4))) (pe_slice (slK K) (pv 2) (po_some (pe_op op_add (pv 4) pe_int)) po_none)))) pss_nil)
          (C8.pss_cut (ps_if (pt_cmpR op_eq (pv 3) pe_int (nomark _)) (pss_one (ps_ret (pe_op op_cat (pe_op op_cat (pe_slice (slK K) (pv 2) po_none (po_some (pv 4))) (pe_lst (pa_cons (pv 5) pa_nil))) (pe_slice (slK K) (pv 2) (po_some (pv 4)) po_none)))) pss_nil)
          (C8.pss_cut (ps_if (pt_cmpR op_eq (pv 3) pe_int (nomark _)) (pss_one (ps_ret (pe_op op_cat (pe_op op_cat (pe_slice (slK K) (pv 2) po_none (po_some (pv 4))) (pe_lst (pa_cons (pv 5) pa_nil))) (pe_slice (slK K) (pv 2) (po_some (pe_op op_add (pv 4) pe_int)) po_none)))) pss_nil)
          (C8.pss_cut (ps_if (pt_cmpR op_eq (pv 3) pe_int (nomark _)) (pss_one (ps_ret (pe_op op_cat (pe_op op_cat (pe_slice (slK K) (pv 2) po_none (po_some (pv 4))) (pe_lst (pa_cons (pe_ix (ixl K) (pe_lst (pa_cons (pe_un un_neg pe_int) (pa_cons pe_int (pa_cons (pe_own C_lfar (hr.mono (by omega)) (pa_cons (pv 6) (pa_cons (pv 7) pa_nil))) pa_nil)))) (pe_op op_mod (pv 5) pe_int) (fun _ _ => rfl)) pa_nil))) (pe_slice (slK K) (pv 2) (po_some (pe_op op_add (pv 4) pe_int)) po_none)))) pss_nil)
          (pss_one (ps_ret (pv 2))))))))), ?_⟩
    refine ⟨_, rfl, _, rfl, _, _, rfl, rfl, ⟨by decide, by decide, by decide⟩, (by show 5 ≤ sizeLine; decide), fun p0 hp0 => ?_⟩
    have s0 := same_new (o := .lst [V.int 7, .int 12, .int 10000, .int (10 ^ Int.toNat 29), .int 4]) hp0
    refine ⟨a, p0, ns, [7, 12, 10000, 10 ^ Int.toNat 29, 4], n, rfl, s0.seq hS, hlen, SqL.of upd_same, (by show 5 ≤ 1000; decide), ?_, fun q0 es H1 nq0 s1 hq0 dig => ?_⟩
    · intro s hs
      simp only [List.mem_cons, List.not_mem_nil, or_false] at hs
      rcases hs with rfl | rfl | rfl | rfl | rfl <;> decide
    obtain ⟨way, _, rfl, a0, b0, dig⟩ := dig.inv
    obtain ⟨at0, _, rfl, a1, b1, dig⟩ := dig.inv
    obtain ⟨day, _, rfl, a2, b2, dig⟩ := dig.inv
    obtain ⟨far, _, rfl, a3, b3, dig⟩ := dig.inv
    obtain ⟨side, _, rfl, a4, b4, dig⟩ := dig.inv
    have e := dig.inv0
    subst e
    refine ⟨q0, _, rfl, SqL.of hq0, rfl, _, _, rfl, _, _, rfl, _, _, rfl, _, _, rfl, _, _, rfl, rfl, ?_⟩
    have s01 : Same H H1 := s0.trans s1
    have hd1 := s01 _ _ hd
    refine ⟨fun σ H2 => H2 = H1 ∧ ∃ at1 : Int, σ = [some (.ref a), some (.int n), some (.ref d), some (.int way), some (.int at1), some (.int day), some (.int far), some (.int side)], ?_, ?_⟩
    · refine ⟨_, rfl, _, rfl, _, _, rfl, .inl (SqL.of hd1), _, _, rfl, rfl, _, _, rfl, rfl, (by show (0 : Int) < ((ds.map V.int).length : Int) + 1; omega), ?_⟩
      exact ⟨rfl, _, rfl⟩
    rintro σ H2 ⟨rfl, at1, rfl⟩
    obtain ⟨e1, c1, l1⟩ := cut_ints ds none (some at1)
    obtain ⟨e2, c2, l2⟩ := cut_ints ds (some (at1 + 1)) none
    obtain ⟨e3, c3, l3⟩ := cut_ints ds (some at1) none
    refine ⟨fun σ H3 => H3 = H2 ∧ σ = [some (.ref a), some (.int n), some (.ref d), some (.int way), some (.int at1), some (.int day), some (.int far), some (.int side)], ?_, ?_⟩
    · refine ⟨_, rfl, rfl, _, rfl, ?_⟩
      refine ite2 (fun _ => ?_) (fun _ => ⟨rfl, rfl⟩)
      refine ⟨_, rfl, _, rfl, _, rfl, d, _, rfl, SqL.of hd1, fun p1 hp1 => ?_⟩
      have s2 := same_new (o := .lst (cutV (ds.map V.int) none (some at1))) hp1
      refine ⟨_, rfl, _, rfl, _, _, rfl, rfl, _, rfl, d, _, rfl, SqL.of (s2 _ _ hd1), fun p2 hp2 => ?_⟩
      have n12 : p1 ≠ p2 := ne_of_none upd_same hp2
      have s3 := same_new (o := .lst (cutV (ds.map V.int) (some (at1 + 1)) none)) hp2
      refine ⟨p1, p2, e1.map V.int, e2.map V.int, rfl, rfl, by rw [upd_ne n12, upd_same, c1], by rw [upd_same, c2], sz_of (by rw [List.length_map, List.length_map]; omega), fun p3 hp3 => ?_⟩
      exact k p3 (e1 ++ e2) _ (((s01.trans s2).trans s3).trans (same_new hp3)) (by rw [upd_same, List.map_append]) (by rw [List.length_append]; omega)
    rintro σ H3 ⟨rfl, rfl⟩
    refine ⟨fun σ H4 => H4 = H3 ∧ σ = [some (.ref a), some (.int n), some (.ref d), some (.int way), some (.int at1), some (.int day), some (.int far), some (.int side)], ?_, ?_⟩
    · refine ⟨_, rfl, rfl, _, rfl, ?_⟩
      refine ite2 (fun _ => ?_) (fun _ => ⟨rfl, rfl⟩)
      refine ⟨_, rfl, _, rfl, _, rfl, d, _, rfl, SqL.of hd1, fun p1 hp1 => ?_⟩
      have s2 := same_new (o := .lst (cutV (ds.map V.int) none (some at1))) hp1
      refine ⟨_, rfl, (by show 1 ≤ sizeLine; decide), fun p2 hp2 => ?_⟩
      have n12 : p1 ≠ p2 := ne_of_none upd_same hp2
      have s3 := same_new (o := .lst [V.int day]) hp2
      refine ⟨p1, p2, e1.map V.int, [.int day], rfl, rfl, by rw [upd_ne n12, upd_same, c1], upd_same, sz_of (by rw [List.length_map]; simp; omega), fun p3 hp3 => ?_⟩
      have s4 := same_new (o := .lst (e1.map V.int ++ [.int day])) hp3
      have s24 := (s2.trans s3).trans s4
      refine ⟨_, rfl, _, rfl, _, rfl, d, _, rfl, SqL.of (s24 _ _ hd1), fun p4 hp4 => ?_⟩
      have n34 : p3 ≠ p4 := ne_of_none upd_same hp4
      have s5 := same_new (o := .lst (cutV (ds.map V.int) (some at1) none)) hp4
      refine ⟨p3, p4, (e1 ++ [day]).map V.int, e3.map V.int, rfl, rfl, by rw [upd_ne n34, upd_same, List.map_append]; rfl, by rw [upd_same, c3], sz_of (by simp; omega), fun p5 hp5 => ?_⟩
      exact k p5 (e1 ++ [day] ++ e3) _ (((s01.trans s24).trans s5).trans (same_new hp5)) (by rw [upd_same, ← List.map_append]) (by simp; omega)
    rintro σ H3 ⟨rfl, rfl⟩
    refine ⟨fun σ H4 => H4 = H3 ∧ σ = [some (.ref a), some (.int n), some (.ref d), some (.int way), some (.int at1), some (.int day), some (.int far), some (.int side)], ?_, ?_⟩
    · refine ⟨_, rfl, rfl, _, rfl, ?_⟩
      refine ite2 (fun _ => ?_) (fun _ => ⟨rfl, rfl⟩)
      refine ⟨_, rfl, _, rfl, _, rfl, d, _, rfl, SqL.of hd1, fun p1 hp1 => ?_⟩
      have s2 := same_new (o := .lst (cutV (ds.map V.int) none (some at1))) hp1
      refine ⟨_, rfl, (by show 1 ≤ sizeLine; decide), fun p2 hp2 => ?_⟩
      have n12 : p1 ≠ p2 := ne_of_none upd_same hp2
      have s3 := same_new (o := .lst [V.int day]) hp2
      refine ⟨p1, p2, e1.map V.int, [.int day], rfl, rfl, by rw [upd_ne n12, upd_same, c1], upd_same, sz_of (by rw [List.length_map]; simp; omega), fun p3 hp3 => ?_⟩
      have s4 := same_new (o := .lst (e1.map V.int ++ [.int day])) hp3
      have s24 := (s2.trans s3).trans s4
      refine ⟨_, rfl, _, rfl, _, _, rfl, rfl, _, rfl, d, _, rfl, SqL.of (s24 _ _ hd1), fun p4 hp4 => ?_⟩
      have n34 : p3 ≠ p4 := ne_of_none upd_same hp4
      have s5 := same_new (o := .lst (cutV (ds.map V.int) (some (at1 + 1)) none)) hp4
      refine ⟨p3, p4, (e1 ++ [day]).map V.int, e2.map V.int, rfl, rfl, by rw [upd_ne n34, upd_same, List.map_append]; rfl, by rw [upd_same, c2], sz_of (by simp; omega), fun p5 hp5 => ?_⟩
      exact k p5 (e1 ++ [day] ++ e2) _ (((s01.trans s24).trans s5).trans (same_new hp5)) (by rw [upd_same, ← List.map_append]) (by simp; omega)
    rintro σ H4 ⟨rfl, rfl⟩
    refine ⟨fun σ H5 => H5 = H4 ∧ σ = [some (.ref a), some (.int n), some (.ref d), some (.int way), some (.int at1), some (.int day), some (.int far), some (.int side)], ?_, ?_⟩
    · refine ⟨_, rfl, rfl, _, rfl, ?_⟩
      refine ite2 (fun _ => ?_) (fun _ => ⟨rfl, rfl⟩)
      refine ⟨_, rfl, _, rfl, _, rfl, d, _, rfl, SqL.of hd1, fun p1 hp1 => ?_⟩
      have s2 := same_new (o := .lst (cutV (ds.map V.int) none (some at1))) hp1
      refine ⟨_, rfl, _, rfl, _, rfl, far, side, rfl, fun r H6 s6 => ?_⟩
      refine ⟨(by show 3 ≤ sizeLine; decide), fun p6 hp6 => ?_⟩
      have s7 := same_new (o := .lst [V.int (-1), .int 10000, .int r]) hp6
      refine ⟨_, rfl, _, _, rfl, rfl, (by decide : (0 : Int) < 3), ?_⟩
      obtain ⟨z, ez⟩ : ∃ z : Int, atI [V.int (-1), .int 10000, .int r] (day % 3) = some (.int z) := by
        have k3 : day % 3 = 0 ∨ day % 3 = 1 ∨ day % 3 = 2 := by omega
        rcases k3 with e | e | e <;> rw [e]
        · exact ⟨-1, rfl⟩
        · exact ⟨10000, rfl⟩
        · exact ⟨r, rfl⟩
      refine ⟨p6, _, _, _, rfl, rfl, SqL.of upd_same, ez, (by show 1 ≤ sizeLine; decide), fun p2 hp2 => ?_⟩
      have s3 := same_new (o := .lst [V.int z]) hp2
      have s67 := s6.trans s7
      have hp1' := s67 _ _ (show (upd H4 p1 (.lst (cutV (ds.map V.int) none (some at1)))) p1 = _ from upd_same)
      have n12 : p1 ≠ p2 := ne_of_none hp1' hp2
      refine ⟨p1, p2, e1.map V.int, [.int z], rfl, rfl, by rw [upd_ne n12, hp1', c1], upd_same, sz_of (by rw [List.length_map]; simp; omega), fun p3 hp3 => ?_⟩
      have s4 := same_new (o := .lst (e1.map V.int ++ [.int z])) hp3
      have s24 := ((s2.trans s67).trans s3).trans s4
      refine ⟨_, rfl, _, rfl, _, _, rfl, rfl, _, rfl, d, _, rfl, SqL.of (s24 _ _ hd1), fun p4 hp4 => ?_⟩
      have n34 : p3 ≠ p4 := ne_of_none upd_same hp4
      have s5 := same_new (o := .lst (cutV (ds.map V.int) (some (at1 + 1)) none)) hp4
      refine ⟨p3, p4, (e1 ++ [z]).map V.int, e2.map V.int, rfl, rfl, by rw [upd_ne n34, upd_same, List.map_append]; rfl, by rw [upd_same, c2], sz_of (by simp; omega), fun p5 hp5 => ?_⟩
      exact k p5 (e1 ++ [z] ++ e2) _ (((s01.trans s24).trans s5).trans (same_new hp5)) (by rw [upd_same, ← List.map_append]) (by simp; omega)
    rintro σ H5 ⟨rfl, rfl⟩
    exact ⟨_, rfl, k d ds _ s01 hd1 (by omega)⟩

theorem sc_law : FnScope N_law ["_law_script"] (defScope s_law) := ⟨rfl, rfl, rfl, by decide +kernel, rfl, by decide +kernel, by decide +kernel⟩
def sp_law (K : PySem.W.Frag) : Sp := fun vs H Q _ => ∃ (a : Addr) (ns : List Int), vs = [.ref a] ∧ SqL K H a (ns.map V.int) ∧ ns.length ≤ 63 ∧ ∀ H', Q (.bl true) H'
theorem ok_law {f : Addr} {fd : FuncData} (F : FnP K "law" s_law f fd) (T : Txt K mg) (C_way_fault : Own P w K mg base "way_fault" ["many", "ties", "days"] 5 (sp_way_fault K)) (C_lgreat : Own P w K mg base "_law_great" ["_law_script", "_law_k", "_law_most"] 4 (sp_lgreat K)) (C_lkept : Own P w K mg base "_law_kept" ["_law_days", "_law_tie"] 1 (sp_lkept K)) (C_lsame : Own P w K mg base "_law_same" ["_law_told", "_law_due"] 3 (sp_lsame K 2)) (C_lbent : Own P w K mg base "_law_bent" ["_law_script", "_law_k", "_law_days"] 4 (sp_lbent K)) : FnOk P w K mg base CX0 6 f fd ["_law_script"] (sp_law K) := by
  refine F.ok sc_law (fun vs H Q E h => ?_) (fun cdv A outer s H vs Q E hr h => ?_)
  · obtain ⟨a, ns, rfl, _⟩ := h
    rfl
  · obtain ⟨a, ns, rfl, hS, hlen, k⟩ := h
    refine ⟨_, PSs.nox (pss_cons (ps_set (i := 0) sc_law.nd rfl (Or.inl rfl) (pe_slice (slK K) (pv 0) po_none (po_some pe_int)))
          (C8.pss_cut (ps_for PassesOwn.never rfl (pi_range1 (by rfl) T.n_range (pa_cons pe_int pa_nil)) (pg_name (i := 1) sc_law.nd rfl (Or.inl rfl))
            (pss_cons (ps_asg (pe_own C_lgreat (hr.mono (by omega)) (pa_cons (pv 0) (pa_cons (pe_op op_mul pe_int (pv 1)) (pa_cons pe_int pa_nil)))) (pgtK (n := 4) K rfl (pgs_cons (pg_name (i := 2) sc_law.nd rfl (Or.inl rfl)) (pgs_cons (pg_name (i := 3) sc_law.nd rfl (Or.inr rfl)) (pgs_cons (pg_name (i := 4) sc_law.nd rfl (Or.inr rfl)) (pgs_cons (pg_name (i := 5) sc_law.nd rfl (Or.inl rfl)) pgs_nil))))))
              (C8.pss_cut (ps_for PassesOwn.never rfl (pi_range1 (by rfl) T.n_range (pa_cons pe_int pa_nil)) (pg_name (i := 6) sc_law.nd rfl (Or.inl rfl))
                (pss_one (ps_set (i := 4) sc_law.nd rfl (Or.inr rfl) (pe_own C_lbent (hr.mono (by omega)) (pa_cons (pv 0) (pa_cons (pe_op op_add (pe_op op_add pe_int (pe_op op_mul pe_int (pv 1))) (pv 6)) (pa_cons (pv 4) pa_nil)))))))
              (pss_cons (ps_set (i := 7) sc_law.nd rfl (Or.inl rfl) pe_non)
              (pss_cons (ps_setLc (i := 8) (own := [("_law_at", 9)]) rfl sc_law.nd rfl rfl (sw_true rfl rfl rfl (by decide +kernel)) (pi_range1 (by rfl) T.n_range (pa_cons (pe_callB (lenK K) (by rfl) T.n_len (by decide +kernel) (pa_cons (pv 4) pa_nil)) pa_nil)) (blkOk_by (own := [("_law_at", 9)]) (N := N_law) (sc := defScope s_law) (by decide +kernel)) (fun _ _ _ _ _ => by exact (pg_name (i := 9) sc_law.nd rfl (Or.inl rfl))) (fun _ _ _ _ _ => by exact (pts_one (pt_not (pt_chain op_le op_le pe_int (pe_ix (ixl K) (pv 4) (pv 9) (fun _ _ => rfl)) pe_int)))) (fun _ _ _ _ _ => by exact (pv 9)))
              (C8.pss_cut (ps_if (pt_cmpR op_ne (pe_callB (lenK K) (by rfl) T.n_len (by decide +kernel) (pa_cons (pv 4) pa_nil)) (pv 2) (nomark _)) (pss_one (ps_set (i := 7) sc_law.nd rfl (Or.inl rfl) (pe_tup (pa_cons pe_str (pa_cons (pe_callB (lenK K) (by rfl) T.n_len (by decide +kernel) (pa_cons (pv 4) pa_nil)) pa_nil))))) (pss_one (ps_if (pt_cmpR (neDK K hr.units) (pv 8) (pe_lst pa_nil) (nomark _)) (pss_one (ps_set (i := 7) sc_law.nd rfl (Or.inl rfl) (pe_tup (pa_cons pe_str (pa_cons (pe_ix (ixl K) (pv 8) pe_int (fun _ _ => rfl)) pa_nil))))) (pss_cons (ps_setLc (i := 10) (own := [("_law_at", 9)]) rfl sc_law.nd rfl rfl (sw_true rfl rfl rfl (by decide +kernel)) (pi_range1 (by rfl) T.n_range (pa_cons (pe_callB (lenK K) (by rfl) T.n_len (by decide +kernel) (pa_cons (pv 3) pa_nil)) pa_nil)) (blkOk_by (own := [("_law_at", 9)]) (N := N_law) (sc := defScope s_law) (by decide +kernel)) (fun _ _ _ _ _ => by exact (pg_name (i := 9) sc_law.nd rfl (Or.inl rfl))) (fun _ _ _ _ _ => by exact (pts_one (pt_not (pt_val (pe_own C_lkept (hr.mono (by omega)) (pa_cons (pv 4) (pa_cons (pe_ix (ixl K) (pv 3) (pv 9) (fun _ _ => rfl)) pa_nil))))))) (fun _ _ _ _ _ => by exact (pv 9)))
                  (pss_one (ps_set (i := 7) sc_law.nd rfl (Or.inl rfl) (pe_ifExp (pt_cmpR (neDK K hr.units) (pv 10) (pe_lst pa_nil) (nomark _)) (pe_tup (pa_cons pe_str (pa_cons (pe_ix (ixl K) (pv 10) pe_int (fun _ _ => rfl)) pa_nil))) pe_non)))))))
              (pss_cons (ps_set (i := 11) sc_law.nd rfl (Or.inl rfl) (pe_lst (pa_cons (pe_callTy (lstK K) (by rfl) T.n_list (by decide +kernel) (pa_cons (pv 3) pa_nil)) (pa_cons (pe_callTy (lstK K) (by rfl) T.n_list (by decide +kernel) (pa_cons (pv 4) pa_nil)) pa_nil))))
              (pss_one (ps_if (PW.pt (pw_or (pt_not (pt_val (pe_own C_lsame (hr.mono (by omega)) (pa_cons (pe_own C_way_fault (hr.mono (by omega)) (pa_cons (pv 2) (pa_cons (pe_ix (ixl K) (pv 11) pe_int (fun _ _ => rfl)) (pa_cons (pe_ix (ixl K) (pv 11) pe_int (fun _ _ => rfl)) pa_nil)))) (pa_cons (pv 7) pa_nil))))) (pw_or1 (pt_cmpR (neDK K hr.units) (pv 11) (pe_lst (pa_cons (pv 3) (pa_cons (pv 4) pa_nil))) (nomark _))))) (pss_one (ps_ret pe_bl)) pss_nil)))))))))
          (pss_one (ps_ret (pe_cmpR (eqDK K hr.units) (pe_own C_way_fault (hr.mono (by omega)) (pa_cons pe_int (pa_cons (pe_lst pa_nil) (pa_cons (pe_lst pa_nil) pa_nil)))) (pe_tup (pa_cons pe_str (pa_cons pe_int pa_nil))) (nomark _)))))), ?_⟩
    obtain ⟨ns1, cut1, len1⟩ := cut_ints ns none (some 63)
    refine ⟨_, rfl, _, rfl, a, _, rfl, hS, fun b hb => ?_⟩
    rw [cut1]
    refine ⟨fun _ _ => True, ?_, ?_⟩
    · refine ⟨3, rfl, by decide, by decide, for_range (lo := 0) (n := 3) (fun i σ H1 => ∃ v1 v2 v3 v4 v5 v6 v7 v8 v9 v10 v11 : Option V, σ = [some (.ref b), v1, v2, v3, v4, v5, v6, v7, v8, v9, v10, v11] ∧ SqL K H1 b (ns1.map V.int))
        ⟨none, none, none, none, none, none, none, none, none, none, none, rfl, SqL.of upd_same⟩ ?_ (fun _ _ _ => trivial)⟩
      rintro i σ H1 hi ⟨v1, v2, v3, v4, v5, v6, v7, v8, v9, v10, v11, rfl, hS1⟩
      refine ⟨_, rfl, _, rfl, _, _, rfl, rfl, mulL (by decide) (by decide), b, ns1, _, 12, rfl, hS1, by omega, by decide, by decide, fun p l d xs ts ds m bad H2 G => ?_⟩
      refine ⟨p, _, rfl, SqT.of G.tup, rfl, _, _, rfl, _, _, rfl, _, _, rfl, _, _, rfl, rfl, ?_⟩
      have G1 := G.m1
      have G2 := G.m10
      have G3 := G.dl
      have G4 := G.tl
      -- days bent three times
      refine ⟨fun σ H3 => ∃ (d' : Addr) (es : List Int) (w6 : Option V), σ = [some (.ref b), some (.int (0 + (i : Int))), some (.int m), some (.ref l), some (.ref d'), some (.int bad), w6, v7, v8, v9, v10, v11] ∧ Same H2 H3 ∧ H3 d' = some (.lst (es.map V.int)) ∧ es.length ≤ 100, ?_, ?_⟩
      · refine ⟨3, rfl, by decide, by decide, for_range (lo := 0) (n := 3) (fun j σ H3 => ∃ (d' : Addr) (es : List Int) (w6 : Option V), σ = [some (.ref b), some (.int (0 + (i : Int))), some (.int m), some (.ref l), some (.ref d'), some (.int bad), w6, v7, v8, v9, v10, v11] ∧ Same H2 H3 ∧ H3 d' = some (.lst (es.map V.int)) ∧ es.length + 1 ≤ 11 * 2 ^ j)
          ⟨d, ds, v6, rfl, Same.refl _, G.days, by omega⟩ ?_ ?_⟩
        · rintro j σ H3 hj ⟨d', es, w6, rfl, s3, hd', hl'⟩
          have hj3 : 2 ^ j ≤ 4 := by
            have : j = 0 ∨ j = 1 ∨ j = 2 := by omega
            rcases this with rfl | rfl | rfl <;> decide
          refine ⟨_, rfl, _, rfl, _, _, rfl, rfl, mulL (by decide) (by decide), _, _, rfl, rfl, _, rfl, _, _, rfl, rfl, _, rfl, b, d', ns1, es, _, rfl, (G.same.trans s3).seq hS1, by omega, hd', by omega, fun d2 es2 H4 s4 hd2 hl2 => ?_⟩
          exact ⟨d2, es2, _, rfl, s3.trans s4, hd2, by rw [Nat.pow_succ]; omega⟩
        · rintro σ H3 ⟨d', es, w6, rfl, s3, hd', hl'⟩
          exact ⟨d', es, w6, rfl, s3, hd', by omega⟩
      rintro σ H3 ⟨d', es, w6, rfl, s3, hd', hl'⟩
      have lm : (es.map V.int).length = es.length := List.length_map ..
      have hxs := s3 _ _ G.lst
      have hts := G.ties.mono s3
      have htl := hts.length
      -- due = None; wrong
      refine ⟨_, rfl, _, _, rfl, .inl (SqL.of hd'), _, rfl, by omega, by omega, fun D hD => ?_⟩
      refine lc_range (lo := 0) (n := ((es.map V.int).length : Int).toNat) (fun j H4 => Same H3 H4 ∧ H4 D = some (.lst ((places (badDay es) j).map V.int)))
        ⟨same_new hD, upd_same⟩ ?_ ?_
      · rintro j H4 hj ⟨s4, hq⟩
        have hj' : j < es.length := by omega
        obtain ⟨z, hz⟩ : ∃ z, es[j]? = some z := ⟨_, List.getElem?_eq_getElem hj'⟩
        refine ⟨rfl, ?_⟩
        refine t_between (z := z) (fun Q' q => ⟨_, rfl, _, rfl, d', _, _, _, rfl, rfl, SqL.of (s4 _ _ hd'), at_ints_nat (i := j) (by omega) hz, q⟩) ?_
        have eb : badDay es j = !decide (0 ≤ z ∧ z ≤ 9999) := by
          unfold badDay
          rw [getD_of hz]
        refine ite2 (fun c1 => ?_) (fun c1 => ⟨s4, ?_⟩)
        · rw [← eb] at c1
          refine ⟨_, rfl, _, hq, sz_lt (by rw [List.length_map]; have := places_len (badDay es) j; omega), same_mut s4 hD, ?_⟩
          rw [upd_same, places_succ, if_pos c1, List.map_append, Int.zero_add]
          rfl
        · rw [← eb] at c1
          rw [places_succ, if_neg c1]
          exact hq
      rintro H4 ⟨s4, hq⟩
      rw [show ((es.map V.int).length : Int).toNat = es.length by omega] at hq
      have hd4 := s4 _ _ hd'
      have hl4 := s4 _ _ hxs
      have ht4 := hts.mono s4
      have hp4 := places_len (badDay es) es.length
      -- the due fault
      refine ⟨fun σ H5 => ∃ (v : V) (w8 w9 w10 : Option V), σ = [some (.ref b), some (.int (0 + (i : Int))), some (.int m), some (.ref l), some (.ref d'), some (.int bad), w6, some v, w8, w9, w10, v11] ∧ Same H4 H5 ∧ Dp K H5 v (dueD (wfDue m ts es)), ?_, ?_⟩
      · refine ⟨_, rfl, _, _, rfl, .inl (SqL.of hd4), _, rfl, rfl, _, rfl, ?_⟩
        refine ite2 (fun c1 => ?_) (fun c1 => ?_)
        · have hne : (es.length : Int) ≠ m := fun z => by
            rw [decide_eq_true (show V.int ((es.map V.int).length : Int) = V.int m by rw [lm, z])] at c1
            cases c1
          refine ⟨_, rfl, _, _, rfl, .inl (SqL.of hd4), (by show 2 ≤ sizeLine; decide), fun p1 hp1 => ?_⟩
          refine ⟨_, _, _, _, rfl, same_new hp1, ?_⟩
          unfold wfDue
          rw [if_pos hne, ← lm]
          exact dp_int_tup upd_same
        have hm : (es.length : Int) = m := by
          rcases Decidable.em ((es.length : Int) = m) with z | z
          · exact z
          · rw [decide_eq_false (fun q : V.int ((es.map V.int).length : Int) = V.int m => z (by injection q with q; rw [← lm]; exact q))] at c1
            exact absurd rfl c1
        -- wrong != []
        refine ⟨_, rfl, Nat.zero_le _, fun p1 hp1 => ?_⟩
        have s5 := same_new (o := .lst []) hp1
        refine ⟨_, _, dp_ints (SqL.of (s5 _ _ hq)), dp_nil upd_same, shaped_ints _, shaped_ints [], _, rfl, ?_⟩
        rw [show PyData.eqv (intsD (places (badDay es) es.length)) (.list []) = decide (places (badDay es) es.length = []) from eqv_ints_nil _]
        have ph := places_head (badDay es) es.length
        refine ite2 (fun c2 => ?_) (fun c2 => ?_)
        · cases ef : (List.range es.length).find? (badDay es) with
          | none =>
            rw [ef] at ph
            cases ep : places (badDay es) es.length with
            | nil =>
              rw [decide_eq_true ep] at c2
              cases c2
            | cons z zs =>
              rw [ep] at ph
              cases ph
          | some j =>
            rw [ef] at ph
            refine ⟨_, rfl, _, _, _, _, rfl, rfl, SqL.of (s5 _ _ hq), at_head ph, (by show 2 ≤ sizeLine; decide), fun p2 hp2 => ?_⟩
            refine ⟨_, _, _, _, rfl, s5.trans (same_new hp2), ?_⟩
            unfold wfDue
            rw [if_neg (fun z => z hm), ef]
            exact dp_int_tup upd_same
        · have ep : places (badDay es) es.length = [] := by
            cases ep : places (badDay es) es.length with
            | nil => rfl
            | cons z zs =>
              rw [ep] at c2
              exact absurd rfl c2
          have ef : (List.range es.length).find? (badDay es) = none := by
            cases ef : (List.range es.length).find? (badDay es) with
            | none => rfl
            | some j =>
              rw [ef, ep] at ph
              cases ph
          -- broken
          have hl5 := s5 _ _ hl4
          have hd5 := s5 _ _ hd4
          have ht5 := ht4.mono s5
          refine ⟨_, rfl, _, _, rfl, .inl (SqL.of hl5), _, rfl, by omega, by omega, fun D2 hD2 => ?_⟩
          refine lc_range (lo := 0) (n := (xs.length : Int).toNat) (fun j H6 => Same (upd H4 p1 (.lst [])) H6 ∧ H6 D2 = some (.lst ((places (badTie ts es) j).map V.int)))
            ⟨same_new hD2, upd_same⟩ ?_ ?_
          · rintro j H6 hj ⟨s6, hq6⟩
            have hj' : j < xs.length := by omega
            obtain ⟨u, hu⟩ : ∃ u, xs[j]? = some u := ⟨_, List.getElem?_eq_getElem hj'⟩
            obtain ⟨t, ht, hut⟩ := ht5.get hu
            have ok := G.ok t (List.mem_of_getElem? ht)
            refine ⟨rfl, ?_⟩
            refine ⟨_, rfl, _, rfl, _, rfl, l, _, _, _, rfl, rfl, SqL.of (s6 _ _ hl5), at_of (j := j) (by omega) hu, d', u, es, t, rfl, SqL.of (s6 _ _ hd5), hut.mono s6, by rw [hm]; exact ok.2.1, by rw [hm]; exact ok.2.2.2.1, _, rfl, ?_⟩
            have eb : badTie ts es j = !decide (KeptW es t) := by
              unfold badTie
              rw [getD_of ht]
            refine ite2 (fun c3 => ?_) (fun c3 => ⟨s6, ?_⟩)
            · rw [← eb] at c3
              refine ⟨_, rfl, _, hq6, sz_lt (by rw [List.length_map]; have := places_len (badTie ts es) j; omega), same_mut s6 hD2, ?_⟩
              rw [upd_same, places_succ, if_pos c3, List.map_append, Int.zero_add]
              rfl
            · rw [← eb] at c3
              rw [places_succ, if_neg c3]
              exact hq6
          rintro H6 ⟨s6, hq6⟩
          rw [show (xs.length : Int).toNat = ts.length by omega] at hq6
          have ph2 := places_head (badTie ts es) ts.length
          refine ⟨_, rfl, Nat.zero_le _, fun p3 hp3 => ?_⟩
          have s7 := same_new (o := .lst []) hp3
          refine ⟨_, _, dp_ints (SqL.of (s7 _ _ hq6)), dp_nil upd_same, shaped_ints _, shaped_ints [], _, rfl, ?_⟩
          rw [show PyData.eqv (intsD (places (badTie ts es) ts.length)) (.list []) = decide (places (badTie ts es) ts.length = []) from eqv_ints_nil _]
          refine ite2 (fun c3 => ?_) (fun c3 => ?_)
          · cases ef2 : (List.range ts.length).find? (badTie ts es) with
            | none =>
              rw [ef2] at ph2
              cases ep2 : places (badTie ts es) ts.length with
              | nil =>
                rw [decide_eq_true ep2] at c3
                cases c3
              | cons z zs =>
                rw [ep2] at ph2
                cases ph2
            | some j =>
              rw [ef2] at ph2
              refine ⟨_, rfl, _, _, _, _, rfl, rfl, SqL.of (s7 _ _ hq6), at_head ph2, (by show 2 ≤ sizeLine; decide), fun p4 hp4 => ?_⟩
              refine ⟨_, _, _, _, rfl, ((s5.trans s6).trans s7).trans (same_new hp4), ?_⟩
              unfold wfDue
              rw [if_neg (fun z => z hm), ef, ef2]
              exact dp_int_tup upd_same
          · have ef2 : (List.range ts.length).find? (badTie ts es) = none := by
              cases ef2 : (List.range ts.length).find? (badTie ts es) with
              | none => rfl
              | some j =>
                rw [ef2] at ph2
                cases ep2 : places (badTie ts es) ts.length with
                | nil =>
                  rw [ep2] at ph2
                  cases ph2
                | cons z zs =>
                  rw [ep2] at c3
                  exact absurd rfl c3
            refine ⟨_, _, _, _, rfl, (s5.trans s6).trans s7, ?_⟩
            unfold wfDue
            rw [if_neg (fun z => z hm), ef, ef2]
            exact .non
      rintro σ H5 ⟨v, w8, w9, w10, rfl, s5, hv⟩
      have hl5 := s5 _ _ hl4
      have hd5 := s5 _ _ hd4
      have ht5 := ht4.mono s5
      -- handed
      refine ⟨_, rfl, l, _, rfl, .inl (SqL.of hl5), fun l2 hl2 => ?_⟩
      have s6 := same_new (o := .lst xs) hl2
      refine ⟨_, rfl, d', _, rfl, .inl (SqL.of (s6 _ _ hd5)), fun d2 hd2 => ?_⟩
      have s7 := same_new (o := .lst (es.map V.int)) hd2
      have n27 : l2 ≠ d2 := ne_of_none upd_same hd2
      refine ⟨(by show 2 ≤ sizeLine; decide), fun h2 hh2 => ?_⟩
      have s8 := same_new (o := .lst [V.ref l2, .ref d2]) hh2
      have s68 := (s6.trans s7).trans s8
      have hl8 := s8 l2 (.lst xs) (by rw [upd_ne n27, upd_same])
      have hd8 := s8 d2 (.lst (es.map V.int)) upd_same
      obtain ⟨sh1, sh2, sh3⟩ := due_shape m ts es
      refine ⟨_, rfl, _, rfl, h2, _, _, _, rfl, rfl, SqL.of upd_same, rfl, _, rfl, h2, _, _, _, rfl, rfl, SqL.of upd_same, rfl, m, l2, d2, xs, ts, es, rfl, SqL.of hl8, ht5.mono s68, SqL.of hd8, G1, G2, by omega, G.ok, fun v' H9 s9 hv' => ?_⟩
      refine ⟨_, rfl, v', v, dueD (wfDue m ts es), rfl, sh2, sh1, by omega, hv', dp_mono (s68.trans s9) _ _ hv, fun H10 s10 => ?_⟩
      have s810 := s9.trans s10
      refine ⟨_, rfl, ?_⟩
      refine iteF ?_
      refine ⟨_, rfl, _, rfl, _, rfl, (by show 2 ≤ sizeLine; decide), fun q1 hq1 => ?_⟩
      have s11 := s810.trans (same_new (o := .lst [V.ref l, .ref d']) hq1)
      have s611 := s68.trans s11
      have hsh : SeqAt.shaped (.list [tiesD ts, intsD es]) = true := shaped2 (shaped_ties _) (shaped_ints _) (by have := depth_ties ts; omega) (by have := depth_ints es; omega)
      refine ⟨.list [tiesD ts, intsD es], .list [tiesD ts, intsD es], dp_pair (s11 _ _ upd_same) (dp_ties (SqL.of (s11 _ _ hl8)) (ht5.mono s611)) (dp_ints (SqL.of (s11 _ _ hd8))),
        dp_pair upd_same (dp_ties (SqL.of (s611 _ _ hl5)) (ht5.mono s611)) (dp_ints (SqL.of (s611 _ _ hd5))), hsh, hsh, _, rfl, ?_⟩
      rw [eqv_self hsh]
      refine iteF ?_
      exact ⟨_, _, _, _, _, _, _, _, _, _, _, rfl, ((((G.same.trans s3).trans s4).trans s5).trans s611).seq hS1⟩
    · rintro σ H1 _
      refine ⟨Nat.zero_le _, fun p1 hp1 => ⟨Nat.zero_le _, fun p2 hp2 => ?_⟩⟩
      have n12 : p1 ≠ p2 := ne_of_none upd_same hp2
      refine ⟨1, p1, p2, [], [], [], rfl, SqL.of (by rw [upd_ne n12, upd_same]), trivial, SqL.of upd_same, by decide, by decide, by decide, (fun t ht => absurd ht List.not_mem_nil), fun v H2 s2 hv => ?_⟩
      refine ⟨(by show 2 ≤ sizeLine; decide), fun p3 hp3 => ?_⟩
      refine ⟨dueD (wfDue 1 [] []), .tuple [.str "many", .int 0], dp_mono (same_new hp3) _ _ hv, dp_int_tup upd_same, (due_shape 1 [] []).1, (due_shape 1 [] []).1, ?_⟩
      rw [show PyData.eqv (dueD (wfDue 1 [] [])) (.tuple [.str "many", .int 0]) = true from eqv_self (due_shape 1 [] []).1]
      exact k _

end
end K05

namespace K05
open PySem PySem.Spec PyProof.Rows L2 LH
def d_is_day : He.DefD := ⟨("is_day", none), "is_day", "is_day", defArgs s_is_day, defBody s_is_day, defScope s_is_day, [], []⟩
def d_is_one : He.DefD := ⟨("is_one", none), "is_one", "is_one", defArgs s_is_one, defBody s_is_one, defScope s_is_one, [], []⟩
def d_is_tie : He.DefD := ⟨("is_tie", none), "is_tie", "is_tie", defArgs s_is_tie, defBody s_is_tie, defScope s_is_tie, [], []⟩
def d_check_tie : He.DefD := ⟨("check_tie", none), "check_tie", "check_tie", defArgs s_check_tie, defBody s_check_tie, defScope s_check_tie, [], []⟩
def d_check_ties : He.DefD := ⟨("check_ties", none), "check_ties", "check_ties", defArgs s_check_ties, defBody s_check_ties, defScope s_check_ties, [], []⟩
def d_day_of : He.DefD := ⟨("day_of", none), "day_of", "day_of", defArgs s_day_of, defBody s_day_of, defScope s_day_of, [], []⟩
def d_is_kept : He.DefD := ⟨("is_kept", none), "is_kept", "is_kept", defArgs s_is_kept, defBody s_is_kept, defScope s_is_kept, [], []⟩
def d_way_fault : He.DefD := ⟨("way_fault", none), "way_fault", "way_fault", defArgs s_way_fault, defBody s_way_fault, defScope s_way_fault, [], []⟩
def d_lmix : He.DefD := ⟨("_law_mix", none), "_law_mix", "_law_mix", defArgs s_lmix, defBody s_lmix, defScope s_lmix, [], []⟩
def d_lraw : He.DefD := ⟨("_law_raw", none), "_law_raw", "_law_raw", defArgs s_lraw, defBody s_lraw, defScope s_lraw, [], []⟩
def d_ldigits : He.DefD := ⟨("_law_digits", none), "_law_digits", "_law_digits", defArgs s_ldigits, defBody s_ldigits, defScope s_ldigits, [], []⟩
def d_lfar : He.DefD := ⟨("_law_far", none), "_law_far", "_law_far", defArgs s_lfar, defBody s_lfar, defScope s_lfar, [], []⟩
def d_lgreat : He.DefD := ⟨("_law_great", none), "_law_great", "_law_great", defArgs s_lgreat, defBody s_lgreat, defScope s_lgreat, [], []⟩
def d_lkept : He.DefD := ⟨("_law_kept", none), "_law_kept", "_law_kept", defArgs s_lkept, defBody s_lkept, defScope s_lkept, [], []⟩
def d_lsame : He.DefD := ⟨("_law_same", none), "_law_same", "_law_same", defArgs s_lsame, defBody s_lsame, defScope s_lsame, [], []⟩
def d_lbent : He.DefD := ⟨("_law_bent", none), "_law_bent", "_law_bent", defArgs s_lbent, defBody s_lbent, defScope s_lbent, [], []⟩
def d_law : He.DefD := ⟨("law", none), "law", "law", defArgs s_law, defBody s_law, defScope s_law, [], []⟩
def fn : List He.DefD := [d_is_day, d_is_one, d_is_tie, d_check_tie, d_check_ties, d_day_of, d_is_kept, d_way_fault, d_lmix, d_lraw, d_ldigits, d_lfar, d_lgreat, d_lkept, d_lsame, d_lbent, d_law]
def fa : List He.Fa := [.glo "is_day", .glo "is_one", .glo "is_tie", .glo "check_tie", .glo "check_ties", .glo "day_of", .glo "is_kept", .glo "way_fault", .glo "_law_mix", .glo "_law_raw", .glo "_law_digits", .glo "_law_far", .glo "_law_great", .glo "_law_kept", .glo "_law_same", .glo "_law_bent", .glo "law", .free "all", .free "bool", .free "enumerate", .free "int", .free "isinstance", .free "len", .free "list", .free "max", .free "range", .free "str", .free "tuple", .free "zip", .int "BEGINNING" (-1), .int "LAST_DAY" (9999), .int "MOST_LIVES" (10), .int "MOST_TIES" (80)]
abbrev R : PySem.W.OpenRow := PySem.W.OpenLaw.row PySem.Challenge.rw_lifehold_k05_faults_of_ways
abbrev hk : PySem.W.Hook := He.hookD 4 fa fn
def ob (s : PySem.W.SharedT) : He.AlD := He.obsDG 4 fa fn (HandSHeadRun.getT s)
theorem ob_eq (s : PySem.W.SharedT) : ob s = hk.obs s.abs := He.obsDG_eq (HandSHeadRun.getT_eq s)
def loose : List PySem.Str := (["HoldError", "BadCount", "BadTie", "LAST_DAY", "is_day", "BEGINNING", "MOST_LIVES", "MOST_TIES", "is_one", "is_tie", "check_tie", "check_ties", "day_of", "is_kept", "way_fault", "_law_mix", "_law_raw", "_law_digits", "_law_far", "_law_great", "_law_maybe", "_law_kept", "_law_same", "_law_bent"] : List PySem.Str)
theorem run (w : World) : HandSHeadRun.RunEq R (PySem.W.view R.prog [29]) hk ob 3000 loose w := by
  intro os
  kernel_rfl
theorem facts {P : Program} {w : World} {K : PySem.W.Frag} {h : Heap} {mg : Str → Option Value} {f : Addr} (X : K.In h) (G : h.Ns mainGlobals mg) (hfa : mg ("law" : Str) = some (.ref f)) (c : He.SaysD fa fn K) :
    ∃ fd : FuncData, (∀ (s : Shared) (v : Value), BindsTo s fd ⟨[v], []⟩ [("_law_script", v)]) ∧ ∀ base : Heap, K.In base → base.Ns mainGlobals mg → FnOk P w K mg base CX0 6 f fd ["_law_script"] (sp_law K) := by
  obtain ⟨fd_is_day, F_is_day⟩ := c.def_ 0 (d := d_is_day) rfl
  obtain ⟨fd_is_one, F_is_one⟩ := c.def_ 1 (d := d_is_one) rfl
  obtain ⟨fd_is_tie, F_is_tie⟩ := c.def_ 2 (d := d_is_tie) rfl
  obtain ⟨fd_check_tie, F_check_tie⟩ := c.def_ 3 (d := d_check_tie) rfl
  obtain ⟨fd_check_ties, F_check_ties⟩ := c.def_ 4 (d := d_check_ties) rfl
  obtain ⟨fd_day_of, F_day_of⟩ := c.def_ 5 (d := d_day_of) rfl
  obtain ⟨fd_is_kept, F_is_kept⟩ := c.def_ 6 (d := d_is_kept) rfl
  obtain ⟨fd_way_fault, F_way_fault⟩ := c.def_ 7 (d := d_way_fault) rfl
  obtain ⟨fd_lmix, F_lmix⟩ := c.def_ 8 (d := d_lmix) rfl
  obtain ⟨fd_lraw, F_lraw⟩ := c.def_ 9 (d := d_lraw) rfl
  obtain ⟨fd_ldigits, F_ldigits⟩ := c.def_ 10 (d := d_ldigits) rfl
  obtain ⟨fd_lfar, F_lfar⟩ := c.def_ 11 (d := d_lfar) rfl
  obtain ⟨fd_lgreat, F_lgreat⟩ := c.def_ 12 (d := d_lgreat) rfl
  obtain ⟨fd_lkept, F_lkept⟩ := c.def_ 13 (d := d_lkept) rfl
  obtain ⟨fd_lsame, F_lsame⟩ := c.def_ 14 (d := d_lsame) rfl
  obtain ⟨fd_lbent, F_lbent⟩ := c.def_ 15 (d := d_lbent) rfl
  obtain ⟨fd_law, F_law⟩ := c.def_ 16 (d := d_law) rfl
  have T : Txt K mg := ⟨He.free_ok X G (c.fact 17 (f := .free "all") rfl), He.free_ok X G (c.fact 18 (f := .free "bool") rfl), He.free_ok X G (c.fact 19 (f := .free "enumerate") rfl), He.free_ok X G (c.fact 20 (f := .free "int") rfl), He.free_ok X G (c.fact 21 (f := .free "isinstance") rfl), He.free_ok X G (c.fact 22 (f := .free "len") rfl), He.free_ok X G (c.fact 23 (f := .free "list") rfl), He.free_ok X G (c.fact 24 (f := .free "max") rfl), He.free_ok X G (c.fact 25 (f := .free "range") rfl), He.free_ok X G (c.fact 26 (f := .free "str") rfl), He.free_ok X G (c.fact 27 (f := .free "tuple") rfl), He.free_ok X G (c.fact 28 (f := .free "zip") rfl), He.int_ok X G (c.fact 29 (f := .int "BEGINNING" (-1)) rfl), He.int_ok X G (c.fact 30 (f := .int "LAST_DAY" (9999)) rfl), He.int_ok X G (c.fact 31 (f := .int "MOST_LIVES" (10)) rfl), He.int_ok X G (c.fact 32 (f := .int "MOST_TIES" (80)) rfl)⟩
  have e := hfa.symm.trans (He.glo_ok X G (c.fact 16 (f := .glo "law") rfl))
  cases e
  have b := FunD.bindsA (ps := ["_law_script"]) F_law fun _ _ _ _ _ _ us hl => match us, hl with | [_], _ => rfl
  refine ⟨fd_law, fun s v => b s [v] rfl, fun base _ _ => ?_⟩
  have B_is_day : Binds K fd_is_day ["number"] [] := F_is_day.bindsN fun _ _ _ _ _ _ us hl => match us, hl with | [_], _ => rfl
  have g_is_day := He.glo_ok X G (c.fact 0 (f := .glo "is_day") rfl)
  have C_is_day : Own P w K mg base "is_day" ["number"] 1 (sp_is_day) := ⟨_, fd_is_day, ok_is_day F_is_day T , g_is_day, F_is_day.kp, B_is_day⟩
  have B_is_one : Binds K fd_is_one ["many", "one"] [] := F_is_one.bindsN fun _ _ _ _ _ _ us hl => match us, hl with | [_, _], _ => rfl
  have g_is_one := He.glo_ok X G (c.fact 1 (f := .glo "is_one") rfl)
  have C_is_one : Own P w K mg base "is_one" ["many", "one"] 1 (sp_is_one) := ⟨_, fd_is_one, ok_is_one F_is_one T , g_is_one, F_is_one.kp, B_is_one⟩
  have B_is_tie : Binds K fd_is_tie ["many", "tie"] [] := F_is_tie.bindsN fun _ _ _ _ _ _ us hl => match us, hl with | [_, _], _ => rfl
  have g_is_tie := He.glo_ok X G (c.fact 2 (f := .glo "is_tie") rfl)
  have C_is_tie : Own P w K mg base "is_tie" ["many", "tie"] 2 (sp_is_tie K) := ⟨_, fd_is_tie, ok_is_tie F_is_tie T C_is_one, g_is_tie, F_is_tie.kp, B_is_tie⟩
  have B_check_tie : Binds K fd_check_tie ["many", "tie"] [] := F_check_tie.bindsN fun _ _ _ _ _ _ us hl => match us, hl with | [_, _], _ => rfl
  have g_check_tie := He.glo_ok X G (c.fact 3 (f := .glo "check_tie") rfl)
  have C_check_tie : Own P w K mg base "check_tie" ["many", "tie"] 3 (sp_check_tie K) := ⟨_, fd_check_tie, ok_check_tie F_check_tie T C_is_tie, g_check_tie, F_check_tie.kp, B_check_tie⟩
  have B_check_ties : Binds K fd_check_ties ["many", "ties"] [] := F_check_ties.bindsN fun _ _ _ _ _ _ us hl => match us, hl with | [_, _], _ => rfl
  have g_check_ties := He.glo_ok X G (c.fact 4 (f := .glo "check_ties") rfl)
  have C_check_ties : Own P w K mg base "check_ties" ["many", "ties"] 4 (sp_check_ties K) := ⟨_, fd_check_ties, ok_check_ties F_check_ties T C_check_tie, g_check_ties, F_check_ties.kp, B_check_ties⟩
  have B_day_of : Binds K fd_day_of ["days", "one"] [] := F_day_of.bindsN fun _ _ _ _ _ _ us hl => match us, hl with | [_, _], _ => rfl
  have g_day_of := He.glo_ok X G (c.fact 5 (f := .glo "day_of") rfl)
  have C_day_of : Own P w K mg base "day_of" ["days", "one"] 1 (sp_day_of K) := ⟨_, fd_day_of, ok_day_of F_day_of T , g_day_of, F_day_of.kp, B_day_of⟩
  have B_is_kept : Binds K fd_is_kept ["tie", "days"] [] := F_is_kept.bindsN fun _ _ _ _ _ _ us hl => match us, hl with | [_, _], _ => rfl
  have g_is_kept := He.glo_ok X G (c.fact 6 (f := .glo "is_kept") rfl)
  have C_is_kept : Own P w K mg base "is_kept" ["tie", "days"] 2 (sp_is_kept K) := ⟨_, fd_is_kept, ok_is_kept F_is_kept T C_day_of, g_is_kept, F_is_kept.kp, B_is_kept⟩
  have B_way_fault : Binds K fd_way_fault ["many", "ties", "days"] [] := F_way_fault.bindsN fun _ _ _ _ _ _ us hl => match us, hl with | [_, _, _], _ => rfl
  have g_way_fault := He.glo_ok X G (c.fact 7 (f := .glo "way_fault") rfl)
  have C_way_fault : Own P w K mg base "way_fault" ["many", "ties", "days"] 5 (sp_way_fault K) := ⟨_, fd_way_fault, ok_way_fault F_way_fault T C_is_day C_check_ties C_is_kept, g_way_fault, F_way_fault.kp, B_way_fault⟩
  have B_lmix : Binds K fd_lmix ["_law_seed"] [] := F_lmix.bindsN fun _ _ _ _ _ _ us hl => match us, hl with | [_], _ => rfl
  have g_lmix := He.glo_ok X G (c.fact 8 (f := .glo "_law_mix") rfl)
  have C_lmix : Own P w K mg base "_law_mix" ["_law_seed"] 1 (sp_lmix) := ⟨_, fd_lmix, ok_lmix F_lmix T , g_lmix, F_lmix.kp, B_lmix⟩
  have B_lraw : Binds K fd_lraw ["_law_script", "_law_k"] [] := F_lraw.bindsN fun _ _ _ _ _ _ us hl => match us, hl with | [_, _], _ => rfl
  have g_lraw := He.glo_ok X G (c.fact 9 (f := .glo "_law_raw") rfl)
  have C_lraw : Own P w K mg base "_law_raw" ["_law_script", "_law_k"] 2 (sp_lraw K) := ⟨_, fd_lraw, ok_lraw F_lraw T C_lmix, g_lraw, F_lraw.kp, B_lraw⟩
  have B_ldigits : Binds K fd_ldigits ["_law_script", "_law_k", "_law_sizes"] [] := F_ldigits.bindsN fun _ _ _ _ _ _ us hl => match us, hl with | [_, _, _], _ => rfl
  have g_ldigits := He.glo_ok X G (c.fact 10 (f := .glo "_law_digits") rfl)
  have C_ldigits : Own P w K mg base "_law_digits" ["_law_script", "_law_k", "_law_sizes"] 3 (sp_ldigits K) := ⟨_, fd_ldigits, ok_ldigits F_ldigits T C_lraw, g_ldigits, F_ldigits.kp, B_ldigits⟩
  have B_lfar : Binds K fd_lfar ["_law_number", "_law_way"] [] := F_lfar.bindsN fun _ _ _ _ _ _ us hl => match us, hl with | [_, _], _ => rfl
  have g_lfar := He.glo_ok X G (c.fact 11 (f := .glo "_law_far") rfl)
  have C_lfar : Own P w K mg base "_law_far" ["_law_number", "_law_way"] 1 (sp_lfar) := ⟨_, fd_lfar, ok_lfar F_lfar T , g_lfar, F_lfar.kp, B_lfar⟩
  have B_lgreat : Binds K fd_lgreat ["_law_script", "_law_k", "_law_most"] [] := F_lgreat.bindsN fun _ _ _ _ _ _ us hl => match us, hl with | [_, _, _], _ => rfl
  have g_lgreat := He.glo_ok X G (c.fact 12 (f := .glo "_law_great") rfl)
  have C_lgreat : Own P w K mg base "_law_great" ["_law_script", "_law_k", "_law_most"] 4 (sp_lgreat K) := ⟨_, fd_lgreat, ok_lgreat F_lgreat T C_ldigits, g_lgreat, F_lgreat.kp, B_lgreat⟩
  have B_lkept : Binds K fd_lkept ["_law_days", "_law_tie"] [] := F_lkept.bindsN fun _ _ _ _ _ _ us hl => match us, hl with | [_, _], _ => rfl
  have g_lkept := He.glo_ok X G (c.fact 13 (f := .glo "_law_kept") rfl)
  have C_lkept : Own P w K mg base "_law_kept" ["_law_days", "_law_tie"] 1 (sp_lkept K) := ⟨_, fd_lkept, ok_lkept F_lkept T , g_lkept, F_lkept.kp, B_lkept⟩
  have B_lsame : Binds K fd_lsame ["_law_told", "_law_due"] [] := F_lsame.bindsN fun _ _ _ _ _ _ us hl => match us, hl with | [_, _], _ => rfl
  have g_lsame := He.glo_ok X G (c.fact 14 (f := .glo "_law_same") rfl)
  have C0_lsame : Own P w K mg base "_law_same" ["_law_told", "_law_due"] 1 (sp_lsame K 0) := ⟨_, fd_lsame, ok_lsame0 F_lsame, g_lsame, F_lsame.kp, B_lsame⟩
  have C1_lsame : Own P w K mg base "_law_same" ["_law_told", "_law_due"] 2 (sp_lsame K 1) := ⟨_, fd_lsame, ok_lsame F_lsame T 0 C0_lsame, g_lsame, F_lsame.kp, B_lsame⟩
  have C_lsame : Own P w K mg base "_law_same" ["_law_told", "_law_due"] 3 (sp_lsame K 2) := ⟨_, fd_lsame, ok_lsame F_lsame T 1 C1_lsame, g_lsame, F_lsame.kp, B_lsame⟩
  have B_lbent : Binds K fd_lbent ["_law_script", "_law_k", "_law_days"] [] := F_lbent.bindsN fun _ _ _ _ _ _ us hl => match us, hl with | [_, _, _], _ => rfl
  have g_lbent := He.glo_ok X G (c.fact 15 (f := .glo "_law_bent") rfl)
  have C_lbent : Own P w K mg base "_law_bent" ["_law_script", "_law_k", "_law_days"] 4 (sp_lbent K) := ⟨_, fd_lbent, ok_lbent F_lbent T C_ldigits C_lfar, g_lbent, F_lbent.kp, B_lbent⟩
  exact ok_law F_law T C_way_fault C_lgreat C_lkept C_lsame C_lbent
end K05
open PySem PySem.W PySem.Calls PyProof.Rows
set_option maxRecDepth 100000 in
set_option maxHeartbeats 0 in
theorem PySem.Challenge.cw_lifehold_k05_faults_of_ways_holds : PySem.Challenge.rw_lifehold_k05_faults_of_ways.Holds := by
  w_on; o_law
  refine HandSHeadRun.head_any (r := OpenLaw.row PySem.Challenge.rw_lifehold_k05_faults_of_ways) (q := view (OpenLaw.row PySem.Challenge.rw_lifehold_k05_faults_of_ways).prog [29]) (H := K05.hk) (ob := K05.ob) (M := 3000) (loose := K05.loose) (d := HandSHeadRun.topDef (OpenLaw.row PySem.Challenge.rw_lifehold_k05_faults_of_ways).prog 29) (kwd := []) K05.ob_eq
    (by kernel_rfl) (fun s => by kernel_rfl) K05.run (by kernel_rfl) (by kernel_rfl) (by kernel_rfl) (by rfl) (by first | assumption | decide +kernel) (by decide +kernel) ⟨rfl, rfl, rfl, rfl, rfl, by decide +kernel⟩ ?hw ?hc
  case hw => w_witness2
  case hc =>
    refine L2.walk_ofE (l := PySem.Challenge.rw_lifehold_k05_faults_of_ways) (n := 63) (k := 6) (x := "_law_script") (CX := L2.CX0) rfl (by decide) (by kernel_rfl) ⟨rfl, by decide, by decide⟩ ?F (fun _ _ _ _ z => z)
    intro w mg fa h Y G hmg0
    obtain ⟨K, KX, c⟩ := Y
    have hmg : mg ("law" : PySem.Str) = some (.ref fa) := by
      have e : (HandSHeadRun.topDef (OpenLaw.row PySem.Challenge.rw_lifehold_k05_faults_of_ways).prog 29).name = ("law" : PySem.Str) := by kernel_rfl
      rw [← e]
      exact hmg0
    obtain ⟨fd, hb, hF⟩ := K05.facts (P := (PySem.Challenge.rw_lifehold_k05_faults_of_ways).prog) (w := w) KX G hmg c
    exact ⟨K, fd, (K05.sp_law K), KX, hb, fun H a ns hl _ hS => ⟨a, ns, rfl, hS, hl, fun _ => rfl⟩, hF⟩

#print axioms PySem.Challenge.cw_lifehold_k05_faults_of_ways_holds
