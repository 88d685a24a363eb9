import PyProof.Rows.All
import Wide.All
import OpenK.AllK
import Wide.FinOn
import KE.KStateDown
import PyProof.EqAt
import PyProof.EqKinds
import PyProof.TupleCall
import HandS.ForMost
import HandS.Defaults
import HandS.Wide
import HandS.NoneIn
import HandS.IsInst
import HandS.Zip
import HandS.Codes
import HandS.Style
import HandS.Conv
import HandS.Deep
import HandS.Walk
import HandS.Head0
import HandS.Head1
import HandS.Head2
import HandS.HeadEnd
import HandS.HeadHook1
import HandS.HeadHook2
import KE.GoesNew
import HandS.HotCalls
import HandS.ExcIs
import HandS.Comp
import HandS.ExcCtx
import HandS.Text
import HandS.HeadHook3
import HandS.HeadHook4
import HandS.OwnEq
import KE.SortKeyHeap
import HandS.Lambda
import HandS.EndTab
import HandS.HeadWalk
import HandS.SortKw
import HandS.NamedTupGet
import HandS.SortRule
import KE.DatumOrd
import KE.DataMinKey
import PySem.Challenge.RW_lifehold_k18_deaths_in_holding
set_option Elab.async false
set_option linter.all false
set_option maxRecDepth 100000
set_option maxHeartbeats 4000000
/-! own words over the hand layer -/
namespace LH
open PySem PySem.Spec PyProof.Rows L2
abbrev FnP (K : PySem.W.Frag) (x : Str) (st : Stmt) (f : Addr) (fd : FuncData) : Prop := FunD K x x (defArgs st) (defBody st) (defScope st) [] [] f fd
/-- a def of the text that lets nothing out, by its name -/
structure Own (P : Program) (w : World) (K : PySem.W.Frag) (mg : Str → Option Value) (base : Heap) (x : Str) (ps : List Str) (k : Nat) (sp : Sp) : Prop where
  ex : ∃ (f : Addr) (fd : FuncData), FnOk P w K mg base CX0 k f fd ps sp ∧ mg x = some (.ref f) ∧ PySem.W.keepIn K (.ref f) = true ∧ Binds K fd ps []
section
variable {X : Cx}
theorem pe_own {x : Str} {ps : List Str} {k : Nat} {sp : Sp} {e : Expr} {es : List Expr} {p pos : Pos} {t : TA} (C : Own X.prog X.w X.K X.mg X.base x ps k sp) (hr : Room k X.A) (ha : PA X (e :: es) t) (hg : Gl X x := by rfl)
    (hdb : (x == ("__debug__" : Str)) = false := by decide) (he : starEach (e :: es) X.env = (false, eval e X.env) :: starEach es X.env := by rfl) (hpl : (backTo pos (starEach es X.env)).any (·.1) = false := by rfl) :
    PE X (.Call (.Name x p) (e :: es) [] pos) (tCall sp [] E0 t) := by
  obtain ⟨f, fd, F, hm, hk, hb⟩ := C.ex
  exact pe_call F hr hg hm hk hb .nil pass0 ha hdb he hpl
theorem pe_own0 {x : Str} {ps : List Str} {k : Nat} {sp : Sp} {p pos : Pos} (C : Own X.prog X.w X.K X.mg X.base x ps k sp) (hr : Room k X.A) (hg : Gl X x := by rfl)
    (hdb : (x == ("__debug__" : Str)) = false := by decide) : PE X (.Call (.Name x p) [] [] pos) (tCall sp [] E0 tNil) := by
  obtain ⟨f, fd, F, hm, hk, hb⟩ := C.ex
  exact pe_call0 F hr hg hm hk hb .nil pass0 hdb
theorem pe_const {x : Str} {i : Int} {pos : Pos} (h : ∃ t, X.mg x = some (.int i t)) (hg : Gl X x := by rfl) (hd : (x == ("__debug__" : Str)) = false := by decide) : PE X (.Name x pos) (tC (.int i)) := by
  obtain ⟨t, h⟩ := h
  exact pe_glob hg h ⟨_, rfl⟩ hd
end
/-! heaps -/
theorem same_new {H : Hp} {p : Addr} {o : HO} (h : H p = none) : Same H (upd H p o) := fun a u e => by
  rw [upd_ne (ne_of_none e h)]
  exact e
/-- what H does not know may change -/
theorem same_mut {H H' : Hp} {p : Addr} {o : HO} (e : Same H H') (h : H p = none) : Same H (upd H' p o) := fun a u ha => by
  rw [upd_ne (ne_of_none ha h)]
  exact e a u ha
theorem same_free {H H' : Hp} (e : Same H H') {l : Addr} (h : H' l = none) : H l = none := e.free h
theorem same_t {K : PySem.W.Frag} {H H' : Hp} {a : Addr} {xs : List V} (e : Same H H') (h : SqT K H a xs) : SqT K H' a xs := by
  rcases h with (h | ⟨o, h⟩) | h
  · exact .inl (.inl (e _ _ h))
  · exact .inl (.inr ⟨o, e _ _ h⟩)
  · exact .inr h
theorem sz_of {n : Nat} (h : n ≤ 100000) : n ≤ sizeLine := Nat.le_trans h (by decide)
theorem sz_lt {n : Nat} (h : n < 100000) : n < sizeLine := Nat.lt_of_lt_of_le h (by decide)
theorem mulR {i j : Int} (h1 : -(2 ^ 64) < j) (h2 : j < 2 ^ 64) : CMul i j := .inr ⟨h1, h2⟩
theorem mulL {i j : Int} (h1 : -(2 ^ 64) < i) (h2 : i < 2 ^ 64) : CMul i j := .inl ⟨h1, h2⟩
theorem bool_tt (b : Bool) : (b = true) ∨ (b = false) := by cases b <;> simp
theorem get_ints {ns : List Int} {i : Nat} {y : V} (hi : (ns.map V.int)[i]? = some y) : ∃ z, ns[i]? = some z ∧ y = V.int z := by
  rw [List.getElem?_map] at hi
  cases e : ns[i]? with
  | none => rw [e] at hi; cases hi
  | some z => rw [e] at hi; exact ⟨z, rfl, (Option.some.inj hi).symm⟩
/-! the rules that speak of the written part, with that part named -/
section
variable {X : Cx} (K : PySem.W.Frag)
theorem ixl (h : X.K = K := by rfl) : IxR X (rIxL K) := by subst h; exact ix_list
theorem ixt (h : X.K = K := by rfl) : IxR X (rIxT K) := by subst h; exact ix_tup
theorem lenK (h : X.K = K := by rfl) : CallR X (.builtin "len") (fun vs H Q => ∃ p ys, vs = [.ref p] ∧ (SqL K H p ys ∨ SqT K H p ys) ∧ Q (.int ys.length) H) := by subst h; exact call_len_seq
theorem slK (h : X.K = K := by rfl) : SlR X (rSlL K) := by subst h; exact sl_list
theorem allK (hc : X.calm = true) (h : X.K = K := by rfl) : CallR X (.builtin "all") (rAll K) := by subst h; exact cr_all hc
theorem anyK (hc : X.calm = true) (h : X.K = K := by rfl) : CallR X (.builtin "any") (rAny K) := by subst h; exact cr_any hc
theorem sumK (hc : X.calm = true) (h : X.K = K := by rfl) : CallR X (.builtin "sum") (rSum K) := by subst h; exact cr_sum hc
theorem maxK (hc : X.calm = true) (h : X.K = K := by rfl) : CallR X (.builtin "max") (rMax K) := by subst h; exact cr_max hc
theorem minK (hc : X.calm = true) (h : X.K = K := by rfl) : CallR X (.builtin "min") (rMin K) := by subst h; exact cr_min hc
theorem isiK (h : X.K = K := by rfl) : CallR X (.builtin "isinstance") (rIsi K) := by subst h; exact call_isi
theorem lstK (h : X.K = K := by rfl) : CallR X (.type "list") (fun vs H Q => ∃ p ys, vs = [.ref p] ∧ (SqL K H p ys ∨ SqT K H p ys) ∧ ∀ l, H l = none → Q (.ref l) (upd H l (.lst ys))) := by subst h; exact call_list_of
theorem eqDK (hu : X.A.units + 64 < cLine) (h : X.K = K := by rfl) : OpR X (compareOp .Eq) (rEqD K) := by subst h; exact op_eqD hu
theorem neDK (hu : X.A.units + 64 < cLine) (h : X.K = K := by rfl) : OpR X (compareOp .NotEq) (rNeD K) := by subst h; exact op_neD hu
theorem pilK {tg l : Expr} {tl : TE} (hl : PE X l tl) (h : X.K = K := by rfl) : PI X tg l (iList K tl) := by subst h; exact pi_list hl
theorem pitK {tg l : Expr} {tl : TE} (hl : PE X l tl) (h : X.K = K := by rfl) : PI X tg l (iTup K tl) := by subst h; exact pi_tup hl
theorem pgtK {es : List Expr} {k : Nat} {t : TGs} {n : Nat} {pos : Pos} (hc : X.calm = true) (hh : PGs X es t) (h : X.K = K := by rfl) (hn : (assignEach es X.env).length = n := by rfl) (hst : (assignEach es X.env).findIdx? (·.1) = none := by rfl) :
    PG X (.Tuple es k pos) (gTup K n t) := by subst h; exact pg_tup hc hh hn hst
theorem pguK {es : List Expr} {k : Nat} {t : TGs} {n : Nat} {pos : Pos} (hc : X.calm = true) (hh : PGs X es t) (h : X.K = K := by rfl) (hn : (assignEach es X.env).length = n := by rfl) (hst : (assignEach es X.env).findIdx? (·.1) = none := by rfl) :
    PG X (.Tuple es k pos) (gUnl K n t) := by subst h; exact pg_unl hc hh hn hst
theorem inDK (hu : X.A.units + 65 < cLine) (h : X.K = K := by rfl) : OpR X (compareOp .In) (rInD K) := by subst h; exact op_inD hu
theorem notInDK (hu : X.A.units + 65 < cLine) (h : X.K = K := by rfl) : OpR X (compareOp .NotIn) (rNotInD K) := by subst h; exact op_notInD hu
theorem inSK (h : X.K = K := by rfl) : OpR X (compareOp .In) (rIn K false) := by subst h; exact op_in_seq
theorem notInSK (h : X.K = K := by rfl) : OpR X (compareOp .NotIn) (rIn K true) := by subst h; exact op_notIn_seq
end
theorem u65 {k : Nat} {A : Around} (hr : Room k A) : A.units + 65 < cLine := by
  have := hr.un
  omega
end LH

set_option Elab.async false
set_option linter.all false
set_option maxRecDepth 100000
set_option maxHeartbeats 4000000
/-! while an error is handled: walks that end, tuples taken apart -/
namespace LH
open PySem PySem.Spec PyProof.Rows L2 L2H HotX
section
variable {P : Program} {w : World} {A : Around} {E : Value → Shared → Prop} {s : Shared}
/-- StopIteration, made and raised -/
theorem stop_hot {α : Type} {x1 : Addr} {Q : α → Shared → Prop} (hot : HotAt A x1 s.heap)
    (hE : ∀ h' e, (∀ b o, s.heap.get? b = some o → h'.get? b = some o) → (∃ o, h'.get? e = some o ∧ o.cls = .type "StopIteration") → E (.ref e) { s with heap := h' }) :
    wpAny (model P w) A (newExc (.type "StopIteration") [] >>= fun e => (raiseNew e : Sem α)) Q E s := by
  obtain ⟨hh, o1, v1, g1, d1, c1⟩ := hot
  refine wpAny_bind ?_
  simp only [newExc, newTuple]
  refine wpAny_bind (wpAny_newObj_type ?_ (by size_fits))
  refine wpAny_bind (m := firstArgMember _ _) (wpAny_of_eq (a := Value.none) (by first | rfl | (simp only [firstArgMember]; rfl)) ?_)
  refine wpAny_newObj_type ?_ (by size_fits)
  refine raiseNew_hot ⟨hh, o1, v1, Heap.get?_push_of_some _ (Heap.get?_push_of_some _ g1), d1, c1⟩ (Nat.ne_of_lt (Heap.lt_size (Heap.get?_push_of_some _ g1))) (Heap.get?_push_size _ rfl) rfl (by first | (simp; done) | (simp; omega)) ?_
  refine hE _ _ (fun b o e => ?_) ⟨_, Heap.get?_update_self _ (Heap.get?_push_size _ rfl) rfl, rfl⟩
  rw [Heap.get?_update_other _ _ (Nat.ne_of_gt (Heap.lt_size (Heap.get?_push_of_some _ e)))]
  exact Heap.get?_push_of_some _ (Heap.get?_push_of_some _ e)
/-- a list's iterator at its end -/
theorem list_end_hot {it l x1 : Addr} {i : Nat} {items : Array Value} {Q : Value → Shared → Prop} (hot : HotAt A x1 s.heap) (hne : x1 ≠ it) (hit : s.heap.IsListIter it l i) (hl : s.heap.IsList l items) (hx : items[i]? = none)
    (hE : ∀ h' e, Heap.ExtBut it s.heap h' → (∃ o, h'.get? e = some o ∧ o.cls = .type "StopIteration") → E (.ref e) { s with heap := h' }) :
    wpAny (model P w) A (Builtin.SmallTypes.nextOf (.ref it)) Q E s := by
  obtain ⟨oi, gi, ci, di⟩ := id hit
  obtain ⟨ol, gl, _, nl, dl⟩ := hl
  obtain ⟨hh, o1, v1, g1, d1, c1⟩ := hot
  unfold Builtin.SmallTypes.nextOf
  refine wpAny_bind (wpAny_callSpecial?_slot (name := Str.ofString "__next__") hit.typeIs slot_listiter_next (wpAny_call_entry slot_listiter_next hit.typeIs entry_listiter_next ?_ (args_listiter_next _)))
  show wpAny _ _ (field (.ref it) 0 >>= _) _ _ s
  refine wpAny_bind (wpAny_field gi di (x := .ref l) rfl ?_)
  show wpAny _ _ (if (Value.ref l == Value.none) = true then _ else _) _ _ s
  rw [if_neg (show ¬ ((Value.ref l == Value.none) = true) from Bool.false_ne_true)]
  show wpAny _ _ (field (.ref it) 1 >>= _) _ _ s
  refine wpAny_bind (wpAny_field gi di (x := .int i 0) rfl ?_)
  show wpAny _ _ (seqItems? (.ref l) >>= _) _ _ s
  refine wpAny_bind (wpAny_seqItems gl dl ?_)
  simp only [Int.toNat_natCast, hx]
  refine wpAny_bind (wpAny_rule (wpAny_bind (wpAny_setField gi di (by simp) ?_)))
  refine stop_hot (x1 := x1) ⟨hh, o1, v1, ?_, d1, c1⟩ fun h' e k q => hE h' e (fun b o hb g => k b o ?_) q
  · rw [Heap.get?_update_other _ _ (Ne.symm hne)]
    exact g1
  · exact (Heap.SameBut.update ..).extBut b o hb g
/-- a tuple's iterator at its end -/
theorem tuple_end_hot {it t x1 : Addr} {i : Nat} {items : Array Value} {Q : Option Value → Shared → Prop} (hot : HotAt A x1 s.heap) (hne : x1 ≠ it) (hit : IsTupIter s.heap it t i) (ht : IsTup s.heap t items) (hx : items[i]? = none)
    (hQ : ∀ h', Heap.ExtBut it s.heap h' → Q none { s with heap := h' }) : wpAny (model P w) A (pyNext (.ref it)) Q E s := by
  obtain ⟨oi, gi, ci, di⟩ := id hit
  obtain ⟨ol, gl, _, nl, dl⟩ := ht
  obtain ⟨hh, o1, v1, g1, d1, c1⟩ := hot
  unfold pyNext
  refine wpAny_bind (wpAny_attempt (wpAny_callSpecial?_slot (name := Str.ofString "__next__") hit.typeIs slot_tupleiter_next (wpAny_call_entry slot_tupleiter_next hit.typeIs entry_tupleiter_next ?_ (args_tupleiter_next _))))
  show wpAny _ _ (field (.ref it) 0 >>= _) _ _ s
  refine wpAny_bind (wpAny_field gi di (x := .ref t) rfl ?_)
  show wpAny _ _ (if (Value.ref t == Value.none) = true then _ else _) _ _ s
  rw [if_neg (show ¬ ((Value.ref t == Value.none) = true) from Bool.false_ne_true)]
  show wpAny _ _ (field (.ref it) 1 >>= _) _ _ s
  refine wpAny_bind (wpAny_field gi di (x := .int i 0) rfl ?_)
  show wpAny _ _ (seqItems? (.ref t) >>= _) _ _ s
  refine wpAny_bind (wpAny_seqItems gl dl ?_)
  simp only [Int.toNat_natCast, hx]
  refine wpAny_bind (wpAny_rule (wpAny_bind (wpAny_setField gi di (by simp) ?_)))
  refine stop_hot (x1 := x1) ⟨hh, o1, v1, ?_, d1, c1⟩ fun h' e k ⟨oe, ge, ce⟩ => ?_
  · rw [Heap.get?_update_other _ _ (Ne.symm hne)]
    exact g1
  refine wpAny_bind (wpAny_isInstance (T := "StopIteration") (b := true) ⟨oe, ge, ce⟩ isSubtype_stop ?_)
  exact wpAny_pure (hQ _ fun b o hb g => k b o ((Heap.SameBut.update ..).extBut b o hb g))
/-- (a, b, ..) = a tuple -/
theorem unpack_hot {env : Env} {elts : List Expr} {kk : Nat} {pos : Pos} {t x1 : Addr} {items : Array Value} {Q : Unit → Shared → Prop} (hot : HotAt A x1 s.heap) (ht : IsTup s.heap t items)
    (hn : (assignEach elts env).length = items.size) (hst : (assignEach elts env).findIdx? (·.1) = none)
    (h : ∀ h', Heap.ExtBut s.heap.objs.size s.heap h' → wpAny (model P w) A (assignInOrder ((assignEach elts env).map (·.2)) items.toList) Q E { s with heap := h' }) :
    wpAny (model P w) A (assign (.Tuple elts kk pos) env (.ref t)) Q E s := by
  obtain ⟨hh, o1, v1, g1, d1, c1⟩ := hot
  have ntl : t ≠ s.heap.objs.size := by
    obtain ⟨o, g, _⟩ := ht
    exact Nat.ne_of_lt (Heap.lt_size g)
  have n1 : x1 ≠ s.heap.objs.size := Nat.ne_of_lt (Heap.lt_size g1)
  rw [assign_Tuple]
  refine wpAny_bind (wpAny_standAt ?_)
  unfold unpack
  rw [hn, hst]
  refine wpAny_bind (wpAny_holding ?_)
  unfold unpackItems notIterableAtAll
  refine wpAny_bind (wpAny_bind (wpAny_specialOf ht.typeIs slot_tuple_iter.lookup (wpAny_pure ?_)))
  simp only [Bool.false_eq_true, if_false]
  refine wpAny_bind (wpAny_holding (iter_tuple ht ?_))
  refine wpAny_bind (wpAny_holding (draw_tuple ntl items.size 0 _ _ ⟨_, Heap.get?_push_size _ rfl, rfl, rfl⟩ (ht.push _) (by omega) fun h1 i1 b1 => ?_))
  rw [show List.take items.size (List.drop 0 items.toList) = items.toList from by rw [List.drop_zero]; exact List.take_of_length_le (by simp)]
  rw [if_neg (by simp)]
  refine wpAny_bind (wpAny_holding (tuple_end_hot (x1 := x1) ⟨hh, o1, v1, b1.extBut _ _ n1 (Heap.get?_push_of_some _ g1), d1, c1⟩ n1 i1 ((ht.push _).extBut b1.extBut ntl) (by simp) fun h2 k2 => ?_))
  simp only [Option.isSome_none, Bool.false_eq_true, if_false]
  exact wpAny_pure (h h2 fun b o hb e => k2 b o hb (b1.extBut b o hb (Heap.get?_push_of_some _ e)))
end

/-! the handled error stands in every state of a context -/
def HotS (X : Cx) (x1 : Addr) : Prop := ∀ (pins : List (Addr × Obj)) (σ : L2.St) (H : Hp) (s : Shared), L2.Inv X pins σ H s → HotAt X.A x1 s.heap
theorem pg_tupX {X : Cx} {x1 : Addr} {es : List Expr} {k : Nat} {t : TGs} {n : Nat} {pos : Pos} (K : PySem.W.Frag) (hot : HotS X x1) (h : PGs X es t) (hK : X.K = K := by rfl) (hn : (assignEach es X.env).length = n := by rfl) (hst : (assignEach es X.env).findIdx? (·.1) = none := by rfl) :
    PG X (.Tuple es k pos) (gTup K n t) := by
  subst hK
  refine ⟨fun pins s σ H v u Q I r ⟨a, xs, e1, hq, hl, hw⟩ => ?_⟩
  subst e1
  cases r
  obtain ⟨its, rv, ht, _⟩ := I.tuple hq
  refine unpack_hot (hot pins σ H s I) ht (by simp [hn, ← hl, rv.length]) hst fun h' hx => ?_
  exact h.run pins _ σ H xs _ Q (I.kept (t' := s.toks) fun b o e => hx b o (Nat.ne_of_lt (Heap.lt_size e)) e) (by simpa using rv) hw
/-- what is walked while x1 is handled -/
structure TurnX (P : Program) (w : World) (K : PySem.W.Frag) (x1 : Addr) (tg : Expr) (J : It) (fp : List Addr) (it : Addr) (tn : Nat → Heap → Prop) : Prop where
  mem : it ∈ fp
  old : x1 ∉ fp
  obj : ∀ i h, tn i h → ∀ b ∈ fp, ∃ o, h.get? b = some o ∧ ∀ v, o.data ≠ .cell v
  keep : ∀ i h h', tn i h → (∀ b ∈ fp, ∀ o, h.get? b = some o → h'.get? b = some o) → tn i h'
  item : ∀ (X : Cx), X.prog = P → X.w = w → X.K = K → ∀ (i : Nat) (pins : List (Addr × Obj)) (s : Shared) (σ : L2.St) (H : Hp) (E : Value → Shared → Prop), L2.Inv X pins σ H s → HotAt X.A x1 s.heap → (∀ b ∈ fp, FpOk X pins H b) → tn i s.heap → J.go i H →
    wpAny (model P w) X.A (pyNext (.ref it)) (fun r s1 => ∃ u, r = some u ∧
      wpAny (model P w) X.A (letOwnedTupleGo tg (.ref it) u) (fun _ s2 => ∃ x H', L2.Inv X pins σ H' s2 ∧ RelV x u ∧ J.yld i H x H' ∧ tn (i + 1) s2.heap ∧ ∀ b ∈ fp, H' b = none) E s1) E s
  done : ∀ (X : Cx), X.prog = P → X.w = w → X.K = K → ∀ (i : Nat) (pins : List (Addr × Obj)) (s : Shared) (σ : L2.St) (H : Hp) (E : Value → Shared → Prop), L2.Inv X pins σ H s → HotAt X.A x1 s.heap → (∀ b ∈ fp, FpOk X pins H b) → tn i s.heap → J.stop i H →
    wpAny (model P w) X.A (pyNext (.ref it)) (fun r s1 => r = none ∧ L2.Inv X pins σ H s1) E s
  self : ∀ (A : Around) (i : Nat) (s : Shared) (Q : Value → Shared → Prop) (E : Value → Shared → Prop), tn i s.heap → Q (.ref it) s → wpAny (model P w) A (pyIter (.ref it)) Q E s
def PIXE (X : Cx) (x1 : Addr) (pins : List (Addr × Obj)) (σ : L2.St) (tg : Expr) (R : It → Hp → Prop) (itv : Value) (s2 : Shared) : Prop :=
  ∃ (it : Addr) (fp : List Addr) (tn : Nat → Heap → Prop) (J : It) (H' : Hp), itv = .ref it ∧ L2.Inv X pins σ H' s2 ∧ TurnX X.prog X.w X.K x1 tg J fp it tn ∧ tn 0 s2.heap ∧ (∀ b ∈ fp, FpOk X pins H' b) ∧ R J H'
structure PIX (X : Cx) (x1 : Addr) (tg iter : Expr) (wi : TI) : Prop where
  run : ∀ (pins : List (Addr × Obj)) (s : Shared) (σ : L2.St) (H : Hp) (R : It → Hp → Prop), L2.Inv X pins σ H s → wi σ H R →
    wpAny (model X.prog X.w) X.A (eval iter X.env) (fun v s1 => wpAny (model X.prog X.w) X.A (pyIter v) (PIXE X x1 pins σ tg R) X.xe s1) X.xe s
/-- zip of two lists -/
def ItzX (K : PySem.W.Frag) (a b : Addr) : It :=
  ⟨fun i H => ∃ xs ys : List V, SqL K H a xs ∧ SqL K H b ys ∧ i < xs.length ∧ i < ys.length,
    fun i H v H' => ∃ T x y, v = .ref T ∧ H T = none ∧ H' = upd H T (.tup [x, y]) ∧ (∀ xs, SqL K H a xs → xs[i]? = some x) ∧ ∀ ys, SqL K H b ys → ys[i]? = some y,
    fun i H => ∃ xs ys : List V, SqL K H a xs ∧ SqL K H b ys ∧ i = min xs.length ys.length⟩
theorem walk_zipX {K : PySem.W.Frag} {a b : Addr} {xs ys : List V} {n : Nat} (hn : n = min xs.length ys.length) :
    Walk (ItzX K a b) n (fun H => SqL K H a xs ∧ SqL K H b ys) (fun i H v H' => ∃ T x y, v = .ref T ∧ H T = none ∧ H' = upd H T (.tup [x, y]) ∧ xs[i]? = some x ∧ ys[i]? = some y) := by
  subst hn
  constructor
  · intro i H hi q
    exact ⟨xs, ys, q.1, q.2, by omega, by omega⟩
  · intro H q
    exact ⟨xs, ys, q.1, q.2, rfl⟩
  · intro i H v H' _ q y
    obtain ⟨T, x, z, h1, h2, h3, h4, h5⟩ := y
    exact ⟨T, x, z, h1, h2, h3, h4 xs q.1, h5 ys q.2⟩
theorem draws_hot {P : Program} {w : World} {A : Around} {x1 : Addr} {o1 : Obj} {v1 : Array Value} (hh : A.handled = some (.ref x1)) (d1 : o1.data = .fields v1) (c1 : v1[2]? = some .none) (it l : Addr) (hne : l ≠ it) (hx : x1 ≠ it) (items : Array Value) :
    Draws P w A it [it, l, x1] items.size (fun i v => items[i]? = some v) (fun i h => h.IsListIter it l i ∧ h.IsList l items ∧ h.get? x1 = some o1) where
  live := fun _ _ st => let ⟨o, ho, _⟩ := st.1; ⟨o, ho⟩
  frame := fun _ _ _ st hk => ⟨st.1.at fun o e => hk it (by simp) o e, st.2.1.at fun o e => hk l (by simp) o e, hk x1 (by simp) o1 st.2.2⟩
  item := fun i s Q E hi st hQ => by
    refine wpAny_nextOf_list_item st.1 st.2.1 (x := items[i]) (by simp [hi]) fun h' i' b' => ?_
    exact hQ _ h' s.toks (by simp [hi]) ⟨i', st.2.1.extBut b'.extBut hne, b'.extBut _ _ hx st.2.2⟩ b'
  done := fun s Q E st hE => list_end_hot (x1 := x1) ⟨hh, o1, v1, st.2.2, d1, c1⟩ hx st.1 st.2.1 (by simp) hE
abbrev fp2 (N : Addr) : List Addr := [N + 4, N + 2, N + 3, N, N + 1]
def tn2 (N a b : Addr) (i : Nat) (h : Heap) : Prop :=
  IsZip h (N + 4) (N + 2) (N + 3) .none ∧ IsTupOf2 h (N + 2) (.ref N) (.ref (N + 1)) ∧ (∃ a1 a2, IsTupOf2 h (N + 3) a1 a2) ∧ h.IsListIter N a i ∧ h.IsListIter (N + 1) b i
def goes2 {P : Program} {w : World} {A : Around} {elts : List Expr} {kk : Nat} {tpos : Pos} {N a b x1 : Addr} {o1 : Obj} {v1 : Array Value} (hh : A.handled = some (.ref x1)) (d1 : o1.data = .fields v1) (c1 : v1[2]? = some .none) (ha : a < N) (hb : b < N) (hx : x1 < N) (xs ys : Array Value) :=
  GoesN.zip2 (prog := P) (w := w) (A := A) (elts := elts) (x1 := kk) (pos := tpos) (zip_sep2 (N := N) (fp1 := [a, x1]) (fp2 := [b, x1]) (fun x h => by
      rcases List.mem_cons.mp h with h | h
      · rw [h]; exact ha
      · rw [List.mem_singleton.mp h]; exact hx) (fun x h => by
      rcases List.mem_cons.mp h with h | h
      · rw [h]; exact hb
      · rw [List.mem_singleton.mp h]; exact hx))
    (draws_hot (P := P) (w := w) (A := A.in1) (x1 := x1) hh d1 c1 N a (Nat.ne_of_lt ha) (Nat.ne_of_lt hx) xs) (draws_hot (P := P) (w := w) (A := A.in1) (x1 := x1) hh d1 c1 (N + 1) b (Nat.ne_of_lt (Nat.lt_succ_of_lt hb)) (Nat.ne_of_lt (Nat.lt_succ_of_lt hx)) ys)
theorem turn_zipX {P : Program} {w : World} {K : PySem.W.Frag} {elts : List Expr} {kk : Nat} {tpos : Pos} {N a b x1 : Addr} (ha : a < N) (hb : b < N) (hx : x1 < N) :
    TurnX P w K x1 (.Tuple elts kk tpos) (ItzX K a b) (fp2 N) (N + 4) (tn2 N a b) where
  mem := by simp
  old := fun z => by
    have e' : x1 = N + 4 ∨ x1 = N + 2 ∨ x1 = N + 3 ∨ x1 = N ∨ x1 = N + 1 := by simpa using z
    rcases e' with q | q | q | q | q <;> rw [q] at hx
    · exact absurd hx (Nat.not_lt.mpr (Nat.le_add_right _ _))
    · exact absurd hx (Nat.not_lt.mpr (Nat.le_add_right _ _))
    · exact absurd hx (Nat.not_lt.mpr (Nat.le_add_right _ _))
    · exact absurd hx (Nat.lt_irrefl _)
    · exact absurd hx (Nat.not_lt.mpr (Nat.le_add_right _ _))
  obj := fun i h st x hx => by
    obtain ⟨hz, hTI, ⟨a1, a2, hTO⟩, ⟨o1, e1, _, d1⟩, ⟨o2, e2, _, d2⟩⟩ := st
    have e' : x = N + 4 ∨ x = N + 2 ∨ x = N + 3 ∨ x = N ∨ x = N + 1 := by simpa using hx
    rcases e' with q | q | q | q | q
    · rw [q]; exact ⟨_, hz, fun v q => nomatch q⟩
    · rw [q]; exact ⟨_, hTI, fun v q => nomatch q⟩
    · rw [q]; exact ⟨_, hTO, fun v q => nomatch q⟩
    · rw [q]; exact ⟨o1, e1, fun v q => by rw [d1] at q; cases q⟩
    · rw [q]; exact ⟨o2, e2, fun v q => by rw [d2] at q; cases q⟩
  keep := fun i h h' st k => by
    obtain ⟨hz, hTI, ⟨a1, a2, hTO⟩, h1, h2⟩ := st
    exact ⟨k _ (by simp) _ hz, k _ (by simp) _ hTI, ⟨a1, a2, k _ (by simp) _ hTO⟩, h1.at fun o q => k _ (by simp) o q, h2.at fun o q => k _ (by simp) o q⟩
  item := by
    intro X hP hw hK i pins s σ H E I hot hf st hg
    subst hP hw hK
    obtain ⟨hh, o1, v1, g1, d1, c1⟩ := hot
    obtain ⟨hz, hTI, hTO, h1, h2⟩ := id st
    obtain ⟨xs, ys, hqx, hqy, lx, ly⟩ := hg
    obtain ⟨i1, rv1, p1, _⟩ := I.list hqx
    obtain ⟨i2, rv2, p2, _⟩ := I.list hqy
    have l1 := rv1.length
    have l2 := rv2.length
    refine (goes2 hh d1 c1 ha hb hx i1.toArray i2.toArray).goes i s _ E (by simp; omega) ⟨hz, hTI, hTO, ⟨h1, p1.isList, g1⟩, ⟨h2, p2.isList, g1⟩⟩ ?_
    rintro v h' tk ⟨T, x, y, rfl, hT, ex, ey, hTT⟩ ⟨hz', hTI', hTO', h1', h2'⟩ hk _
    obtain ⟨u1, f1, r1⟩ := rv1.get (List.getElem?_eq_getElem lx)
    obtain ⟨u2, f2, r2⟩ := rv2.get (List.getElem?_eq_getElem ly)
    rw [List.getElem?_toArray, f1] at ex
    rw [List.getElem?_toArray, f2] at ey
    cases ex
    cases ey
    have I1 : L2.Inv X pins σ (upd H T (.tup [xs[i], ys[i]])) { s with heap := h', toks := tk } :=
      I.turnedNew (t' := tk) (ch := fp2 N) (fun c o hb q => hk c o (fun q' => hb (by
        have e' : c = N + 4 ∨ c = N + 3 ∨ c = N ∨ c = N + 1 := by simpa using q'
        rcases e' with q | q | q | q <;> simp [q])) q) hf hT ⟨by show 2 ≤ sizeLine; decide, [x, y], .cons r1 (.cons r2 .nil), hTT⟩
    refine ⟨.ref T, _, I1, rfl, ⟨T, _, _, rfl, I.hok.fresh hT, rfl, fun l hl => by rw [I.list_inj hl hqx]; exact List.getElem?_eq_getElem lx, fun l hl => by rw [I.list_inj hl hqy]; exact List.getElem?_eq_getElem ly⟩, ⟨hz', hTI', hTO', h1'.1, h2'.1⟩, fun q hq => ?_⟩
    have hlt : q < s.heap.objs.size := by
      have e' : q = N + 4 ∨ q = N + 2 ∨ q = N + 3 ∨ q = N ∨ q = N + 1 := by simpa using hq
      obtain ⟨a1, a2, hTO⟩ := hTO
      rcases e' with z | z | z | z | z
      · rw [z]; exact Heap.lt_size hz
      · rw [z]; exact Heap.lt_size hTI
      · rw [z]; exact Heap.lt_size hTO
      · rw [z]; obtain ⟨_, e1, _⟩ := h1; exact Heap.lt_size e1
      · rw [z]; obtain ⟨_, e1, _⟩ := h2; exact Heap.lt_size e1
    rw [upd_ne (Nat.ne_of_lt (Nat.lt_of_lt_of_le hlt hT))]
    exact (hf q hq).1
  done := by
    intro X hP hw hK i pins s σ H E I hot hf st hg
    subst hP hw hK
    obtain ⟨hh, o1, v1, g1, d1, c1⟩ := hot
    obtain ⟨hz, hTI, hTO, h1, h2⟩ := id st
    obtain ⟨xs, ys, hqx, hqy, hi⟩ := hg
    obtain ⟨i1, rv1, p1, _⟩ := I.list hqx
    obtain ⟨i2, rv2, p2, _⟩ := I.list hqy
    have l1 := rv1.length
    have l2 := rv2.length
    have e : min i1.toArray.size i2.toArray.size = i := by
      simp only [List.size_toArray]
      omega
    have W := goes2 (P := X.prog) (w := X.w) (elts := elts) (kk := kk) (tpos := tpos) hh d1 c1 ha hb hx i1.toArray i2.toArray
    rw [e] at W
    refine W.stops s _ E ⟨hz, hTI, hTO, ⟨h1, p1.isList, g1⟩, ⟨h2, p2.isList, g1⟩⟩ fun h' tk hk _ => ?_
    exact I.turnedL (t' := tk) (ch := fp2 N) (fun c o hb q => hk c o (fun q' => hb (by
        have e' : c = N + 4 ∨ c = N + 3 ∨ c = N ∨ c = N + 1 := by simpa using q'
        rcases e' with q | q | q | q <;> simp [q])) q) hf
  self := fun A i s Q E st h => wpAny_pyIter_zip st.1 h
def iZipX (K : PySem.W.Frag) (ta : TA) : TI := fun σ H R => ta σ H fun vs H1 => ∃ a b xs ys, vs = [.ref a, .ref b] ∧ SqL K H1 a xs ∧ SqL K H1 b ys ∧ R (ItzX K a b) H1
theorem pi_zipX {X : Cx} {x1 : Addr} {e e2 : Expr} {ta : TA} {p pos tpos : Pos} {elts : List Expr} {kk : Nat} (K : PySem.W.Frag) (hot : HotS X x1) (hg : Gl X "zip") (hm : X.mg "zip" = none) (ha : PA X [e, e2] ta) (hK : X.K = K := by rfl)
    (hs : starEach [e, e2] X.env = (false, eval e X.env) :: starEach [e2] X.env := by rfl) (hpl : (backTo pos (starEach [e2] X.env)).any (·.1) = false := by rfl) :
    PIX X x1 (.Tuple elts kk tpos) (.Call (.Name "zip" p) [e, e2] [] pos) (iZipX K ta) := by
  subst hK
  refine ⟨fun pins s σ H R I h => Call_ (ld_blt I hg hm boot_zip (callWith_type1 (thn (ha.run pos pins s σ H _ I h) fun us s1 ⟨vs, H1, I1, r1, q1⟩ => ?_) hs hpl))⟩
  obtain ⟨a, b, xs, ys, ex, hqx, hqy, q⟩ := q1
  subst ex
  obtain ⟨_, o1, v1, g1, _, _⟩ := hot pins σ H1 s1 I1
  cases r1 with
  | cons r rr =>
    cases rr with
    | cons r' rr =>
      cases rr
      cases r
      cases r'
      obtain ⟨i1, rv1, p1, _⟩ := I1.list hqx
      obtain ⟨i2, rv2, p2, _⟩ := I1.list hqy
      refine zip_begins2 (begins_list a i1.toArray) (begins_list b i2.toArray) p1.isList p2.isList fun h' hz hTI hTO g1' g2' hsz hk => wpAny_pyIter_zip hz ?_
      have I2 : L2.Inv X pins σ H1 { s1 with heap := h' } := I1.kept (t' := s1.toks) hk
      refine ⟨s1.heap.objs.size + 4, fp2 s1.heap.objs.size, tn2 s1.heap.objs.size a b, _, H1, rfl, I2, turn_zipX p1.lt p2.lt (Heap.lt_size g1), ⟨hz, hTI, ⟨_, _, hTO⟩, ⟨_, g1', rfl, rfl⟩, ⟨_, g2', rfl, rfl⟩⟩, fun q hq => ?_, q⟩
      have e' : q = s1.heap.objs.size + 4 ∨ q = s1.heap.objs.size + 2 ∨ q = s1.heap.objs.size + 3 ∨ q = s1.heap.objs.size ∨ q = s1.heap.objs.size + 1 := by simpa using hq
      have hle : s1.heap.objs.size ≤ q := by
        rcases e' with z | z | z | z | z <;> rw [z] <;> first | exact Nat.le_refl _ | exact Nat.le_add_right _ _
      exact I1.fpOk hle (I1.hok.fresh hle)
end LH

set_option Elab.async false
set_option linter.all false
set_option maxRecDepth 100000
set_option maxHeartbeats 4000000
/-! [.. for .. in ..] while an error is handled -/
namespace LH
open PySem PySem.Spec PyProof.Rows L2 L2H HotX
/-- the handled error, as the context's own frames leave it alone -/
structure HotC2 (X : Cx) (x1 : Addr) (o1 : Obj) : Prop where
  hh : X.A.handled = some (.ref x1)
  fl : ∃ v1, o1.data = .fields v1 ∧ v1[2]? = some .none
  at_ : ∀ (pins : List (Addr × Obj)) (σ : L2.St) (H : Hp) (s : Shared), L2.Inv X pins σ H s → s.heap.get? x1 = some o1 ∧ H x1 = none ∧ x1 ∉ frs X.stack
theorem HotC2.hot {X : Cx} {x1 : Addr} {o1 : Obj} (h : HotC2 X x1 o1) : HotS X x1 := fun pins σ H s I => by
  obtain ⟨v1, d1, c1⟩ := h.fl
  exact ⟨h.hh, o1, v1, (h.at_ pins σ H s I).1, d1, c1⟩
/-- within a comprehension's block -/
theorem HotC2.blk {X : Cx} {x1 : Addr} {o1 : Obj} (h : HotC2 X x1 o1) {s : Shared} {H : Hp} {scope : Scope} {ce : Env} {fp : List Addr} (g : s.heap.get? x1 = some o1) (f : H x1 = none) (nf : x1 ∉ frs X.stack) (no : x1 ∉ fp) : HotS (X.blk s H scope ce fp) x1 := fun pins σ H' s' I => by
  obtain ⟨v1, d1, c1⟩ := h.fl
  exact ⟨h.hh, o1, v1, I.base.keep x1 o1 g f nf no, d1, c1⟩
theorem pe_lcX {X : Cx} {x1 : Addr} {o1 : Obj} {elt tg iter : Expr} {ifs : List Expr} {scope : Scope} {own : List (Str × Nat)} {pos : Pos} {wi : TI} {g : TG} {tt : TT} {te : TE} (hot : HotC2 X x1 o1) (hN : X.N.Nodup) (hi : PIX X x1 tg iter wi) (ok : BlkOk X.N X.env.scope scope own)
    (hg : ∀ (s : Shared) (H : Hp) (C : Addr) (cl : List (Str × Addr)) (fp : List Addr), HotS (X.blk s H scope (compEnvC scope cl C X.env) fp) x1 → PG (X.blk s H scope (compEnvC scope cl C X.env) fp) tg g)
    (ht : ∀ (s : Shared) (H : Hp) (C : Addr) (cl : List (Str × Addr)) (fp : List Addr), PTs (X.blk s H scope (compEnvC scope cl C X.env) fp) ifs tt)
    (he : ∀ (s : Shared) (H : Hp) (C : Addr) (cl : List (Str × Addr)) (fp : List Addr), PE (X.blk s H scope (compEnvC scope cl C X.env) fp) elt te) (hs : ∀ x, foldedSetIterable iter X.env x = pure x := by intro _; rfl) :
    PE X (.ListComp elt [⟨tg, iter, ifs, 0⟩] scope pos) (tLc wi g tt te (own.map (·.2))) := by
  refine ⟨fun pins s σ H Q I h => ?_⟩
  rw [eval_ListComp]
  have hfr : ∀ y ∈ scope.names, y.2 = .free → ∃ c, X.env.cells.lookup y.1 = some c := fun y hy e => (ok.free y hy e).elim (fun k => I.ok.has _ (.inl k)) fun k => I.ok.has _ (.inr k)
  refine wpAny_comprehension_free (use := none) rfl hs (closure_ok hfr) ok.kind (fun y hy e => by rw [ok.uniq y hy, e]) (thn (hi.run pins s σ H _ I h) fun xv s1 hx => thn hx fun itv s2 h2 => ?_)
  obtain ⟨it, fp, tn, J, H2, rfl, I2, T, st2, f2, q⟩ := h2
  obtain ⟨gx2, nx2, nfx⟩ := hot.at_ pins σ H2 s2 I2
  refine wpAny_newObj_type (newEnv_comp ?_) (by show 0 ≤ sizeLine; decide)
  obtain ⟨D, hD⟩ : ∃ D, s2.heap.objs.size = D := ⟨_, rfl⟩
  rw [hD]
  have nD : H2 D = none := I2.hok.fresh (Nat.le_of_eq hD)
  obtain ⟨W, ⟨m0, w0⟩, turn⟩ := q D nD
  obtain ⟨s3, hs3⟩ : ∃ s3 : Shared, ({ s2 with heap := s2.heap.push { cls := .type "list", data := .seq ([] : List Value).toArray } } : Shared) = s3 := ⟨_, rfl⟩
  have e3 : s3.heap = s2.heap.push { cls := .type "list", data := .seq ([] : List Value).toArray } := by rw [← hs3]
  have I3 : L2.Inv X pins σ (upd H2 D (.lst [])) s3 := by
    rw [← hs3]
    refine I2.laid (t' := s2.toks) (fun b o e => Heap.get?_push_of_some _ e) (Nat.le_of_eq hD) ⟨Nat.zero_le _, [], 0, .nil, ?_⟩
    rw [← hD]
    exact Heap.get?_push_size _ rfl
  have gx3 : s3.heap.get? x1 = some o1 := by
    rw [e3]
    exact Heap.get?_push_of_some _ gx2
  have nx3 : (upd H2 D (.lst [])) x1 = none := by
    rw [upd_ne (by rw [← hD]; exact Nat.ne_of_lt (Heap.lt_size gx2))]
    exact nx2
  have f3 : ∀ b ∈ fp, FpOk X pins (upd H2 D (.lst [])) b ∧ b < s3.heap.objs.size := fun b hb => by
    obtain ⟨o, e, _⟩ := T.obj _ _ st2 b hb
    have hlt := Heap.lt_size e
    refine ⟨⟨?_, (f2 b hb).2⟩, by rw [e3, Heap.size_push]; exact Nat.lt_succ_of_lt hlt⟩
    rw [upd_ne (by rw [← hD]; exact Nat.ne_of_lt hlt)]
    exact (f2 b hb).1
  have st3 : tn 0 s3.heap := T.keep _ _ _ st2 fun b _ o e => by rw [e3]; exact Heap.get?_push_of_some _ e
  have I4 := block_start I3 ok hN f3
  have hot4 : ∀ ce : Env, HotS (X.blk s3 (upd H2 D (.lst [])) scope ce fp) x1 := fun ce => hot.blk gx3 nx3 nfx T.old
  have pg := hg s3 (upd H2 D (.lst [])) s3.heap.objs.size (cellsFrom (s3.heap.objs.size + 1) scope.names (cloFrom X.env.cells scope.names [])) fp (hot4 _)
  have pt := ht s3 (upd H2 D (.lst [])) s3.heap.objs.size (cellsFrom (s3.heap.objs.size + 1) scope.names (cloFrom X.env.cells scope.names [])) fp
  have pe := he s3 (upd H2 D (.lst [])) s3.heap.objs.size (cellsFrom (s3.heap.objs.size + 1) scope.names (cloFrom X.env.cells scope.names [])) fp
  have n3 : ∀ b ∈ fp, (upd H2 D (.lst [])) b = none := fun b hb => (f3 b hb).1.1
  rw [hs3]
  show codeAny _ _ (.compStart (.ListComp elt [⟨tg, iter, ifs, 0⟩] scope pos) 0 (.ref it) (.ref D) (compEnvC scope (cellsFrom (s3.heap.objs.size + 1) scope.names (cloFrom X.env.cells scope.names [])) s3.heap.objs.size X.env)) _ { s3 with heap := pushCells (s3.heap.push { cls := .type "dict", data := .dict #[] }) scope.names }
  generalize hce : compEnvC scope (cellsFrom (s3.heap.objs.size + 1) scope.names (cloFrom X.env.cells scope.names [])) s3.heap.objs.size X.env = ce at I4 pg pt pe ⊢
  have hL : ce.locals = s3.heap.objs.size := by subst hce; rfl
  have hb4 := hot4 ce
  clear hot4
  generalize upd H2 D (.lst []) = H3 at *
  generalize hs4 : ({ s3 with heap := pushCells (s3.heap.push { cls := .type "dict", data := .dict #[] }) scope.names } : Shared) = s4 at I4 ⊢
  have st4 : tn 0 s4.heap := T.keep _ _ _ st3 fun b _ o e => by rw [← hs4]; exact pushCells_keeps _ _ _ _ (Heap.get?_push_of_some _ e)
  have own_ : ∀ {σ' : L2.St} {H' : Hp} {s' : Shared}, L2.Inv (X.blk s3 H3 scope ce fp) [] σ' H' s' → (∀ b ∈ fp, H' b = none) → ∀ b ∈ fp, FpOk (X.blk s3 H3 scope ce fp) [] H' b := fun {σ' H' s'} I' hn b hb =>
    ⟨hn b hb, (I'.ok.exf b hb).1, I'.ok.exfs b hb, .inl hb, fun x c e => (I'.ok.exf b hb).2 x c e, fun p hp => absurd (show p ∈ ([] : List (Addr × Obj)) ++ [] from hp) (by simp)⟩
  have loop : codeAny (model X.prog X.w) X.A (.compLoop (.ListComp elt [⟨tg, iter, ifs, 0⟩] scope pos) 0 (.ref it) (.ref D) ce) (compPost (model X.prog X.w) X.A X.xe none (EP X pins σ Q) (.ref D) s3.heap.objs.size) s4 := by
    refine compLoop_any (fun n s' => ∃ i H', L2.Inv (X.blk s3 H3 scope ce fp) [] (wipe σ (own.map (·.2))) H' s' ∧ tn i s'.heap ∧ (∀ b ∈ fp, H' b = none) ∧ W i n H') ?_ m0 ⟨0, H3, I4, st4, n3, w0⟩
    rintro n s5 ⟨i, H5, I5, st5, n5, w5⟩
    have hot5 := hb4 _ _ _ _ I5
    rcases turn i n H5 w5 with ⟨stop, qq⟩ | ⟨go, Nx, hNx, step⟩
    · refine thnF (T.done (X.blk s3 H3 scope ce fp) rfl rfl rfl i [] s5 _ H5 (fun _ _ => False) I5 hot5 (own_ I5 n5) st5 stop) fun r s6 ⟨hr, I6⟩ => ?_
      subst hr
      have I7 : L2.Inv X pins σ H5 s6 := I3.call' (ch := fp) I6.os I6.base I6.hok I6.bare fun b hb => ⟨(f3 b hb).1.2.2.2.1, (f3 b hb).1.2.1, (f3 b hb).1.2.2.2.2.1, (f3 b hb).1.2.2.2.2.2⟩
      have nC : H5 s3.heap.objs.size = none := by
        rw [← hL]
        exact I6.free
      obtain ⟨m, hn, _⟩ := I6.loc
      have hn : s6.heap.Ns s3.heap.objs.size m := by
        rw [← hL]
        exact hn
      obtain ⟨c0, c1, _, c3, c4, c5⟩ := I3.fpOk (Nat.le_refl _) nC
      exact ⟨m, hn, fun h'' sb => ⟨.ref D, H5, I7.turned (t' := s6.toks) (fun b o hb e => (sb.2 b hb).trans e) c0 c1 c3 c4 c5, rfl, qq⟩⟩
    · refine thnF (T.item (X.blk s3 H3 scope ce fp) rfl rfl rfl i [] s5 _ H5 (fun _ _ => False) I5 hot5 (own_ I5 n5) st5 go) fun r s6 ⟨u, hr, h6⟩ => ?_
      subst hr
      refine thnF h6 fun _ s7 ⟨x, H7, I7, r7, y7, st7, n7⟩ => ?_
      refine thnF (pg.run _ s7 _ H7 x u _ (I7.pinned (own_ I7 n7) (T.obj _ _ st7)) r7 (step x H7 y7)) fun _ s8 ⟨σ8, H8, I8, hw8, q8⟩ => ?_
      refine thnF (pt.run _ s8 σ8 H8 _ I8 q8) fun b s9 ⟨H9, I9, q9⟩ => ?_
      have next : ∀ {s' : Shared} {H' : Hp}, L2.Inv (X.blk s3 H3 scope ce fp) ([] ++ pinsAt fp s7.heap) σ8 H' s' → Nx H' → ∃ m, m < n ∧ ∃ i H', L2.Inv (X.blk s3 H3 scope ce fp) [] (wipe σ (own.map (·.2))) H' s' ∧ tn i s'.heap ∧ (∀ b ∈ fp, H' b = none) ∧ W i m H' := fun {s' H'} I' nx => by
        obtain ⟨m', hm, w'⟩ := hNx H' nx
        have stay : ∀ b ∈ fp, ∀ o, s7.heap.get? b = some o → s'.heap.get? b = some o ∧ H' b = none := fun b hb o e => by
          have z := I'.pin (b, o) (List.mem_append_right _ (List.mem_append_right _ (mem_pinsAt hb e)))
          exact ⟨z.1, z.2.1⟩
        refine ⟨m', hm, i + 1, H', (I'.unpinned (pins := [])).weak (by rw [← hw8, wipe_length]) (fun j v e => ?_), T.keep _ _ _ st7 fun b hb o e => (stay b hb o e).1, fun b hb => ?_, w'⟩
        · rw [← hw8] at e
          exact (wipe_some e).1
        · obtain ⟨o, e, _⟩ := T.obj _ _ st7 b hb
          exact (stay b hb o e).2
      cases b with
      | false =>
        simp only [Bool.false_eq_true, if_false] at q9 ⊢
        exact next I9 q9
      | true =>
        simp only [if_true] at q9 ⊢
        refine thnF (pe.run _ s9 σ8 H9 _ I9 q9) fun z s10 ⟨yv, H10, I10, r10, acc, hD10, hz10, nx⟩ => ?_
        exact app_ok (X := X.blk s3 H3 scope ce fp) I10 hD10 hz10 r10 fun s11 I11 => next I11 nx
  exact codeAny_compStart_list loop (T.self X.A 0 _ _ _ st4 loop)
end LH

set_option Elab.async false
set_option linter.all false
set_option maxRecDepth 100000
set_option maxHeartbeats 4000000
/-! a def that is handed the error which is handled -/
namespace LH
open PySem PySem.Spec PyProof.Rows L2 L2H HotX
abbrev SpE := Addr → Value → Option Addr → Sp
structure FnE (P : Program) (w : World) (K : PySem.W.Frag) (mg : Str → Option Value) (base : Heap) (k : Nat) (f : Addr) (fd : FuncData) (ps : List Str) (sp : SpE) : Prop where
  len : ∀ a c d vs H Q E, sp a c d vs H Q E → vs.length = ps.length
  run : ∀ (A : Around) (outer : List Env) (s : Shared) (H : Hp) (us : List Value) (vs : List V) (Q : VK) (E : XK) (p : Addr × Obj) (c : Value) (d : Option Addr), RoomH k A → Hot1 A p → PinOk outer H s p → L2N.Zn c d p.2 → Env0 P w K mg base A outer s H → BindsTo s fd ⟨us, []⟩ (ps.zip us) → Vals vs us → sp p.1 c d vs H Q E →
    codeAny (model P w) A (.call (.ref f) ⟨us, []⟩) (CR CX0 outer P w H s Q E) s
section
variable {P : Program} {w : World} {K : PySem.W.Frag} {mg : Str → Option Value} {base : Heap}
theorem okE {x qual : Str} {params : Arguments} {body : List Stmt} {scope : Scope} {dvs : List V} {kws : List (Str × V)} {f : Addr} {fd : FuncData} {N ps : List Str} {k : Nat} {sp : SpE} (F : FunD K x qual params body scope [] [] f fd) (S : FnScope N ps scope) (len : ∀ a c d vs H Q E, sp a c d vs H Q E → vs.length = ps.length)
    (hb : ∀ (cdv : Value) (A : Around) (outer : List Env) (s : Shared) (H : Hp) (vs : List V) (Q : VK) (E : XK) (p : Addr × Obj) (c : Value) (d : Option Addr), Hot1 A p → L2N.Zn c d p.2 → RoomH k (A.deeper (envOfC qual scope s.heap.objs.size f cdv)) → sp p.1 c d vs H Q E →
      ∃ t, PSs (cxH CX0 P w K mg base N qual scope f cdv A outer s H E p) body t ∧ t { nx := fun _ H' => Q .non H', rt := Q } (L2.start N vs) H) : FnE P w K mg base (k + 1) f fd ps sp := by
  obtain ⟨oc, od, dV, kV, doc, pm, an, cdv, ct, osl, rfl, lk, hcd, _, _⟩ := F.ex
  refine ⟨len, fun A outer s H us vs Q E p c d hr hot hpin hz e0 hbd r hsp => ?_⟩
  have kin : K.In s.heap := e0.mod.kin.keeps fun b o e => (e0.bs b o e).1
  have lim : s.heap.NoLimit := e0.mod.nolimit.keeps fun b o e => (e0.bs b o e).1
  have kd : ∀ y ∈ ps.zip us, scope.names.lookup y.1 = some .local ∨ (scope.names.lookup y.1 = some .cell ∧ ((cellsFrom (s.heap.objs.size + 1) scope.names []).lookup y.1).isSome = true) := fun ⟨n, v⟩ hy =>
    (S.par n (List.of_mem_zip hy).1).elim (fun q => .inl q) fun q => .inr ⟨q, PySem.W.cellsFrom_some _ _ _ (.inl q)⟩
  refine codeAny_call_function hr.depth (kin _ _ lk) rfl S.co S.gen rfl (PySem.W.codeRec_of kin hcd) (hbd _ _ _ _ (wpAny_newFunctionEnv_cells S.kind kd fun env he s1 x => ?_))
  subst he
  obtain ⟨t, ht, hq⟩ := hb cdv A outer s H vs Q E p c d hot hz (hr.deeper _) hsp
  refine ⟨lim.keeps x.toInCall.keep, codeAny_func (wpAny_mono (ht.run [] s1 (L2.start N vs) H _ (inv_startH S hpin e0 (len _ _ _ _ _ _ _ hsp) r x) hq) (fun fl s' hs => ?_) fun e s' hs => hs)⟩
  cases fl with
  | ret u =>
    obtain ⟨v, σ', H', J, rv, q⟩ := hs
    exact ⟨v, H', J.os, J.bare, J.base, J.hok, rv, q⟩
  | next =>
    obtain ⟨σ', H', J, q⟩ := hs
    exact ⟨V.non, H', J.os, J.bare, J.base, J.hok, rfl, q⟩
  | brk =>
    obtain ⟨_, _, _, z⟩ := hs
    exact z.elim
  | cont =>
    obtain ⟨_, _, _, z⟩ := hs
    exact z.elim
structure OwnE (P : Program) (w : World) (K : PySem.W.Frag) (mg : Str → Option Value) (base : Heap) (x : Str) (ps : List Str) (k : Nat) (sp : SpE) : Prop where
  ex : ∃ (f : Addr) (fd : FuncData), FnE P w K mg base k f fd ps sp ∧ mg x = some (.ref f) ∧ PySem.W.keepIn K (.ref f) = true ∧ Binds K fd ps []
end
theorem zn_hot {c : Value} {d : Option Addr} {o : Obj} (hz : L2N.Zn c d o) (hf : ∃ vs, o.data = .fields vs) : ∃ vs : Array Value, o.data = .fields vs ∧ vs[2]? = some .none := by
  obtain ⟨vs, e⟩ := hf
  exact ⟨vs, e, hz.2.2 vs e⟩
/-- the call, in the suite -/
def tCallE (sp : SpE) (a : Addr) (c : Value) (d : Option Addr) (t : TA) : TE := fun σ H Q => t σ H fun vs H1 => sp a c d vs H1 Q E0
theorem pe_callE {Y : Cx} {a : Addr} {oe : Obj} {pn : List (Addr × Obj)} {c : Value} {d : Option Addr} {x : Str} {ps : List Str} {k : Nat} {sp : SpE} {e : Expr} {es : List Expr} {p pos : Pos} {t : TA} (C : OwnE Y.prog Y.w Y.K Y.mg Y.base x ps k sp) (hr : RoomH k (Y.suite a ((a, oe) :: pn)).A) (hz : L2N.Zn c d oe) (hf : ∃ vs, oe.data = .fields vs)
    (ha : PA (Y.suite a ((a, oe) :: pn)) (e :: es) t) (hg : Gl (Y.suite a ((a, oe) :: pn)) x := by rfl)
    (hdb : (x == ("__debug__" : Str)) = false := by decide) (he : starEach (e :: es) (Y.suite a ((a, oe) :: pn)).env = (false, eval e (Y.suite a ((a, oe) :: pn)).env) :: starEach es (Y.suite a ((a, oe) :: pn)).env := by rfl) (hpl : (backTo pos (starEach es (Y.suite a ((a, oe) :: pn)).env)).any (·.1) = false := by rfl) :
    PE (Y.suite a ((a, oe) :: pn)) (.Call (.Name x p) (e :: es) [] pos) (tCallE sp a c d t) := by
  obtain ⟨f, fd, F, hm, hk, hb⟩ := C.ex
  refine ⟨fun pins s σ H Q I h => wpAny_Call_Name_kw (ld_glob I hg hm ?_ hdb)⟩
  refine PySem.W.callWith_K (h₀ := Y.base) I.ok.mod.kin hk (thn (ha.run pos pins s σ H _ I h) fun us s1 ⟨vs, H1, I1, r, q⟩ => ⟨I1.kIn, ?_⟩) he hpl
  have hl : us.length = ps.length := by rw [← r.length]; exact F.len _ _ _ _ _ _ _ q
  have b := hb s1 us I1.kIn (by rw [List.append_nil]; exact hl)
  rw [List.append_nil] at b
  obtain ⟨g1, g2, g3, g4, g5⟩ := I1.pin (a, oe) (List.mem_append_left _ List.mem_cons_self)
  refine wpAny_call (codeAny_mono (F.run _ _ s1 H1 us vs Q E0 (a, oe) c d hr ⟨rfl, zn_hot hz hf⟩ ⟨g1, g2, fun hm => (List.mem_cons.mp (I1.stkSub a hm)).elim g3 g4, g5⟩ hz I1.env0 b r q) fun r s' hq => ?_)
  match r, hq with
  | .error _, hq => exact hq.elim
  | .ok (.ret u), hq => exact I1.after hq
  | .ok .next, hq => exact hq.elim
  | .ok .brk, hq => exact hq.elim
  | .ok .cont, hq => exact hq.elim
/-- isinstance(e, c) of the pinned error -/
theorem isP {X : Cx} {p : Addr × Obj} {D : Addr} (K : PySem.W.Frag) (hp : p ∈ X.pn) (C : ExcC X.K D) (hz : L2N.Zn (.ref D) none p.2) (hf : ∃ vs, p.2.data = .fields vs) (hK : X.K = K := by rfl) : CallR X (.builtin "isinstance") (rIsE K D p.1) := by
  subst hK
  intro pins s σ H xs us Q I r ⟨c, cv, b, ex, hcv, e, q⟩
  subst ex
  cases r with
  | cons rx rr =>
    cases rr with
    | cons rt rr =>
      cases rr
      cases rx
      obtain rfl := hcv _ rt
      obtain ⟨hget, _⟩ := I.pin p (List.mem_append_left _ hp)
      obtain ⟨vs, hv⟩ := hf
      have J : PySem.W.InstAt s.heap p.1 p.2 D none := by
        obtain ⟨pa, oc, od, oda, osl⟩ := p
        obtain ⟨h1, h2, _⟩ := hz
        dsimp only at h1 h2 hv hget
        subst h1 h2 hv
        exact ⟨hget, rfl, rfl, trivial⟩
      exact PySem.W.kia_one (PySem.W.handS_kitx_exc C.hg C.hk C.hs C.hd C.ha C.hn C.ht C.hm) I.kIn J e (fun z => nomatch z) fun tk => ⟨.bl b, H, I.kept (t' := tk) fun _ _ z => z, rfl, q⟩
theorem takesN {X : Cx} : L2N.Takes X (fun _ _ _ _ => False) := fun _ _ x => by
  obtain ⟨_, _, _, _, _, _, _, _, _, _, _, _, _, _, _, _, z⟩ := x
  exact z.elim
/-- the handled error in such a def's own context -/
theorem hotH {CX : CXT} {P : Program} {w : World} {K : PySem.W.Frag} {mg : Str → Option Value} {base : Heap} {N : List Str} {qual : Str} {scope : Scope} {f : Addr} {cd : Value} {A : Around} {outer : List Env} {s : Shared} {H : Hp} {E : XK} {p : Addr × Obj} (hot : Hot1 A p) : HotC2 (cxH CX P w K mg base N qual scope f cd A outer s H E p) p.1 p.2 where
  hh := hot.1
  fl := hot.2
  at_ := fun pins σ H' s' I => by
    obtain ⟨g1, g2, g3, g4, g5⟩ := I.pin p (List.mem_append_left _ (List.mem_singleton.mpr rfl))
    exact ⟨g1, g2, fun hm => (List.mem_cons.mp (I.stkSub p.1 hm)).elim g3 g4⟩
/-! the errors' classes -/
def kinNames : List Str := ["BadDay", "BadCount", "BadTie", "CantBe", "BadRow", "BadName", "Taken", "Full", "Twice", "GivenUp", "Held", "Idle", "Against", "BadText", "NoLife", "NoHolding", "NoPresentment", "NoPlace", "Nothing"]
def leBase : List Value := [.type "LookupError", .type "Exception", .type "BaseException", .type "object"]
def upOf (look : Bool) : Str := if look then "Missing" else "HoldError"
structure ErrF (K : PySem.W.Frag) (D : Str) (look : Bool) : Prop where
  exc : ExcC K (He.ga K D)
  kin : ∀ c ∈ kinNames, PySem.W.kitOne K (.ref (He.ga K D)) (.ref (He.ga K c)) = some (decide (c = D))
  ve : PySem.W.kitOne K (.ref (He.ga K D)) (.type "ValueError") = some (!look)
  le : PySem.W.kitOne K (.ref (He.ga K D)) (.type "LookupError") = some look
  nw : PySem.W.excIn K (He.ga K D) (if look then leBase else He.veBase) (if look then "LookupError.__new__" else "ValueError.__new__") = true
  kp : PySem.W.keepIn K (.ref (He.ga K D)) = true
  bs : PySem.W.subIn K (.ref (He.ga K D)) (.type "BaseException") = some true
  ty : PySem.W.typeIn K (.ref (He.ga K D)) = some (.type "type")
  up : PySem.W.exmOne K (.ref (He.ga K D)) (.ref (He.ga K (upOf look))) = some true
  dn : PySem.W.exmOne K (.ref (He.ga K D)) (.ref (He.ga K (upOf (!look)))) = some false
def errB (K : PySem.W.Frag) (D : Str) (look : Bool) : Bool :=
  He.eqO (PySem.W.findIn K (.ref (He.ga K D)) "__getattribute__") (some (some (.builtin "BaseException.__getattribute__"))) &&
  (He.eqO (PySem.W.findIn K (.ref (He.ga K D)) "__getattr__") (some none) &&
  (decide (PySem.W.subIn K (.ref (He.ga K D)) (.type "BaseException") = some true) &&
  (PySem.W.hasDictIn K (He.ga K D) &&
  (He.eqO (PySem.W.findIn K (.ref (He.ga K D)) "__class__") (some (some (.builtin "object.__class__"))) &&
  (He.eqO (PySem.W.specialIn K (.builtin "object.__class__") "__get__") (some (some (.builtin "getset_descriptor.__get__"))) &&
  (decide (PySem.W.takesIn K (.builtin "object.__class__") = some true) &&
  (decide (PySem.W.mroIn K (He.ga K D) (.type "object") = some true) &&
  (kinNames.all (fun c => decide (PySem.W.kitOne K (.ref (He.ga K D)) (.ref (He.ga K c)) = some (decide (c = D)))) &&
  (decide (PySem.W.kitOne K (.ref (He.ga K D)) (.type "ValueError") = some (!look)) &&
  (decide (PySem.W.kitOne K (.ref (He.ga K D)) (.type "LookupError") = some look) &&
  (PySem.W.excIn K (He.ga K D) (if look then leBase else He.veBase) (if look then "LookupError.__new__" else "ValueError.__new__") &&
  (PySem.W.keepIn K (.ref (He.ga K D)) &&
  (decide (PySem.W.typeIn K (.ref (He.ga K D)) = some (.type "type")) &&
  (decide (PySem.W.exmOne K (.ref (He.ga K D)) (.ref (He.ga K (upOf look))) = some true) &&
  decide (PySem.W.exmOne K (.ref (He.ga K D)) (.ref (He.ga K (upOf (!look)))) = some false)))))))))))))))
theorem errB_ok {K : PySem.W.Frag} {D : Str} {look : Bool} (h : errB K D look = true) : ErrF K D look := by
  unfold errB at h
  obtain ⟨a1, h⟩ := He.ba h
  obtain ⟨a2, h⟩ := He.ba h
  obtain ⟨a3, h⟩ := He.ba h
  obtain ⟨a4, h⟩ := He.ba h
  obtain ⟨a5, h⟩ := He.ba h
  obtain ⟨a6, h⟩ := He.ba h
  obtain ⟨a7, h⟩ := He.ba h
  obtain ⟨a8, h⟩ := He.ba h
  obtain ⟨a9, h⟩ := He.ba h
  obtain ⟨b1, h⟩ := He.ba h
  obtain ⟨b2, h⟩ := He.ba h
  obtain ⟨b3, h⟩ := He.ba h
  obtain ⟨b4, h⟩ := He.ba h
  obtain ⟨b5, h⟩ := He.ba h
  obtain ⟨b6, b7⟩ := He.ba h
  exact ⟨⟨He.eqO_ok a1, He.eqO_ok a2, of_decide_eq_true a3, a4, He.eqO_ok a5, He.eqO_ok a6, of_decide_eq_true a7, of_decide_eq_true a8⟩, fun c hc => of_decide_eq_true (List.all_eq_true.mp a9 c hc), of_decide_eq_true b1, of_decide_eq_true b2, b3, b4, of_decide_eq_true a3, of_decide_eq_true b5, of_decide_eq_true b6, of_decide_eq_true b7⟩
/-- what raising alone asks -/
structure ErrW (K : PySem.W.Frag) (D : Str) (look : Bool) : Prop where
  nw : PySem.W.excIn K (He.ga K D) (if look then leBase else He.veBase) (if look then "LookupError.__new__" else "ValueError.__new__") = true
  kp : PySem.W.keepIn K (.ref (He.ga K D)) = true
  bs : PySem.W.subIn K (.ref (He.ga K D)) (.type "BaseException") = some true
  ty : PySem.W.typeIn K (.ref (He.ga K D)) = some (.type "type")
def errWB (K : PySem.W.Frag) (D : Str) (look : Bool) : Bool :=
  PySem.W.excIn K (He.ga K D) (if look then leBase else He.veBase) (if look then "LookupError.__new__" else "ValueError.__new__") &&
  (PySem.W.keepIn K (.ref (He.ga K D)) &&
  (decide (PySem.W.subIn K (.ref (He.ga K D)) (.type "BaseException") = some true) &&
  decide (PySem.W.typeIn K (.ref (He.ga K D)) = some (.type "type"))))
theorem errWB_ok {K : PySem.W.Frag} {D : Str} {look : Bool} (h : errWB K D look = true) : ErrW K D look := by
  unfold errWB at h
  obtain ⟨a1, h⟩ := He.ba h
  obtain ⟨a2, h⟩ := He.ba h
  obtain ⟨a3, a4⟩ := He.ba h
  exact ⟨a1, a2, of_decide_eq_true a3, of_decide_eq_true a4⟩
theorem ErrF.w {K : PySem.W.Frag} {D : Str} {look : Bool} (h : ErrF K D look) : ErrW K D look := ⟨h.nw, h.kp, h.bs, h.ty⟩
/-- a raising def, by its name -/
structure OwnX (P : Program) (w : World) (K : PySem.W.Frag) (mg : Str → Option Value) (base : Heap) (x : Str) (ps : List Str) (k : Nat) (sp : Sp) : Prop where
  ex : ∃ (f : Addr) (fd : FuncData), FnOk P w K mg base (L2N.CX P w) k f fd ps sp ∧ mg x = some (.ref f) ∧ PySem.W.keepIn K (.ref f) = true ∧ Binds K fd ps []
theorem pe_ownX {X : Cx} {W : WX} {x : Str} {ps : List Str} {k : Nat} {sp : Sp} {e : Expr} {es : List Expr} {p pos : Pos} {t : TA} (C : OwnX X.prog X.w X.K X.mg X.base x ps k sp) (hr : Room k X.A) (tk : L2N.Takes X W) (ha : PA X (e :: es) t) (hg : Gl X x := by rfl)
    (hdb : (x == ("__debug__" : Str)) = false := by decide) (he : starEach (e :: es) X.env = (false, eval e X.env) :: starEach es X.env := by rfl) (hpl : (backTo pos (starEach es X.env)).any (·.1) = false := by rfl) :
    PE X (.Call (.Name x p) (e :: es) [] pos) (tCallS sp (WE W) t) := by
  obtain ⟨f, fd, F, hm, hk, hb⟩ := C.ex
  exact pe_callS F hr hg hm hk hb (fun σ => L2N.passAt tk σ) ha hdb he hpl
theorem rise {X : Cx} {D : Str} {look : Bool} {m : Str} {j : Nat} {p p2 pos rp : Pos} {W : WX} (err : ErrW X.K D look) (gD : X.mg D = some (.ref (He.ga X.K D))) (hc : X.calm = true) (tk : L2N.Takes X W) (hg : Gl X D := by rfl) (hdb : (D == ("__debug__" : Str)) = false := by decide) :
    PS X (.Raise (some (.Call (.Name D p) [.Constant (.str m) j p2] [] pos)) none rp) (fun _ σ H => W (.ref (He.ga X.K D)) none σ H) := by
  cases look with
  | true => exact L2N.ps_raise hc tk (L2N.pmk_own PySem.F.excBase_LookupError err.nw gD err.kp (raises_own err.bs err.ty) hg hdb)
  | false => exact L2N.ps_raise hc tk (L2N.pmk_own PySem.F.excBase_ValueError err.nw gD err.kp (raises_own err.bs err.ty) hg hdb)
theorem roomS {k : Nat} {X : Cx} {a : Addr} {pn : List (Addr × Obj)} (hr : Room k X.A) : RoomH k (X.suite a pn).A := ⟨hr.dp, hr.un⟩
theorem is_ref {C : Addr} : ∀ u, RelV (V.ref C) u → u = .ref C := fun _ h => h
theorem is_ty {T : String} : ∀ u, RelV (V.ty T) u → u = .type T := fun _ h => h
def kinW : List Str := kinNames ++ [("odd" : Str)]
def kinF (D : Str) : List Bool := kinNames.map (fun c => decide (c = D)) ++ [false]
theorem kin_end {D : Str} (h : D ∈ kinNames) : (((kinW.zip (kinF D)).filter fun q => q.2).map fun q => q.1) = [D] := by
  simp only [kinNames, List.mem_cons, List.not_mem_nil, or_false] at h
  rcases h with rfl | rfl | rfl | rfl | rfl | rfl | rfl | rfl | rfl | rfl | rfl | rfl | rfl | rfl | rfl | rfl | rfl | rfl | rfl <;> decide +kernel
theorem kin_join {D : Str} (h : D ∈ kinNames) : Txt.join "" [D] = D ∧ D.length ≤ 100 := by
  simp only [kinNames, List.mem_cons, List.not_mem_nil, or_false] at h
  rcases h with rfl | rfl | rfl | rfl | rfl | rfl | rfl | rfl | rfl | rfl | rfl | rfl | rfl | rfl | rfl | rfl | rfl | rfl | rfl <;> decide +kernel
theorem pe_cls {X : Cx} {x : Str} {C : Addr} {pos : Pos} (h : X.mg x = some (.ref C)) (hg : Gl X x := by rfl) (hd : (x == ("__debug__" : Str)) = false := by decide) : PE X (.Name x pos) (tC (.ref C)) := pe_glob (v := .ref C) hg h rfl hd
end LH

set_option Elab.async false
set_option linter.all false
set_option maxRecDepth 100000
set_option maxHeartbeats 4000000
namespace LH
open PySem PySem.Spec PyProof.Rows L2
/-! ties -/
abbrev Tie := Int × Int × Int
def TieAt (H : Hp) (v : V) (t : Tie) : Prop := ∃ p, v = .ref p ∧ H p = some (.tup [.int t.1, .int t.2.1, .int t.2.2])
def TiesAt (H : Hp) : List V → List Tie → Prop
  | [], [] => True
  | v :: vs, t :: ts => TieAt H v t ∧ TiesAt H vs ts
  | _, _ => False
theorem TieAt.mono {H H' : Hp} {v : V} {t : Tie} (e : Same H H') (h : TieAt H v t) : TieAt H' v t := by
  obtain ⟨p, h1, h2⟩ := h
  exact ⟨p, h1, e _ _ h2⟩
theorem TiesAt.mono {H H' : Hp} (e : Same H H') : ∀ {vs : List V} {ts : List Tie}, TiesAt H vs ts → TiesAt H' vs ts
  | [], [], _ => trivial
  | _ :: _, _ :: _, h => ⟨h.1.mono e, TiesAt.mono e h.2⟩
theorem TiesAt.updL {H : Hp} {l : Addr} {o : HO} {zs : List V} (hl : H l = some (.lst zs)) : ∀ {vs : List V} {ts : List Tie}, TiesAt H vs ts → TiesAt (upd H l o) vs ts
  | [], [], _ => trivial
  | _ :: _, _ :: _, h => by
    obtain ⟨⟨p, h1, h2⟩, h3⟩ := h
    exact ⟨⟨p, h1, by rw [upd_ne (ne_of h2 hl (by intro z; cases z))]; exact h2⟩, TiesAt.updL hl h3⟩
theorem TiesAt.length {H : Hp} : ∀ {vs : List V} {ts : List Tie}, TiesAt H vs ts → vs.length = ts.length
  | [], [], _ => rfl
  | _ :: _, _ :: _, h => by simp [TiesAt.length h.2]
theorem TiesAt.app {H : Hp} : ∀ {vs ws : List V} {ts us : List Tie}, TiesAt H vs ts → TiesAt H ws us → TiesAt H (vs ++ ws) (ts ++ us)
  | [], _, [], _, _, h2 => h2
  | _ :: _, _, _ :: _, _, h, h2 => ⟨h.1, TiesAt.app h.2 h2⟩
theorem TiesAt.get {H : Hp} : ∀ {vs : List V} {ts : List Tie} {i : Nat} {v : V}, TiesAt H vs ts → vs[i]? = some v → ∃ t, ts[i]? = some t ∧ TieAt H v t
  | [], [], i, v, _, h2 => by simp at h2
  | v :: vs, t :: ts, 0, w, h, h2 => by
    have e : v = w := Option.some.inj h2
    subst e
    exact ⟨t, rfl, h.1⟩
  | v :: vs, t :: ts, i + 1, w, h, h2 => TiesAt.get (i := i) h.2 h2
theorem TiesAt.get' {H : Hp} {vs : List V} {ts : List Tie} {i : Nat} {t : Tie} (h : TiesAt H vs ts) (h2 : ts[i]? = some t) : ∃ v, vs[i]? = some v ∧ TieAt H v t := by
  have hi : i < vs.length := by
    rw [h.length]
    exact (List.getElem?_eq_some_iff.mp h2).1
  obtain ⟨t', e, q⟩ := h.get (List.getElem?_eq_getElem hi)
  rw [h2] at e
  cases e
  exact ⟨_, List.getElem?_eq_getElem hi, q⟩
theorem TiesAt.set {H : Hp} : ∀ {vs : List V} {ts : List Tie} {i : Nat} {v : V} {t : Tie}, TiesAt H vs ts → TieAt H v t → TiesAt H (vs.set i v) (ts.set i t)
  | [], [], _, _, _, _, _ => trivial
  | _ :: _, _ :: _, 0, _, _, h, h2 => ⟨h2, h.2⟩
  | _ :: _, _ :: _, i + 1, _, _, h, h2 => ⟨h.1, TiesAt.set (i := i) h.2 h2⟩
theorem TiesAt.take {H : Hp} : ∀ {vs : List V} {ts : List Tie} (n : Nat), TiesAt H vs ts → TiesAt H (vs.take n) (ts.take n)
  | [], [], n, _ => by simp [TiesAt]
  | _ :: _, _ :: _, 0, _ => trivial
  | _ :: _, _ :: _, n + 1, h => ⟨h.1, TiesAt.take n h.2⟩
theorem TiesAt.drop {H : Hp} : ∀ {vs : List V} {ts : List Tie} (n : Nat), TiesAt H vs ts → TiesAt H (vs.drop n) (ts.drop n)
  | [], [], n, _ => by simp [TiesAt]
  | _ :: _, _ :: _, 0, h => h
  | _ :: _, _ :: _, n + 1, h => TiesAt.drop n h.2
theorem TiesAt.rep {H : Hp} {vs : List V} {ts : List Tie} (h : TiesAt H vs ts) : ∀ n : Nat, TiesAt H (List.replicate n vs).flatten (List.replicate n ts).flatten
  | 0 => trivial
  | n + 1 => by
    rw [List.replicate_succ, List.replicate_succ, List.flatten_cons, List.flatten_cons]
    exact h.app (TiesAt.rep h n)
/-- a tie for so many lives -/
def TieOk (many : Int) (t : Tie) : Prop := -1 ≤ t.1 ∧ t.1 < many ∧ -1 ≤ t.2.1 ∧ t.2.1 < many ∧ t.1 ≠ t.2.1 ∧ -9999 ≤ t.2.2 ∧ t.2.2 ≤ 9999
instance (many : Int) (t : Tie) : Decidable (TieOk many t) := by unfold TieOk; infer_instance
/-- two ways -/
def Ways (c A B : Prop) : Prop := (c → A) ∧ (¬ c → B)
theorem Ways.yes {c A B : Prop} (h : c) (a : A) : Ways c A B := ⟨fun _ => a, fun z => absurd h z⟩
theorem Ways.no {c A B : Prop} (h : ¬ c) (b : B) : Ways c A B := ⟨fun z => absurd z h, fun _ => b⟩
theorem Ways.or {c A B : Prop} (a : c → A) (b : ¬ c → B) : Ways c A B := ⟨a, b⟩
def CountOk (m : Int) : Prop := 1 ≤ m ∧ m ≤ 10
instance (m : Int) : Decidable (CountOk m) := by unfold CountOk; infer_instance
def TiesOk (m : Int) (ts : List Tie) : Prop := ts.length ≤ 80 ∧ ∀ t ∈ ts, TieOk m t
instance (m : Int) (ts : List Tie) : Decidable (TiesOk m ts) := by unfold TiesOk; infer_instance
def dayOf (ds : List Int) (o : Int) : Int := if o < 0 then 0 else ds.getD o.toNat 0
def KeptW (ds : List Int) (t : Tie) : Prop := t.2.2 ≤ dayOf ds t.1 - dayOf ds t.2.1
instance (ds : List Int) (t : Tie) : Decidable (KeptW ds t) := by unfold KeptW; infer_instance
theorem dayOf_neg {ds : List Int} {o : Int} (h : o < 0) : dayOf ds o = 0 := if_pos h
theorem dayOf_get {ds : List Int} {o z : Int} (h : ¬ o < 0) (e : ds[o.toNat]? = some z) : dayOf ds o = z := by
  unfold dayOf
  rw [if_neg h, List.getD_eq_getElem?_getD, e]
  rfl
theorem at_ints {ds : List Int} {o : Int} (h : ¬ o < 0) (h2 : o < ds.length) : atI (ds.map V.int) o = some (V.int (dayOf ds o)) := by
  obtain ⟨z, e⟩ : ∃ z, ds[o.toNat]? = some z := ⟨_, List.getElem?_eq_getElem (by omega)⟩
  refine at_of (j := o.toNat) (by omega) ?_
  rw [List.getElem?_map, e, dayOf_get h e]
  rfl
/-! data -/
def tieD (t : Tie) : PyData := .tuple [.int t.1, .int t.2.1, .int t.2.2]
def tiesD (ts : List Tie) : PyData := .list (ts.map tieD)
def intsD (ns : List Int) : PyData := .list (ns.map PyData.int)
theorem dpAll_ints {K : PySem.W.Frag} {H : Hp} : ∀ ns : List Int, DpAll K H (ns.map V.int) (ns.map PyData.int)
  | [] => .nil
  | n :: ns => .cons (.int n) (dpAll_ints ns)
theorem dp_ints {K : PySem.W.Frag} {H : Hp} {a : Addr} {ns : List Int} (h : SqL K H a (ns.map V.int)) : Dp K H (.ref a) (intsD ns) := .lst h (dpAll_ints ns)
theorem dp_tie {K : PySem.W.Frag} {H : Hp} {v : V} {t : Tie} (h : TieAt H v t) : Dp K H v (tieD t) := by
  obtain ⟨p, rfl, h2⟩ := h
  exact .tup (SqT.of h2) (.cons (.int _) (.cons (.int _) (.cons (.int _) .nil)))
theorem dpAll_ties {K : PySem.W.Frag} {H : Hp} : ∀ {vs : List V} {ts : List Tie}, TiesAt H vs ts → DpAll K H vs (ts.map tieD)
  | [], [], _ => .nil
  | _ :: _, _ :: _, h => .cons (dp_tie h.1) (dpAll_ties h.2)
theorem dp_ties {K : PySem.W.Frag} {H : Hp} {a : Addr} {vs : List V} {ts : List Tie} (h : SqL K H a vs) (h2 : TiesAt H vs ts) : Dp K H (.ref a) (tiesD ts) := .lst h (dpAll_ties h2)
theorem lay_ints : ∀ ns : List Int, PyData.canLayAll0 (ns.map PyData.int) = true ∧ PyData.depthAll (ns.map PyData.int) = 0
  | [] => ⟨rfl, rfl⟩
  | n :: ns => by
    obtain ⟨h1, h2⟩ := lay_ints ns
    constructor
    · simp [PyData.canLayAll0, PyData.canLay0, h1]
    · simp [PyData.depthAll, PyData.depth, h2]
theorem lay_ties : ∀ ts : List Tie, PyData.canLayAll0 (ts.map tieD) = true ∧ PyData.depthAll (ts.map tieD) ≤ 1
  | [] => ⟨rfl, Nat.zero_le _⟩
  | n :: ns => by
    obtain ⟨h1, h2⟩ := lay_ties ns
    constructor
    · simp [PyData.canLayAll0, PyData.canLay0, h1, tieD]
    · simp [PyData.depthAll, PyData.depth, tieD]
      omega
theorem shaped_ints (ns : List Int) : SeqAt.shaped (intsD ns) = true := by
  obtain ⟨h1, h2⟩ := lay_ints ns
  simp [SeqAt.shaped, intsD, PyData.canLay0, PyData.depth, h1, h2]
theorem shaped_ties (ts : List Tie) : SeqAt.shaped (tiesD ts) = true := by
  obtain ⟨h1, h2⟩ := lay_ties ts
  simp [SeqAt.shaped, tiesD, PyData.canLay0, PyData.depth, h1]
  omega
theorem eqv_self {d : PyData} (h : SeqAt.shaped d = true) : PyData.eqv d d = true := SeqAt.eqv_refl d (SeqAt.canLay_of_shaped h)
theorem eqv_ints_nil (ns : List Int) : PyData.eqv (intsD ns) (.list []) = decide (ns = []) := by
  cases ns with
  | nil => rfl
  | cons n ns => simp [intsD, PyData.eqv, PyData.eqvAll]
theorem eqv_ties_nil (ts : List Tie) : PyData.eqv (tiesD ts) (.list []) = decide (ts = []) := by
  cases ts with
  | nil => rfl
  | cons n ns => simp [tiesD, PyData.eqv, PyData.eqvAll]
theorem dp_nil {K : PySem.W.Frag} {H : Hp} {a : Addr} (h : H a = some (.lst [])) : Dp K H (.ref a) (.list []) := .lst (SqL.of h) .nil
/-! isinstance -/
def tyN : PyData → String
  | .none => "NoneType" | .bool _ => "bool" | .int _ => "int" | .str _ => "str" | .list _ => "list" | .tuple _ => "tuple" | .dict _ => "dict"
theorem tyX_of {K : PySem.W.Frag} {H : Hp} {v : V} {d : PyData} (h : Dp K H v d) : TyX K H v (.type (tyN d)) := by
  cases h with
  | non => exact .base .non
  | bl b => exact .base (.bl b)
  | int i => exact .base (.int i)
  | str x => exact .base (.str x)
  | lst h _ =>
    rcases h with (h | ⟨o, h⟩) | ⟨o, its, n, h1, h2, _⟩
    · exact .base (.lst h)
    · exact .base (.frz h)
    · exact .kList h1 h2
  | tup h _ =>
    rcases h with (h | ⟨o, h⟩) | ⟨o, its, n, h1, h2, _⟩
    · exact .base (.tup h)
    · exact .fTuple h
    · exact .kTuple h1 h2
def isI (d : PyData) (c : String) : Bool := (kitB (tyN d) c).getD false
theorem kit_is {K : PySem.W.Frag} (d : PyData) {c : String} (hc : c = "list" ∨ c = "tuple" ∨ c = "bool" ∨ c = "int" ∨ c = "str") : PySem.W.kitOne K (.type (tyN d)) (.type c) = some (isI d c) := by
  refine kit_ty ?_
  unfold isI
  rcases hc with rfl | rfl | rfl | rfl | rfl <;> cases d <;> simp only [tyN] <;> decide +kernel
mutual
theorem dp_mono {K : PySem.W.Frag} {H H' : Hp} (e : Same H H') : ∀ (d : PyData) (v : V), Dp K H v d → Dp K H' v d
  | .none, _, h => by cases h; exact .non
  | .bool b, _, h => by cases h; exact .bl b
  | .int i, _, h => by cases h; exact .int i
  | .str x, _, h => by cases h; exact .str x
  | .list ds, _, h => by
    cases h with
    | lst h q => exact .lst (e.seq h) (dp_monoAll e ds _ q)
  | .tuple ds, _, h => by
    cases h with
    | tup h q => exact .tup (same_t e h) (dp_monoAll e ds _ q)
  | .dict _, _, h => by cases h
theorem dp_monoAll {K : PySem.W.Frag} {H H' : Hp} (e : Same H H') : ∀ (ds : List PyData) (vs : List V), DpAll K H vs ds → DpAll K H' vs ds
  | [], _, h => by cases h; exact .nil
  | d :: ds, _, h => by
    cases h with
    | cons h q => exact .cons (dp_mono e d _ h) (dp_monoAll e ds _ q)
end
theorem dpAll_get {K : PySem.W.Frag} {H : Hp} : ∀ {vs : List V} {ds : List PyData} {i : Nat} {v : V}, DpAll K H vs ds → vs[i]? = some v → ∃ d, ds[i]? = some d ∧ Dp K H v d
  | [], _, i, v, h, h2 => by simp at h2
  | w :: vs, _, 0, v, h, h2 => by
    cases h with
    | cons h q =>
      have e : w = v := Option.some.inj h2
      subst e
      exact ⟨_, rfl, h⟩
  | w :: vs, _, i + 1, v, h, h2 => by
    cases h with
    | cons h q => exact dpAll_get (i := i) q h2
theorem dpAll_len {K : PySem.W.Frag} {H : Hp} : ∀ {vs : List V} {ds : List PyData}, DpAll K H vs ds → vs.length = ds.length
  | [], _, h => by cases h; rfl
  | w :: vs, _, h => by
    cases h with
    | cons h q => simp [dpAll_len q]
end LH
namespace LH
open PySem PySem.Spec PyProof.Rows L2
theorem iteD {c A B : Prop} [Decidable c] (hc : c) (h : A) : if decide c = true then A else B := by
  rw [decide_eq_true hc]
  exact iteT h
theorem iteDF {c A B : Prop} [Decidable c] (hc : ¬ c) (h : B) : if decide c = true then A else B := by
  rw [decide_eq_false hc]
  exact iteF h
theorem iteB {b : Bool} {A B : Prop} (hb : b = true) (h : A) : if b = true then A else B := by
  rw [hb]
  exact iteT h
theorem iteBF {b : Bool} {A B : Prop} (hb : b = false) (h : B) : if b = true then A else B := by
  rw [hb]
  exact iteF h
/-- zip of two tuples, walked -/
theorem walk_zipT {K : PySem.W.Frag} {a b : Addr} {xs ys : List V} {n : Nat} (hn : n = min xs.length ys.length) :
    Walk (RZ.ItzT K a b) n (fun H => SqT K H a xs ∧ SqT K H b ys) (YPair (fun i => xs[i]?) (fun i => ys[i]?)) := by
  subst hn
  constructor
  · intro i H hi q
    have h1 : i < xs.length := by omega
    have h2 : i < ys.length := by omega
    exact ⟨xs, ys, xs[i], ys[i], q.1, q.2, by simp [h1], by simp [h2]⟩
  · intro H q
    exact ⟨xs, ys, q.1, q.2, by omega⟩
  · intro i H v H' _ q y
    obtain ⟨T, x, z, h1, h2, h3, h4, h5⟩ := y
    exact ⟨T, x, z, h1, h2, h3, h4 xs q.1, h5 ys q.2⟩
theorem isI_list (d : PyData) : isI d "list" = (match d with | .list _ => true | _ => false) := by
  unfold isI
  cases d <;> simp only [tyN] <;> decide +kernel
theorem isI_tuple (d : PyData) : isI d "tuple" = (match d with | .tuple _ => true | _ => false) := by
  unfold isI
  cases d <;> simp only [tyN] <;> decide +kernel
theorem isI_bool (d : PyData) : isI d "bool" = (match d with | .bool _ => true | _ => false) := by
  unfold isI
  cases d <;> simp only [tyN] <;> decide +kernel
theorem isI_int (d : PyData) : isI d "int" = (match d with | .bool _ => true | .int _ => true | _ => false) := by
  unfold isI
  cases d <;> simp only [tyN] <;> decide +kernel
theorem depthAll_get : ∀ {ds : List PyData} {i : Nat} {d : PyData}, ds[i]? = some d → d.depth ≤ PyData.depthAll ds
  | [], i, d, h => by simp at h
  | e :: ds, 0, d, h => by
    have q : e = d := Option.some.inj h
    subst q
    simp only [PyData.depthAll]
    omega
  | e :: ds, i + 1, d, h => by
    have := depthAll_get (ds := ds) (i := i) (d := d) h
    simp only [PyData.depthAll]
    omega
theorem canLayAll_get : ∀ {ds : List PyData} {i : Nat} {d : PyData}, PyData.canLayAll0 ds = true → ds[i]? = some d → d.canLay0 = true
  | [], i, d, _, h => by simp at h
  | e :: ds, 0, d, h0, h => by
    have q : e = d := Option.some.inj h
    subst q
    simp only [PyData.canLayAll0, Bool.and_eq_true] at h0
    exact h0.1
  | e :: ds, i + 1, d, h0, h => by
    simp only [PyData.canLayAll0, Bool.and_eq_true] at h0
    exact canLayAll_get (ds := ds) (i := i) (d := d) h0.2 h
theorem shaped_mk {d : PyData} (h : d.canLay0 = true) (h2 : d.depth ≤ 64) : SeqAt.shaped d = true := by
  unfold SeqAt.shaped
  rw [h, decide_eq_true h2]
  rfl
mutual
/-- a bound on the lengths within -/
def sizeD : PyData → Nat
  | .list ds => ds.length + sizeAll ds
  | .tuple ds => ds.length + sizeAll ds
  | .none => 0
  | .bool _ => 0
  | .int _ => 0
  | .str _ => 0
  | .dict _ => 0
def sizeAll : List PyData → Nat
  | [] => 0
  | d :: ds => sizeD d + sizeAll ds
end
theorem sizeAll_get : ∀ {ds : List PyData} {i : Nat} {d : PyData}, ds[i]? = some d → sizeD d ≤ sizeAll ds
  | [], i, d, h => by simp at h
  | e :: ds, 0, d, h => by
    have q : e = d := Option.some.inj h
    subst q
    simp only [sizeAll]
    omega
  | e :: ds, i + 1, d, h => by
    have := sizeAll_get (ds := ds) (i := i) (d := d) h
    simp only [sizeAll]
    omega
/-- 0 if o < 0 else days[o] -/
theorem if_day {K : PySem.W.Frag} {ds : List Int} {a : Addr} {o : Int} {i j : Nat} {σ : L2.St} {H : Hp} {Q : VK} (hS : SqL K H a (ds.map V.int)) (hi : σ[i]? = some (some (.int o))) (hj : σ[j]? = some (some (.ref a))) (ho : o < ds.length) (q : Q (.int (dayOf ds o)) H) :
    tIf (tTest (tOp (rI0 fun i j => .bl (decide (i < j))) (tVar i) (tC (.int 0)))) (tC (.int 0)) (tOp (rIxL K) (tVar j) (tVar i)) σ H Q := by
  refine ⟨_, hi, _, _, rfl, rfl, _, rfl, ?_⟩
  refine ite2 (fun c => ?_) (fun c => ?_)
  · rw [dayOf_neg (of_decide_eq_true c)] at q
    exact q
  · exact ⟨_, hj, _, hi, a, _, o, _, rfl, rfl, hS, at_ints (fun z => c (decide_eq_true z)) ho, q⟩
/-- 0 if o == 0 else days[o - 1] -/
theorem if_day1 {K : PySem.W.Frag} {ds : List Int} {a : Addr} {o : Int} {i j : Nat} {σ : L2.St} {H : Hp} {Q : VK} (hS : SqL K H a (ds.map V.int)) (hi : σ[i]? = some (some (.int o))) (hj : σ[j]? = some (some (.ref a))) (h0 : 0 ≤ o) (ho : o ≤ ds.length) (q : Q (.int (dayOf ds (o - 1))) H) :
    tIf (tTest (tOp rEq (tVar i) (tC (.int 0)))) (tC (.int 0)) (tOp (rIxL K) (tVar j) (tOp (rI0 fun i j => .int (i - j)) (tVar i) (tC (.int 1)))) σ H Q := by
  refine ⟨_, hi, rfl, _, rfl, ?_⟩
  refine ite2 (fun c => ?_) (fun c => ?_)
  · have c : V.int o = V.int 0 := of_decide_eq_true c
    have c2 : o = 0 := by injection c
    rw [dayOf_neg (by omega)] at q
    exact q
  · have hne : o ≠ 0 := fun z => c (decide_eq_true (by rw [z]))
    exact ⟨_, hj, _, hi, _, _, rfl, rfl, a, _, _, _, rfl, rfl, hS, at_ints (by omega) (by omega), q⟩
/-! what is drawn -/
structure GreatAt (H H' : Hp) (p l d : Addr) (xs : List V) (ts : List Tie) (ds : List Int) (m bad most : Int) : Prop where
  same : Same H H'
  np : H p = none
  nl : H l = none
  nd : H d = none
  tup : H' p = some (.tup [.int m, .ref l, .ref d, .int bad])
  lst : H' l = some (.lst xs)
  ties : TiesAt H' xs ts
  days : H' d = some (.lst (ds.map V.int))
  m1 : 1 ≤ m
  m10 : m ≤ 10
  dl : (ds.length : Int) = m
  dr : ∀ x ∈ ds, 0 ≤ x ∧ x ≤ 9999
  ok : ∀ t ∈ ts, TieOk m t
  kept : ∀ t ∈ ts, KeptW ds t
  tl : (ts.length : Int) ≤ most
  b0 : 0 ≤ bad
  b4 : bad < 4
theorem flat_one {α : Type} (x : α) : ∀ n : Nat, (List.replicate n [x]).flatten = List.replicate n x
  | 0 => rfl
  | n + 1 => by
    rw [List.replicate_succ, List.flatten_cons, flat_one x n, List.replicate_succ]
    rfl
theorem dayOf_range {ds : List Int} (h : ∀ x ∈ ds, 0 ≤ x ∧ x ≤ 9999) (o : Int) : 0 ≤ dayOf ds o ∧ dayOf ds o ≤ 9999 := by
  unfold dayOf
  split
  · omega
  · rw [List.getD_eq_getElem?_getD]
    cases e : ds[o.toNat]? with
    | none => simp
    | some z => exact h z (List.mem_of_getElem? e)
theorem emod_wrap {x M : Int} (h0 : 0 ≤ x) (h1 : x < 2 * M) (hM : 0 < M) : x % M = if x < M then x else x - M := by
  split
  · exact Int.emod_eq_of_lt h0 (by assumption)
  · rw [← Int.sub_emod_right]
    exact Int.emod_eq_of_lt (by omega) (by omega)
theorem cut_ints (ds : List Int) (lo hi : Option Int) : ∃ es : List Int, cutV (ds.map V.int) lo hi = es.map V.int ∧ es.length ≤ ds.length := by
  have hl := cutV_length (ds.map V.int) lo hi
  unfold cutV at hl ⊢
  rw [← List.map_drop, ← List.map_take] at hl ⊢
  exact ⟨_, rfl, by simpa using hl⟩
theorem dp_int_tup {K : PySem.W.Frag} {H : Hp} {p : Addr} {x : Str} {i : Int} (h : H p = some (.tup [.str x, .int i])) : Dp K H (.ref p) (.tuple [.str x, .int i]) := .tup (SqT.of h) (.cons (.str _) (.cons (.int _) .nil))
/-! faults of ways -/
def badDay (ds : List Int) (i : Nat) : Bool := !decide (0 ≤ ds.getD i 0 ∧ ds.getD i 0 ≤ 9999)
def badTie (ts : List Tie) (ds : List Int) (i : Nat) : Bool := !decide (KeptW ds (ts.getD i (0, 0, 0)))
def wfDue (m : Int) (ts : List Tie) (ds : List Int) : Option (Str × Int) :=
  if (ds.length : Int) ≠ m then some ("many", (ds.length : Int)) else
    match (List.range ds.length).find? (badDay ds) with
    | some i => some ("day", (i : Int))
    | none => match (List.range ts.length).find? (badTie ts ds) with
      | some i => some ("tie", (i : Int))
      | none => none
def dueD : Option (Str × Int) → PyData
  | none => .none
  | some (x, i) => .tuple [.str x, .int i]
theorem find_first {p : Nat → Bool} {n i : Nat} (hi : i < n) (h : p i = true) (hb : ∀ j, j < i → p j = false) : (List.range n).find? p = some i := by
  rw [List.find?_range_eq_some]
  refine ⟨h, List.mem_range.mpr hi, fun j hj => by rw [hb j hj]; rfl⟩
theorem find_none {p : Nat → Bool} {n : Nat} (hb : ∀ j, j < n → p j = false) : (List.range n).find? p = none := by
  rw [List.find?_eq_none]
  intro j hj
  rw [hb j (List.mem_range.mp hj)]
  exact Bool.false_ne_true
theorem getD_of {α : Type} {l : List α} {i : Nat} {x d : α} (h : l[i]? = some x) : l.getD i d = x := by
  rw [List.getD_eq_getElem?_getD, h]
  rfl
/-- the places, told as ints -/
def places (p : Nat → Bool) (n : Nat) : List Int := ((List.range n).filter p).map fun (j : Nat) => (j : Int)
theorem places_succ (p : Nat → Bool) (n : Nat) : places p (n + 1) = if p n = true then places p n ++ [(n : Int)] else places p n := by
  unfold places
  rw [List.range_succ, List.filter_append]
  cases h : p n with
  | true => simp [h]
  | false => simp [h]
theorem places_len (p : Nat → Bool) (n : Nat) : (places p n).length ≤ n := by
  unfold places
  rw [List.length_map]
  have := List.length_filter_le p (List.range n)
  simpa using this
theorem places_head (p : Nat → Bool) (n : Nat) : (places p n).head? = ((List.range n).find? p).map fun (j : Nat) => (j : Int) := by
  unfold places
  rw [List.head?_map, List.head?_filter]
theorem at_head {ns : List Int} {z : Int} (h : ns.head? = some z) : atI (ns.map V.int) 0 = some (V.int z) := by
  cases ns with
  | nil => cases h
  | cons n ns =>
    have e : n = z := Option.some.inj h
    subst e
    exact at_of (j := 0) rfl rfl
theorem due_shape (m : Int) (ts : List Tie) (ds : List Int) : SeqAt.shaped (dueD (wfDue m ts ds)) = true ∧ (dueD (wfDue m ts ds)).depth ≤ 1 ∧ sizeD (dueD (wfDue m ts ds)) ≤ 10 := by
  have key : ∀ (x : Str) (i : Int), PyData.canLay0 (.str x) = true → SeqAt.shaped (dueD (some (x, i))) = true ∧ (dueD (some (x, i))).depth ≤ 1 ∧ sizeD (dueD (some (x, i))) ≤ 10 := fun x i hx => by
    refine ⟨shaped_mk ?_ ?_, ?_, ?_⟩
    · simp only [dueD, PyData.canLay0, PyData.canLayAll0] at hx ⊢
      rw [hx]
      rfl
    · simp [dueD, PyData.depth, PyData.depthAll]
    · simp [dueD, PyData.depth, PyData.depthAll]
    · simp [dueD, sizeD, sizeAll]
  unfold wfDue
  split
  · exact key _ _ (by decide +kernel)
  · split
    · exact key _ _ (by decide +kernel)
    · split
      · exact key _ _ (by decide +kernel)
      · exact ⟨rfl, Nat.zero_le _, Nat.zero_le _⟩
/-- lo <= x <= hi, as a test -/
theorem t_between {lo hi z : Int} {tb : TE} {σ : L2.St} {H : Hp} {Q : Bool → Hp → Prop} (hb : ∀ Q' : VK, Q' (.int z) H → tb σ H Q') (q : Q (decide (lo ≤ z ∧ z ≤ hi)) H) :
    tTest (tChain (rI0 fun i j => .bl (decide (i ≤ j))) (rI0 fun i j => .bl (decide (i ≤ j))) (tC (.int lo)) tb (tC (.int hi))) σ H Q := by
  refine hb _ ⟨_, _, rfl, rfl, _, rfl, ?_⟩
  refine ite2 (fun c => ?_) (fun c => ?_)
  · have c : lo ≤ z := of_decide_eq_true c
    refine ⟨_, _, rfl, rfl, _, rfl, ?_⟩
    have e : decide (lo ≤ z ∧ z ≤ hi) = decide (z ≤ hi) := by simp [c]
    rw [e] at q
    exact q
  · refine ⟨_, rfl, ?_⟩
    have e : decide (lo ≤ z ∧ z ≤ hi) = false := decide_eq_false fun z => c (decide_eq_true z.1)
    rw [e] at q
    exact q
theorem shaped2 {d e : PyData} (hd : SeqAt.shaped d = true) (he : SeqAt.shaped e = true) (h1 : d.depth ≤ 10) (h2 : e.depth ≤ 10) : SeqAt.shaped (.list [d, e]) = true := by
  refine shaped_mk ?_ ?_
  · simp [PyData.canLay0, PyData.canLayAll0, SeqAt.canLay_of_shaped hd, SeqAt.canLay_of_shaped he]
  · simp [PyData.depth, PyData.depthAll]
    omega
theorem depth_ints (ns : List Int) : (intsD ns).depth ≤ 1 := by
  have := (lay_ints ns).2
  simp [intsD, PyData.depth, this]
theorem depth_ties (ts : List Tie) : (tiesD ts).depth ≤ 2 := by
  have := (lay_ties ts).2
  simp [tiesD, PyData.depth]
  omega
theorem dp_pair {K : PySem.W.Frag} {H : Hp} {a : Addr} {u v : V} {d e : PyData} (h : H a = some (.lst [u, v])) (hd : Dp K H u d) (he : Dp K H v e) : Dp K H (.ref a) (.list [d, e]) := .lst (SqL.of h) (.cons hd (.cons he .nil))
theorem at_ints_nat {ds : List Int} {i : Nat} {z o : Int} (e : o = (i : Int)) (h : ds[i]? = some z) : atI (ds.map V.int) o = some (V.int z) := at_of (j := i) e (by rw [List.getElem?_map, h]; rfl)
end LH

set_option Elab.async false
set_option linter.all false
set_option maxRecDepth 100000
set_option maxHeartbeats 4000000
/-! own classes: made, asked, compared; defs that may raise, called where nothing may leave -/
namespace LH
open PySem PySem.Spec PyProof.Rows L2
theorem passX0 {X : Cx} : Passes (L2N.CX X.prog X.w) X E0 := fun _ _ _ _ _ _ _ c => by
  obtain ⟨_, _, _, _, _, _, _, _, _, _, _, _, z⟩ := c
  exact z.elim
section
variable {P : Program} {w : World} {K : PySem.W.Frag} {mg : Str → Option Value} {base : Heap}
/-- a class that may be made by its name; sp: its __init__, which may raise -/
structure MakX (P : Program) (w : World) (K : PySem.W.Frag) (mg : Str → Option Value) (base : Heap) (x : Str) (ps : List Str) (k : Nat) (sp : Sp) : Prop where
  ex : ∃ (f : Addr) (fd : FuncData), Mk K (He.ga K x) f ∧ FnOk P w K mg base (L2N.CX P w) k f fd ps sp ∧ mg x = some (.ref (He.ga K x)) ∧ Binds K fd ps []
/-- a method, which may raise -/
structure MetX (P : Program) (w : World) (K : PySem.W.Frag) (mg : Str → Option Value) (base : Heap) (x m : Str) (ps : List Str) (k : Nat) (sp : Sp) : Prop where
  ex : ∃ (f : Addr) (fd : FuncData), Cls K (He.ga K x) ∧ Meth K (He.ga K x) m f ∧ FnOk P w K mg base (L2N.CX P w) k f fd ps sp ∧ Binds K fd ps []
end
def tMakeS (C : Addr) (sp : Sp) (E : L2.St → XK) (t : TA) : TE := fun σ H Q => t σ H fun vs H1 => ∀ x dx, H1 x = none → H1 dx = none → dx ≠ x →
  sp (.ref x :: vs) (upd (upd H1 dx (.own x)) x (.ins C dx [])) (fun v H2 => v = .non ∧ Q (.ref x) H2) (E σ)
def tMethS (C : Addr) (m : Str) (sp : Sp) (E : L2.St → XK) (ta : TE) (t : TA) : TE := fun σ H Q => ta σ H fun x H1 => ∃ a dx fs, x = .ref a ∧ H1 a = some (.ins C dx fs) ∧ fs.lookup m = none ∧
  t σ H1 fun vs H2 => sp (x :: vs) H2 Q (E σ)
section
variable {X : Cx} (K : PySem.W.Frag)
/-- a def that may raise, where nothing may leave -/
theorem pe_ownN {x : Str} {ps : List Str} {k : Nat} {sp : Sp} {e : Expr} {es : List Expr} {p pos : Pos} {t : TA} (C : OwnX X.prog X.w X.K X.mg X.base x ps k sp) (hr : Room k X.A) (ha : PA X (e :: es) t) (hg : Gl X x := by rfl)
    (hdb : (x == ("__debug__" : Str)) = false := by decide) (he : starEach (e :: es) X.env = (false, eval e X.env) :: starEach es X.env := by rfl) (hpl : (backTo pos (starEach es X.env)).any (·.1) = false := by rfl) :
    PE X (.Call (.Name x p) (e :: es) [] pos) (tCall sp [] E0 t) := by
  obtain ⟨f, fd, F, hm, hk, hb⟩ := C.ex
  exact pe_call F hr hg hm hk hb .nil passX0 ha hdb he hpl
theorem pe_mkN {x : Str} {ps : List Str} {k : Nat} {sp : Sp} {e : Expr} {es : List Expr} {p pos : Pos} {t : TA} (C : MakX X.prog X.w X.K X.mg X.base x ps k sp) (hr : Room (k + 1) X.A) (ha : PA X (e :: es) t) (hK : X.K = K := by rfl) (hg : Gl X x := by rfl)
    (hdb : (x == ("__debug__" : Str)) = false := by decide) (he : starEach (e :: es) X.env = (false, eval e X.env) :: starEach es X.env := by rfl) (hpl : (backTo pos (starEach es X.env)).any (·.1) = false := by rfl) :
    PE X (.Call (.Name x p) (e :: es) [] pos) (tMake (He.ga K x) sp [] E0 t) := by
  subst hK
  obtain ⟨f, fd, M, F, hm, hb⟩ := C.ex
  exact pe_make M F hr hg hm hb .nil passX0 ha hdb he hpl
theorem pe_mkX {W : WX} {x : Str} {ps : List Str} {k : Nat} {sp : Sp} {e : Expr} {es : List Expr} {p pos : Pos} {t : TA} (C : MakX X.prog X.w X.K X.mg X.base x ps k sp) (hr : Room (k + 1) X.A) (tk : L2N.Takes X W) (ha : PA X (e :: es) t) (hK : X.K = K := by rfl) (hg : Gl X x := by rfl)
    (hdb : (x == ("__debug__" : Str)) = false := by decide) (he : starEach (e :: es) X.env = (false, eval e X.env) :: starEach es X.env := by rfl) (hpl : (backTo pos (starEach es X.env)).any (·.1) = false := by rfl) :
    PE X (.Call (.Name x p) (e :: es) [] pos) (tMakeS (He.ga K x) sp (WE W) t) := by
  subst hK
  obtain ⟨f, fd, M, F, hm, hb⟩ := C.ex
  refine ⟨fun pins s σ H Q I h => ?_⟩
  refine wpAny_Call_Name_kw (ld_glob I hg hm ?_ hdb)
  refine PySem.W.callWith_K (h₀ := X.base) I.ok.mod.kin M.kp (thn (ha.run pos pins s σ H _ I h) fun us s1 ⟨vs, H1, I1, r, q⟩ => ⟨I1.kIn, ?_⟩) he hpl
  have hq := q (s1.heap.objs.size + 1) s1.heap.objs.size (I1.hok.fresh (Nat.le_succ _)) (I1.hok.fresh (Nat.le_refl _)) (Nat.ne_of_lt (Nat.lt_succ_self _))
  have I2 := Inv.made (C := He.ga X.K x) I1
  have r2 : Vals (V.ref (s1.heap.objs.size + 1) :: vs) (Value.ref (s1.heap.objs.size + 1) :: us) := .cons rfl r
  have hl : (Value.ref (s1.heap.objs.size + 1) :: us ++ []).length = ps.length := by
    have e := r2.length
    rw [F.len _ _ _ _ hq] at e
    rw [List.append_nil]
    exact e.symm
  have b2 := hb { s1 with heap := (s1.heap.push PySem.W.emptyDict).push (PySem.W.instObj (He.ga X.K x) s1.heap.objs.size) } (Value.ref (s1.heap.objs.size + 1) :: us) I2.kIn hl
  rw [List.append_nil] at b2
  refine wpAny_call (make_map (f := f) I1.kIn M.makes M.init (beq_iff_eq.mp M.fn) (codeAny_mono (F.run _ X.stack _ _ ⟨Value.ref (s1.heap.objs.size + 1) :: us, []⟩ (Value.ref (s1.heap.objs.size + 1) :: us) _ _ (WE W σ) (hr.make (He.ga X.K x) us [])
    (I2.env0.make (He.ga X.K x) us []) b2 r2 hq) fun r s' hq' => ?_))
  cases r with
  | error e => exact L2N.passAt tk σ pins _ _ e s' I2 hq'
  | ok fl =>
    cases fl with
    | ret u =>
      obtain ⟨v, H', I3, rv, ev, q3⟩ := I2.after hq'
      subst ev
      exact ⟨rv, ⟨V.ref (s1.heap.objs.size + 1), H', I3, rfl, q3⟩⟩
    | next => exact False.elim hq'
    | brk => exact False.elim hq'
    | cont => exact False.elim hq'
theorem pe_mtN {pl : Sem Bool} {x m : Str} {ps : List Str} {k : Nat} {sp : Sp} {o e : Expr} {es : List Expr} {apos pos : Pos} {ta : TE} {t : TA} (C : MetX X.prog X.w X.K X.mg X.base x m ps k sp) (hr : Room k X.A) (ho : PE X o ta) (ha : PA X (e :: es) t) (hK : X.K = K := by rfl)
    (hst : starEach (e :: es) X.env = (false, eval e X.env) :: starEach es X.env := by rfl) (hpl : (backTo pos (starEach es X.env)).any (·.1) = false := by rfl)
    (ht : eval (.Call (.Attribute o m apos) (e :: es) [] pos) X.env = (do
      let ov ← eval o X.env
      standAt apos.atName
      let (f, first) ← holding [ov] (getMethod ov m pl)
      callWith pos f first (backTo pos (starEach (e :: es) X.env)) (backToKw pos (keywordEach [] X.env))) := by rfl) :
    PE X (.Call (.Attribute o m apos) (e :: es) [] pos) (tMeth (He.ga K x) m sp [] E0 ta t) := by
  subst hK
  obtain ⟨f, fd, hc, hm, F, hb⟩ := C.ex
  exact pe_meth (pl := pl) ho hc hm F hr hb .nil passX0 ha hst hpl ht
theorem pe_mtX {pl : Sem Bool} {W : WX} {x m : Str} {ps : List Str} {k : Nat} {sp : Sp} {o e : Expr} {es : List Expr} {apos pos : Pos} {ta : TE} {t : TA} (C : MetX X.prog X.w X.K X.mg X.base x m ps k sp) (hr : Room k X.A) (tk : L2N.Takes X W) (ho : PE X o ta) (ha : PA X (e :: es) t) (hK : X.K = K := by rfl)
    (hst : starEach (e :: es) X.env = (false, eval e X.env) :: starEach es X.env := by rfl) (hpl : (backTo pos (starEach es X.env)).any (·.1) = false := by rfl)
    (ht : eval (.Call (.Attribute o m apos) (e :: es) [] pos) X.env = (do
      let ov ← eval o X.env
      standAt apos.atName
      let (f, first) ← holding [ov] (getMethod ov m pl)
      callWith pos f first (backTo pos (starEach (e :: es) X.env)) (backToKw pos (keywordEach [] X.env))) := by rfl) :
    PE X (.Call (.Attribute o m apos) (e :: es) [] pos) (tMethS (He.ga K x) m sp (WE W) ta t) := by
  subst hK
  obtain ⟨f, fd, hc, hm, F, hb⟩ := C.ex
  refine ⟨fun pins s σ H Q I h => ?_⟩
  refine PySem.W.methodCall_KW (pl := pl) (thn (ho.run pins s σ H _ I h) fun u s1 ⟨y, H1, I1, rx, a, dx, fs, ex, ea, l, q⟩ => ?_) ht
  subst ex
  obtain rfl : u = Value.ref a := rx
  refine getmeth_ok I1 ea hc hm l ?_
  refine PySem.W.callWith_K (first := [.ref a]) (h₀ := X.base) I.ok.mod.kin hm.kp (thn (ha.run pos pins s1 σ H1 _ I1 q) fun us s2 ⟨vs, H2, I2, r, q2⟩ => ⟨I2.kIn, ?_⟩) hst hpl
  exact run_fnS (us := .ref a :: us) (vs := .ref a :: vs) (E := WE W) F hr hb (L2N.passAt tk σ) I2 (.cons rfl r) q2
/-- e.f -/
theorem fldK {e : Expr} {f : Str} {pos : Pos} {ta : TE} (he : PE X e ta) (hb : attributeBase e f X.env (eval e X.env) = eval e X.env) (hK : X.K = K := by rfl) : PE X (.Attribute e f pos) (tFld K ta f) := by
  subst hK
  exact pe_fld he hb
theorem setfK {o value : Expr} {f : Str} {pos pos' : Pos} {ta tv : TE} (ha : PE X o ta) (hv : PE X value tv) (hs : swapsWith value (some (.Attribute o f pos')) pos.line X.env = pure false) (hK : X.K = K := by rfl) : PS X (.Assign [.Attribute o f pos'] value pos) (sFld K ta tv f) := by
  subst hK
  exact ps_fld ha hv hs
end
/-- x == y by x's own __eq__, which tells True or False -/
def rEqO (K : PySem.W.Frag) (C : Addr) (sp : Sp) : R2 := fun x y H Q => ∃ a dx fs t, x = .ref a ∧ H a = some (.ins C dx fs) ∧ TyX K H y t ∧ PySem.W.notFirst K C t = true ∧ sp [x, y] H (fun v H' => ∃ b, v = .bl b ∧ Q (.bl b) H') E0
section
variable {X : Cx} (K : PySem.W.Frag)
theorem rc_own {x : Str} {ps : List Str} {k : Nat} {sp : Sp} (C : MetX X.prog X.w X.K X.mg X.base x "__eq__" ps k sp) {A : Around} (hr : Room k A) (hfr : A.frames = X.A.frames) {pins : List (Addr × Obj)} {s : Shared} {σ : L2.St} {H : Hp} {a dx : Addr} {fs : List (Str × V)} {y : V} {v t : Value} {Q : VK}
    (I : L2.Inv X pins σ H s) (ry : RelV y v) (ha : H a = some (.ins (He.ga X.K x) dx fs)) (ty : TyX X.K H y t) (nf : PySem.W.notFirst X.K (He.ga X.K x) t = true) (h : sp [.ref a, y] H (fun v H' => ∃ b, v = .bl b ∧ Q (.bl b) H') E0) :
    wpAny (model X.prog X.w) A (richCompare .Eq (.ref a) v) (fun r s' => ∃ b H', r = .bool b ∧ L2.Inv X pins σ H' s' ∧ Q (.bl b) H') X.xe s := by
  obtain ⟨f, fd, hc, hm, F, hb⟩ := C.ex
  obtain ⟨mA, J, _⟩ := ins_get I.hok ha
  obtain ⟨od, J, _⟩ := J.look
  obtain ⟨m, hF⟩ := I.fr
  obtain ⟨P, Z, p, _⟩ := kit_of I ry ty
  refine PySem.W.cmp_K (op := .Eq) (tb := t) hr.units0 hF I.ok.mod.kin J (Z.ty _ _ I.kIn p) nf hm.at_ hm.fn ?_
  have e0 : Env0 X.prog X.w X.K X.mg X.base A X.stack s H := by
    have e := I.env0
    exact ⟨by rw [hfr]; exact e.frames, e.mod, e.bs, e.bsz, e.funs, e.frf, e.hok, e.bare⟩
  have hl := F.len _ _ _ _ h
  have r2 : Vals [V.ref a, y] [Value.ref a, v] := .cons rfl (.cons ry .nil)
  refine wpAny_call (codeAny_mono (F.run A X.stack s H ⟨[.ref a, v], []⟩ [.ref a, v] [.ref a, y] _ E0 hr e0 (by
    have := hb s [.ref a, v] I.kIn (by simpa using hl)
    simpa using this) r2 h) fun r s' hq => ?_)
  cases r with
  | error e =>
    obtain ⟨_, _, _, _, _, _, _, _, _, _, _, _, z⟩ := hq
    exact z.elim
  | ok fl =>
    cases fl with
    | ret w =>
      obtain ⟨z, H', I', rz, b, ez, q⟩ := I.after hq
      subst ez
      cases rz
      exact ⟨b, H', rfl, I', q⟩
    | next => exact False.elim hq
    | brk => exact False.elim hq
    | cont => exact False.elim hq
theorem eqO {x : Str} {ps : List Str} {k : Nat} {sp : Sp} (C : MetX X.prog X.w X.K X.mg X.base x "__eq__" ps k sp) (hr : Room k X.A) (hK : X.K = K := by rfl) : OpR X (compareOp .Eq) (rEqO K (He.ga K x) sp) := by
  subst hK
  intro pins s σ H a b v u Q I rx ry ⟨p, dx, fs, t, e1, hp, ty, nf, q⟩
  subst e1
  cases (show v = Value.ref p from rx)
  show wpAny (model X.prog X.w) X.A (richCompare .Eq _ u) (EP X pins σ Q) X.xe s
  refine wpAny_mono (rc_own C hr rfl I ry hp ty nf q) (fun r s' z => ?_) fun _ _ x => x
  obtain ⟨b, H', e, I', q⟩ := z
  subst e
  exact ⟨.bl b, H', I', rfl, q⟩
end
/-! a op1 b op2 c op3 d -/
def tChain3 (r r' r'' : R2) (ta tb tc td : TE) : TE := fun σ H Q => ta σ H fun x H1 => tb σ H1 fun y H2 => r x y H2 fun z H3 => ∃ k, z = .bl k ∧
  (if k = true then tc σ H3 fun w' H4 => r' y w' H4 fun z2 H5 => ∃ k2, z2 = .bl k2 ∧ (if k2 = true then td σ H5 fun v' H6 => r'' w' v' H6 Q else Q (.bl false) H5) else Q (.bl false) H3)
section
variable {X : Cx} {a b c d : Expr} {ta tb tc td : TE} {pos : Pos}
theorem pe_chain3 {op op' op'' : CmpOp} {r r' r'' : R2} (ho : OpR X (compareOp op) r) (ho' : OpR X (compareOp op') r') (ho'' : OpR X (compareOp op'') r'') (ha : PE X a ta) (hb : PE X b tb) (hc : PE X c tc) (hd : PE X d td)
    (hm : lastMarks [op, op', op''] [b, c, d] = false := by with_unfolding_all rfl) : PE X (.Compare a [op, op', op''] [b, c, d] pos) (tChain3 r r' r'' ta tb tc td) := by
  refine ⟨fun pins s σ H Q I h => ?_⟩
  refine Compare_chain (thn (ha.run pins s σ H _ I h) fun v s1 ⟨x, H1, I1, r1, q1⟩ => chain_link (thn (hb.run pins s1 σ H1 _ I1 q1) fun u s2 ⟨y, H2, I2, r2, q2⟩ =>
    thn (ho pins s2 σ H2 x y v u _ I2 r1 r2 q2) fun d s3 ⟨z, H3, I3, r3, k, e, q3⟩ => ?_)) hm
  subst e
  cases r3
  refine wpAny_truthy_bool ?_
  cases k with
  | false => exact ite_ff ⟨.bl false, H3, I3, rfl, q3⟩
  | true =>
    refine ite_tt (chain_link (thn (hc.run pins s3 σ H3 _ I3 q3) fun w' s4 ⟨z', H4, I4, r4, q4⟩ => thn (ho' pins s4 σ H4 y z' u w' _ I4 r2 r4 q4) fun d' s5 ⟨z2, H5, I5, r5, k2, e2, q5⟩ => ?_))
    subst e2
    cases r5
    refine wpAny_truthy_bool ?_
    cases k2 with
    | false => exact ite_ff ⟨.bl false, H5, I5, rfl, q5⟩
    | true => exact ite_tt (chain_last (thn (hd.run pins s5 σ H5 _ I5 q5) fun w2 s6 ⟨z3, H6, I6, r6, q6⟩ => ho'' pins s6 σ H6 z' z3 w' w2 Q I6 r4 r6 q6))
theorem pt_chain3 {op op' op'' : CmpOp} {r r' r'' : R2} (ho : OpR X (compareOp op) r) (ho' : OpR X (compareOp op') r') (ho'' : OpR X (compareOp op'') r'') (ha : PE X a ta) (hb : PE X b tb) (hc : PE X c tc) (hd : PE X d td)
    (hm : lastMarks [op, op', op''] [b, c, d] = false := by with_unfolding_all rfl) : PT X (.Compare a [op, op', op''] [b, c, d] pos) (tTest (tChain3 r r' r'' ta tb tc td)) := by
  refine ⟨fun pins s σ H Q I h => ?_⟩
  refine isTrue_chain (thn (ha.run pins s σ H _ I h) fun v s1 ⟨x, H1, I1, r1, q1⟩ => test_link (thn (hb.run pins s1 σ H1 _ I1 q1) fun u s2 ⟨y, H2, I2, r2, q2⟩ =>
    thn (ho pins s2 σ H2 x y v u _ I2 r1 r2 q2) fun d s3 ⟨z, H3, I3, r3, k, e, q3⟩ => ?_)) hm
  subst e
  cases r3
  refine wpAny_truthy_bool ?_
  cases k with
  | false =>
    obtain ⟨k', e', q'⟩ := q3
    cases e'
    exact ite_ff ⟨H3, I3, q'⟩
  | true =>
    refine ite_tt (test_link (thn (hc.run pins s3 σ H3 _ I3 q3) fun w' s4 ⟨z', H4, I4, r4, q4⟩ => thn (ho' pins s4 σ H4 y z' u w' _ I4 r2 r4 q4) fun d' s5 ⟨z2, H5, I5, r5, k2, e2, q5⟩ => ?_))
    subst e2
    cases r5
    refine wpAny_truthy_bool ?_
    cases k2 with
    | false =>
      obtain ⟨k', e', q'⟩ := q5
      cases e'
      exact ite_ff ⟨H5, I5, q'⟩
    | true =>
      refine ite_tt (test_last (thn (hd.run pins s5 σ H5 _ I5 q5) fun w2 s6 ⟨z3, H6, I6, r6, q6⟩ => thn (ho'' pins s6 σ H6 z' z3 w' w2 _ I6 r4 r6 q6) fun d2 s7 ⟨z4, H7, I7, r7, k3, e3, q7⟩ => ?_))
      subst e3
      cases r7
      exact wpAny_truthy_bool ⟨H7, I7, q7⟩
end
/-! spans -/
def spanF (f u : Int) : List (Str × V) := [("first", .int f), ("until", .int u)]
def SpanAt (K : PySem.W.Frag) (H : Hp) (v : V) (s : Int × Int) : Prop := ∃ a dx, v = .ref a ∧ H a = some (.ins (He.ga K "Span") dx (spanF s.1 s.2))
theorem SpanAt.mono {K : PySem.W.Frag} {H H' : Hp} {v : V} {s : Int × Int} (e : Same H H') (h : SpanAt K H v s) : SpanAt K H' v s := by
  obtain ⟨a, dx, h1, h2⟩ := h
  exact ⟨a, dx, h1, e _ _ h2⟩
def SpanOk (s : Int × Int) : Prop := 0 ≤ s.1 ∧ s.1 < s.2 ∧ s.2 ≤ 10000
instance (s : Int × Int) : Decidable (SpanOk s) := by unfold SpanOk; infer_instance
structure SpanF (K : PySem.W.Frag) : Prop where
  cl : Cls K (He.ga K "Span")
  n1 : NoAttr K (He.ga K "Span") "first"
  n2 : NoAttr K (He.ga K "Span") "until"
  ha : PySem.W.findIn K (.ref (He.ga K "Span")) "__class__" = some (some (.builtin "object.__class__"))
  hn : PySem.W.specialIn K (.builtin "object.__class__") "__get__" = some (some (.builtin "getset_descriptor.__get__"))
  ht : PySem.W.takesIn K (.builtin "object.__class__") = some true
  hm : PySem.W.mroIn K (He.ga K "Span") (.type "object") = some true
  ks : PySem.W.kitOne K (.ref (He.ga K "Span")) (.ref (He.ga K "Span")) = some true
  kd : ∀ t ∈ ["NoneType", "bool", "int", "str", "list", "tuple", "dict"], PySem.W.kitOne K (.type t) (.ref (He.ga K "Span")) = some false
  kn : ∀ t ∈ ["NoneType", "bool", "int", "str", "list", "tuple", "dict"], PySem.W.subIn K (.type t) (.ref (He.ga K "Span")) = some false
  kt : ∀ t ∈ ["bool", "int", "str", "list", "tuple"], PySem.W.kitOne K (.ref (He.ga K "Span")) (.type t) = some false
  nb : PySem.W.findIn K (.ref (He.ga K "Span")) "__bool__" = some none
def spanB (K : PySem.W.Frag) : Bool :=
  He.Fa.ok K (.cls "Span") && (He.Fa.ok K (.noat "Span" "first") && (He.Fa.ok K (.noat "Span" "until") &&
  (He.eqO (PySem.W.findIn K (.ref (He.ga K "Span")) "__class__") (some (some (.builtin "object.__class__"))) &&
  (He.eqO (PySem.W.specialIn K (.builtin "object.__class__") "__get__") (some (some (.builtin "getset_descriptor.__get__"))) &&
  (decide (PySem.W.takesIn K (.builtin "object.__class__") = some true) &&
  (decide (PySem.W.mroIn K (He.ga K "Span") (.type "object") = some true) &&
  (decide (PySem.W.kitOne K (.ref (He.ga K "Span")) (.ref (He.ga K "Span")) = some true) &&
  ((["NoneType", "bool", "int", "str", "list", "tuple", "dict"].all fun t => decide (PySem.W.kitOne K (.type t) (.ref (He.ga K "Span")) = some false)) &&
  ((["NoneType", "bool", "int", "str", "list", "tuple", "dict"].all fun t => decide (PySem.W.subIn K (.type t) (.ref (He.ga K "Span")) = some false)) &&
  ((["bool", "int", "str", "list", "tuple"].all fun t => decide (PySem.W.kitOne K (.ref (He.ga K "Span")) (.type t) = some false)) &&
  He.eqO (PySem.W.findIn K (.ref (He.ga K "Span")) "__bool__") (some none)))))))))))
theorem spanB_ok {K : PySem.W.Frag} (h : spanB K = true) : SpanF K := by
  unfold spanB at h
  obtain ⟨a1, h⟩ := He.ba h
  obtain ⟨a2, h⟩ := He.ba h
  obtain ⟨a3, h⟩ := He.ba h
  obtain ⟨a4, h⟩ := He.ba h
  obtain ⟨a5, h⟩ := He.ba h
  obtain ⟨a6, h⟩ := He.ba h
  obtain ⟨a7, h⟩ := He.ba h
  obtain ⟨a8, h⟩ := He.ba h
  obtain ⟨a9, h⟩ := He.ba h
  obtain ⟨b1, h⟩ := He.ba h
  obtain ⟨b2, b3⟩ := He.ba h
  exact ⟨He.cls_ok a1, He.noat_ok a2, He.noat_ok a3, He.eqO_ok a4, He.eqO_ok a5, of_decide_eq_true a6, of_decide_eq_true a7, of_decide_eq_true a8, fun t ht => of_decide_eq_true (List.all_eq_true.mp a9 t ht), fun t ht => of_decide_eq_true (List.all_eq_true.mp b1 t ht), fun t ht => of_decide_eq_true (List.all_eq_true.mp b2 t ht), He.eqO_ok b3⟩
theorem SpanAt.ty {K : PySem.W.Frag} {H : Hp} {v : V} {s : Int × Int} (F : SpanF K) (h : SpanAt K H v s) : TyX K H v (.ref (He.ga K "Span")) := by
  obtain ⟨a, dx, rfl, h⟩ := h
  exact .base (.ins h F.cl F.ha F.hn F.ht F.hm)
theorem tyN_mem (d : PyData) : tyN d ∈ ["NoneType", "bool", "int", "str", "list", "tuple", "dict"] := by
  cases d <;> simp [tyN]
theorem SpanF.nf {K : PySem.W.Frag} (F : SpanF K) (d : PyData) : PySem.W.notFirst K (He.ga K "Span") (.type (tyN d)) = true := by
  unfold PySem.W.notFirst
  rw [F.kn _ (tyN_mem d)]
  simp
theorem SpanF.nfs {K : PySem.W.Frag} : PySem.W.notFirst K (He.ga K "Span") (.ref (He.ga K "Span")) = true := by
  unfold PySem.W.notFirst
  simp
theorem span_first {f u : Int} : (spanF f u).lookup ("first" : Str) = some (V.int f) := rfl
theorem span_until {f u : Int} : (spanF f u).lookup ("until" : Str) = some (V.int u) := rfl
theorem span_put {f u : Int} : putF "until" (V.int u) (putF "first" (V.int f) []) = spanF f u := rfl
/-- a span or None; a pair or None -/
def SpanOpt (K : PySem.W.Frag) (H : Hp) (v : V) : Option (Int × Int) → Prop
  | none => v = .non
  | some s => SpanAt K H v s
def PairOpt (H : Hp) (v : V) : Option (Int × Int) → Prop
  | none => v = .non
  | some s => ∃ p, v = .ref p ∧ H p = some (.tup [.int s.1, .int s.2])
theorem SpanOpt.mono {K : PySem.W.Frag} {H H' : Hp} {v : V} : ∀ {o : Option (Int × Int)}, Same H H' → SpanOpt K H v o → SpanOpt K H' v o
  | none, _, h => h
  | some _, e, h => SpanAt.mono e h
theorem PairOpt.mono {H H' : Hp} {v : V} : ∀ {o : Option (Int × Int)}, Same H H' → PairOpt H v o → PairOpt H' v o
  | none, _, h => h
  | some _, e, ⟨p, h1, h2⟩ => ⟨p, h1, e _ _ h2⟩
/-- e.first, e.until -/
theorem t_first {K : PySem.W.Frag} (F : SpanF K) {ta : TE} {σ : L2.St} {H : Hp} {v : V} {s : Int × Int} {Q : VK} (h : SpanAt K H v s) (ha : ∀ Q' : VK, Q' v H → ta σ H Q') (q : Q (.int s.1) H) : tFld K ta "first" σ H Q := by
  obtain ⟨a, dx, rfl, h⟩ := h
  exact ha _ ⟨a, _, dx, _, _, rfl, h, F.cl, F.n1, span_first, q⟩
theorem t_until {K : PySem.W.Frag} (F : SpanF K) {ta : TE} {σ : L2.St} {H : Hp} {v : V} {s : Int × Int} {Q : VK} (h : SpanAt K H v s) (ha : ∀ Q' : VK, Q' v H → ta σ H Q') (q : Q (.int s.2) H) : tFld K ta "until" σ H Q := by
  obtain ⟨a, dx, rfl, h⟩ := h
  exact ha _ ⟨a, _, dx, _, _, rfl, h, F.cl, F.n2, span_until, q⟩
theorem t_var {i : Nat} {σ : L2.St} {H : Hp} {v : V} (h : σ[i]? = some (some v)) : ∀ Q' : VK, Q' v H → tVar i σ H Q' := fun _ q => ⟨v, h, q⟩
end LH

set_option Elab.async false
set_option linter.all false
set_option maxRecDepth 100000
set_option maxHeartbeats 4000000
/-! the head's facts over a fragment that is gathered once, each object once (a Nat as the set of what was seen) -/
namespace LH
open PySem PySem.Spec PyProof.Rows L2
noncomputable section
/-- a fragment with its spine laid bare -/
def frK {α : Type} (K : PySem.W.Frag) : (PySem.W.Frag → α) → α :=
  @List.rec (Addr × Obj) (fun _ => (PySem.W.Frag → α) → α) (fun k => k []) (fun x _ ih k => match x with | (a, o) => HandSHeadRun.frNat a fun a => match o with | ⟨c, d, dt, sl⟩ => ih fun r => k ((a, ⟨c, d, dt, sl⟩) :: r)) K
theorem frK_eq {α : Type} : ∀ (K : PySem.W.Frag) (k : PySem.W.Frag → α), frK K k = k K
  | [], k => rfl
  | (a, ⟨c, d, dt, sl⟩) :: r, k => by
    show HandSHeadRun.frNat a (fun a => frK r fun r => k ((a, ⟨c, d, dt, sl⟩) :: r)) = _
    rw [HandSHeadRun.frNat_eq, frK_eq r]
/-- those of bs that were not seen yet, put ahead of new -/
def addU {α : Type} (bs : List Addr) : Nat → List Addr → (Nat → List Addr → α) → α :=
  @List.rec Addr (fun _ => Nat → List Addr → (Nat → List Addr → α) → α) (fun seen new k => k seen new)
    (fun b _ ih seen new k => HandSHeadRun.frNat b fun b => match Nat.beq (Nat.land (Nat.shiftRight seen b) 1) 1 with
      | true => ih seen new k
      | false => HandSHeadRun.frNat (Nat.lor seen (Nat.shiftLeft 1 b)) fun seen => ih seen (b :: new) k) bs
/-- what the objects at as name, that was not seen yet -/
def addF {α : Type} (g : Addr → Option Obj) (as : List Addr) : Nat → List Addr → (Nat → List Addr → α) → α :=
  @List.rec Addr (fun _ => Nat → List Addr → (Nat → List Addr → α) → α) (fun seen new k => k seen new)
    (fun a _ ih seen new k => match g a with
      | some o => addU (He.refsD o) seen new fun seen new => ih seen new k
      | none => ih seen new k) as
/-- level by level -/
def levG (g : Addr → Option Obj) (n : Nat) : List Addr → Nat → List Addr → List Addr :=
  @Nat.rec (fun _ => List Addr → Nat → List Addr → List Addr) (fun front _ acc => front ++ acc)
    (fun _ ih front seen acc => addF g front seen [] fun seen new => ih new seen (front ++ acc)) n
def asG (g : Addr → Option Obj) (n : Nat) : List Addr := levG g n [mainGlobals] (Nat.shiftLeft 1 mainGlobals) []
def hookF (n : Nat) (fa : List He.Fa) (fn : List He.DefD) (ex : PySem.W.Frag → Bool) : PySem.W.Hook where
  α := He.AlD × Bool
  obs := fun s => (He.obsD fa fn (He.frT s.heap.get? (asG s.heap.get? n)), ex (He.frT s.heap.get? (asG s.heap.get? n)))
  val := fun _ => (He.valD fn, true)
  says := fun _ h => ∃ K : PySem.W.Frag, K.In h ∧ He.SaysD fa fn K ∧ ex K = true
  of := fun _ _ e => ⟨_, He.frT_in, congrArg Prod.fst e, congrArg Prod.snd e⟩
  keeps := fun _ _ _ ⟨K, hK, c⟩ k => ⟨K, PySem.W.Frag.In.keeps hK k, c⟩
def obF (n : Nat) (fa : List He.Fa) (fn : List He.DefD) (ex : PySem.W.Frag → Bool) (g : Addr → Option Obj) : He.AlD × Bool :=
  frK (He.frT g (asG g n)) fun K => (He.obsD fa fn K, ex K)
theorem obF_eq {n : Nat} {fa : List He.Fa} {fn : List He.DefD} {ex : PySem.W.Frag → Bool} {g : Addr → Option Obj} {s : Shared} (h : ∀ a, g a = s.heap.get? a) : obF n fa fn ex g = (hookF n fa fn ex).obs s := by
  have e : g = s.heap.get? := funext h
  rw [e]
  exact frK_eq _ _
def obS (n : Nat) (fa : List He.Fa) (fn : List He.DefD) (ex : PySem.W.Frag → Bool) (s : PySem.W.SharedT) : He.AlD × Bool := obF n fa fn ex (HandSHeadRun.getT s)
theorem obS_eq {n : Nat} {fa : List He.Fa} {fn : List He.DefD} {ex : PySem.W.Frag → Bool} (s : PySem.W.SharedT) : obS n fa fn ex s = (hookF n fa fn ex).obs s.abs := obF_eq (HandSHeadRun.getT_eq s)
theorem obsD_app {fa1 fa2 : List He.Fa} {fn1 fn2 : List He.DefD} {K : PySem.W.Frag} (h1 : He.obsD fa1 fn1 K = He.valD fn1) (h2 : He.obsD fa2 fn2 K = He.valD fn2) : He.obsD (fa1 ++ fa2) (fn1 ++ fn2) K = He.valD (fn1 ++ fn2) := by
  have a1 : ((fa1.all fun f => f.ok K) && fn1.all fun d => d.ok K) = true := congrArg Prod.fst h1
  have a2 : ((fa2.all fun f => f.ok K) && fn2.all fun d => d.ok K) = true := congrArg Prod.fst h2
  have b1 : (fn1.map fun d => He.fnW K d.at_) = fn1.map He.DefD.val := congrArg Prod.snd h1
  have b2 : (fn2.map fun d => He.fnW K d.at_) = fn2.map He.DefD.val := congrArg Prod.snd h2
  obtain ⟨c1, d1⟩ := Bool.and_eq_true_iff.mp a1
  obtain ⟨c2, d2⟩ := Bool.and_eq_true_iff.mp a2
  unfold He.obsD He.valD
  rw [List.all_append, List.all_append, c1, c2, d1, d2, List.map_append, List.map_append, b1, b2]
  rfl
/-- two runs that look at two parts of the facts: one that looks at both -/
theorem run_app {r : PySem.W.OpenRow} {q : Program} {n M : Nat} {loose : List PySem.Str} {w : World} {fa1 fa2 : List He.Fa} {fn1 fn2 : List He.DefD} {ex1 ex2 : PySem.W.Frag → Bool}
    (h1 : HandSHeadRun.RunEq r q (hookF n fa1 fn1 ex1) (obS n fa1 fn1 ex1) M loose w) (h2 : HandSHeadRun.RunEq r q (hookF n fa2 fn2 ex2) (obS n fa2 fn2 ex2) M loose w) :
    HandSHeadRun.RunEq r q (hookF n (fa1 ++ fa2) (fn1 ++ fn2) ex1) (obS n (fa1 ++ fa2) (fn1 ++ fn2) ex1) M loose w := by
  intro os
  have a := h1 os
  have b := h2 os
  revert a b
  generalize HandSHeadRun.endF (HandSHeadRun.stepQ (HandSHeadRun.denQ HandSHeadRun.tabQ) r.prog w) M r.prog w os = e
  intro a b
  cases e with
  | none => cases a
  | some s =>
    have a' := Option.some.inj a
    have b' := Option.some.inj b
    have a1 := congrArg Prod.fst a'
    have a2 := congrArg (fun z => z.2.1) a'
    have a3 : obS n fa1 fn1 ex1 s = (He.valD fn1, true) := congrArg (fun z => z.2.2) a'
    have b3 : obS n fa2 fn2 ex2 s = (He.valD fn2, true) := congrArg (fun z => z.2.2) b'
    unfold obS obF at a3 b3
    rw [frK_eq] at a3 b3
    have c3 : obS n (fa1 ++ fa2) (fn1 ++ fn2) ex1 s = (He.valD (fn1 ++ fn2), true) := by
      unfold obS obF
      rw [frK_eq, obsD_app (congrArg Prod.fst a3) (congrArg Prod.fst b3)]
      exact congrArg (fun z => (He.valD (fn1 ++ fn2), z)) (congrArg Prod.snd a3)
    show some (_, _, _) = some (_, _, _)
    refine congrArg some (Prod.ext a1 (Prod.ext a2 c3))
end
end LH

set_option Elab.async false
set_option linter.all false
set_option maxRecDepth 100000
set_option maxHeartbeats 4000000
namespace LH
/-! gaps: the mathematics -/
def nd (n : Nat) (o : Int) : Nat := if o < 0 then n else o.toNat
theorem nd_neg {n : Nat} {o : Int} (h : o < 0) : nd n o = n := if_pos h
theorem nd_nat {n : Nat} {o : Int} (h : ¬ o < 0) : nd n o = o.toNat := if_neg h
theorem nd_le {n : Nat} {o : Int} (h : o < n) : nd n o ≤ n := by
  unfold nd
  split <;> omega
/-- the lives of a tie are lives -/
def TieIx (m : Int) (t : Tie) : Prop := -1 ≤ t.1 ∧ t.1 < m ∧ -1 ≤ t.2.1 ∧ t.2.1 < m ∧ True
theorem TieOk.ix {m : Int} {t : Tie} (h : TieOk m t) : TieIx m t := ⟨h.1, h.2.1, h.2.2.1, h.2.2.2.1, trivial⟩
structure Feas (n : Nat) (ts : List Tie) (φ : Nat → Int) : Prop where
  z : φ n = 0
  lo : ∀ i, i < n → 0 ≤ φ i
  hi : ∀ i, i < n → φ i ≤ 9999
  ke : ∀ t ∈ ts, t.2.2 ≤ φ (nd n t.1) - φ (nd n t.2.1)
theorem Feas.lo' {n : Nat} {ts : List Tie} {φ : Nat → Int} (f : Feas n ts φ) {i : Nat} (h : i ≤ n) : 0 ≤ φ i := by
  rcases Nat.lt_or_ge i n with h1 | h1
  · exact f.lo i h1
  · have e : i = n := by omega
    rw [e, f.z]
    exact Int.le_refl _
def bareG (n i j : Nat) : Int := if j = n then 0 else if i = j then 0 else -9999
def tieG (n : Nat) (g : Nat → Nat → Int) (t : Tie) : Nat → Nat → Int := fun i j => if i = nd n t.1 ∧ j = nd n t.2.1 then max (g i j) t.2.2 else g i j
def viaG (g : Nat → Nat → Int) (m : Nat) : Nat → Nat → Int := fun i j => max (g i j) (g i m + g m j)
def startG (n : Nat) (ts : List Tie) : Nat → Nat → Int := ts.foldl (tieG n) (bareG n)
def upG (n : Nat) (ts : List Tie) : Nat → Nat → Nat → Int
  | 0 => startG n ts
  | m + 1 => viaG (upG n ts m) m
def gapsG (n : Nat) (ts : List Tie) : Nat → Nat → Int := upG n ts (n + 1)
theorem bare_le {n : Nat} {ts : List Tie} {φ : Nat → Int} (f : Feas n ts φ) {i j : Nat} (hi : i ≤ n) (hj : j ≤ n) : bareG n i j ≤ φ i - φ j := by
  unfold bareG
  have h1 := f.lo' hi
  split
  · rename_i e
    rw [e, f.z]
    omega
  · split
    · rename_i e
      rw [e]
      omega
    · have := f.hi j (by omega)
      omega
theorem fold_le {n : Nat} {ts : List Tie} {φ : Nat → Int} (f : Feas n ts φ) : ∀ (l : List Tie) (g : Nat → Nat → Int), (∀ t ∈ l, t ∈ ts) → (∀ i j, i ≤ n → j ≤ n → g i j ≤ φ i - φ j) → ∀ i j, i ≤ n → j ≤ n → l.foldl (tieG n) g i j ≤ φ i - φ j
  | [], g, _, h, i, j, hi, hj => h i j hi hj
  | t :: l, g, hs, h, i, j, hi, hj => by
    refine fold_le f l (tieG n g t) (fun u hu => hs u (List.mem_cons_of_mem _ hu)) (fun i j hi hj => ?_) i j hi hj
    unfold tieG
    have h1 := h i j hi hj
    split
    · rename_i e
      have := f.ke t (hs t List.mem_cons_self)
      rw [e.1, e.2] at h1 ⊢
      omega
    · exact h1
theorem up_le {n : Nat} {ts : List Tie} {φ : Nat → Int} (f : Feas n ts φ) : ∀ (m : Nat), m ≤ n + 1 → ∀ i j, i ≤ n → j ≤ n → upG n ts m i j ≤ φ i - φ j
  | 0, _, i, j, hi, hj => fold_le f ts (bareG n) (fun _ h => h) (fun _ _ h1 h2 => bare_le f h1 h2) i j hi hj
  | m + 1, hm, i, j, hi, hj => by
    have h1 := up_le f m (by omega) i j hi hj
    have h2 := up_le f m (by omega) i m hi (by omega)
    have h3 := up_le f m (by omega) m j (by omega) hj
    show max (upG n ts m i j) (upG n ts m i m + upG n ts m m j) ≤ _
    omega
theorem fold_ge {n : Nat} : ∀ (l : List Tie) (g : Nat → Nat → Int) (i j : Nat), g i j ≤ l.foldl (tieG n) g i j
  | [], g, i, j => Int.le_refl _
  | t :: l, g, i, j => by
    refine Int.le_trans ?_ (fold_ge l (tieG n g t) i j)
    unfold tieG
    split <;> omega
theorem fold_tie {n : Nat} : ∀ (l : List Tie) (g : Nat → Nat → Int) (t : Tie), t ∈ l → t.2.2 ≤ l.foldl (tieG n) g (nd n t.1) (nd n t.2.1)
  | [], g, t, h => absurd h List.not_mem_nil
  | u :: l, g, t, h => by
    rcases List.mem_cons.mp h with rfl | h
    · refine Int.le_trans ?_ (fold_ge l (tieG n g t) _ _)
      unfold tieG
      rw [if_pos ⟨rfl, rfl⟩]
      omega
    · exact fold_tie l (tieG n g u) t h
theorem up_mono {n : Nat} {ts : List Tie} : ∀ (m k : Nat) (i j : Nat), upG n ts m i j ≤ upG n ts (m + k) i j
  | m, 0, i, j => Int.le_refl _
  | m, k + 1, i, j => by
    refine Int.le_trans (up_mono m k i j) ?_
    show upG n ts (m + k) i j ≤ max (upG n ts (m + k) i j) _
    omega
theorem up_mono' {n : Nat} {ts : List Tie} {m k : Nat} (h : m ≤ k) (i j : Nat) : upG n ts m i j ≤ upG n ts k i j := by
  have := up_mono (n := n) (ts := ts) m (k - m) i j
  rw [show m + (k - m) = k by omega] at this
  exact this
theorem start_bare {n : Nat} {ts : List Tie} (m i j : Nat) : bareG n i j ≤ upG n ts m i j := Int.le_trans (fold_ge ts (bareG n) i j) (up_mono' (Nat.zero_le m) i j)
theorem diag_ge {n : Nat} {ts : List Tie} (m i : Nat) : 0 ≤ upG n ts m i i := by
  refine Int.le_trans ?_ (start_bare m i i)
  unfold bareG
  split
  · exact Int.le_refl _
  · rw [if_pos rfl]
    exact Int.le_refl _
theorem close {n : Nat} {ts : List Tie} : ∀ (m : Nat), m ≤ n + 1 → (∀ i, i ≤ n → upG n ts m i i = 0) → ∀ k, k < m → ∀ i j, upG n ts m i k + upG n ts m k j ≤ upG n ts m i j
  | 0, _, _, k, hk, _, _ => absurd hk (Nat.not_lt_zero k)
  | m + 1, hm, hd, k, hk, i, j => by
    have hd' : ∀ i, i ≤ n → upG n ts m i i = 0 := fun i hi => by
      have h1 := up_mono (n := n) (ts := ts) m 1 i i
      have h2 := diag_ge (n := n) (ts := ts) m i
      have h3 := hd i hi
      omega
    have hmm := hd' m (by omega)
    have ih := close m (by omega) hd'
    show viaG (upG n ts m) m i k + viaG (upG n ts m) m k j ≤ viaG (upG n ts m) m i j
    unfold viaG
    rcases Nat.lt_or_ge k m with h1 | h1
    · have a1 := ih k h1 i j
      have a2 := ih k h1 m j
      have a3 := ih k h1 i m
      have a4 := ih k h1 m m
      omega
    · have e : k = m := by omega
      subst e
      omega
theorem Feas.diag {n : Nat} {ts : List Tie} {φ : Nat → Int} (f : Feas n ts φ) (i : Nat) (hi : i ≤ n) : gapsG n ts i i = 0 := by
  have h1 := up_le f (n + 1) (Nat.le_refl _) i i hi hi
  have h2 := diag_ge (n := n) (ts := ts) (n + 1) i
  unfold gapsG
  omega
theorem gap_close {n : Nat} {ts : List Tie} (hd : ∀ i, i ≤ n → gapsG n ts i i = 0) {k : Nat} (hk : k ≤ n) (i j : Nat) : gapsG n ts i k + gapsG n ts k j ≤ gapsG n ts i j := close (n + 1) (Nat.le_refl _) hd k (by omega) i j
theorem gap_tie {n : Nat} {ts : List Tie} {t : Tie} (h : t ∈ ts) : t.2.2 ≤ gapsG n ts (nd n t.1) (nd n t.2.1) := Int.le_trans (fold_tie ts (bareG n) t h) (up_mono' (Nat.zero_le _) _ _)
theorem gap_lo {n : Nat} {ts : List Tie} (i : Nat) : 0 ≤ gapsG n ts i n := by
  refine Int.le_trans ?_ (start_bare (n + 1) i n)
  unfold bareG
  rw [if_pos rfl]
  exact Int.le_refl _
theorem gap_hi {n : Nat} {ts : List Tie} (i j : Nat) : -9999 ≤ gapsG n ts i j := by
  refine Int.le_trans ?_ (start_bare (n + 1) i j)
  unfold bareG
  split
  · decide
  · split <;> decide
/-- where none is later than itself, the gaps to any one k are a way, moved so that the beginning stands at 0 -/
theorem feas_gap {n : Nat} {ts : List Tie} (hok : ∀ t ∈ ts, TieIx (n : Int) t) (hd : ∀ i, i ≤ n → gapsG n ts i i = 0) {k : Nat} (hk : k ≤ n) : Feas n ts (fun i => gapsG n ts i k - gapsG n ts n k) := by
  refine ⟨?_, fun i hi => ?_, fun i hi => ?_, fun t ht => ?_⟩
  · show gapsG n ts n k - gapsG n ts n k = 0
    omega
  · have h1 := gap_close hd (Nat.le_refl n) i k
    have h2 := gap_lo (n := n) (ts := ts) i
    show 0 ≤ gapsG n ts i k - gapsG n ts n k
    omega
  · have h1 := gap_close hd (Nat.le_of_lt hi) n k
    have h2 := gap_hi (n := n) (ts := ts) n i
    show gapsG n ts i k - gapsG n ts n k ≤ 9999
    omega
  · have ok := hok t ht
    have h1 := gap_close hd (nd_le (n := n) ok.2.2.2.1) (nd n t.1) k
    have h2 := gap_tie (n := n) ht
    show t.2.2 ≤ gapsG n ts (nd n t.1) k - gapsG n ts n k - (gapsG n ts (nd n t.2.1) k - gapsG n ts n k)
    omega
theorem feas_least {n : Nat} {ts : List Tie} (hok : ∀ t ∈ ts, TieIx (n : Int) t) (hd : ∀ i, i ≤ n → gapsG n ts i i = 0) : Feas n ts (fun i => gapsG n ts i n) := by
  have f := feas_gap hok hd (Nat.le_refl n)
  have e := hd n (Nat.le_refl n)
  simp only [e, Int.sub_zero] at f
  exact f
theorem gap_le {n : Nat} {ts : List Tie} {φ : Nat → Int} (f : Feas n ts φ) {i j : Nat} (hi : i ≤ n) (hj : j ≤ n) : gapsG n ts i j ≤ φ i - φ j := up_le f (n + 1) (Nat.le_refl _) i j hi hj
/-- ties can be just where no one is later than itself -/
theorem can_iff {n : Nat} {ts : List Tie} (hok : ∀ t ∈ ts, TieIx (n : Int) t) : (∃ φ, Feas n ts φ) ↔ ∀ i, i ≤ n → gapsG n ts i i = 0 :=
  ⟨fun ⟨_, f⟩ => f.diag, fun hd => ⟨_, feas_least hok hd⟩⟩
/-! days raised -/
def valD (ds : List Int) (n i : Nat) : Int := if i = n then 0 else ds.getD i 0
/-- a life that is not yet at its least day is raised by one that is -/
theorem support {n : Nat} {ts : List Tie} (hok : ∀ t ∈ ts, TieIx (n : Int) t) {φ : Nat → Int} (f : Feas n ts φ) (least : ∀ ψ, Feas n ts ψ → ∀ i, i < n → φ i ≤ ψ i) (u : Nat → Prop) (hu : ∀ i, u i → i < n ∧ 0 < φ i) (he : ∃ i, u i) :
    ∃ t ∈ ts, u (nd n t.1) ∧ ¬ u (nd n t.2.1) ∧ φ (nd n t.1) ≤ φ (nd n t.2.1) + t.2.2 := by
  rcases Classical.em (∃ t ∈ ts, u (nd n t.1) ∧ ¬ u (nd n t.2.1) ∧ φ (nd n t.1) ≤ φ (nd n t.2.1) + t.2.2) with h | h
  · exact h
  · exfalso
    have nu : ¬ u n := fun z => Nat.lt_irrefl n (hu n z).1
    obtain ⟨i, hi⟩ := he
    classical
    have g : Feas n ts (fun i => if u i then φ i - 1 else φ i) := by
      refine ⟨?_, fun i hi => ?_, fun i hi => ?_, fun t ht => ?_⟩
      · rw [if_neg nu, f.z]
      · split
        · rename_i z
          have := (hu i z).2
          omega
        · exact f.lo i hi
      · have := f.hi i hi
        split <;> omega
      · have h0 := f.ke t ht
        by_cases h1 : u (nd n t.1)
        · by_cases h2 : u (nd n t.2.1)
          · rw [if_pos h1, if_pos h2]
            omega
          · rw [if_pos h1, if_neg h2]
            have h3 : ¬ φ (nd n t.1) ≤ φ (nd n t.2.1) + t.2.2 := fun z => h ⟨t, ht, h1, h2, z⟩
            omega
        · rw [if_neg h1]
          split <;> omega
    have l := least _ g i (hu i hi).1
    try dsimp only at l
    rw [if_pos hi] at l
    omega
theorem filter_lt {α : Type} (p q : α → Bool) : ∀ (l : List α), (∀ x ∈ l, p x = true → q x = true) → (∃ x ∈ l, q x = true ∧ p x = false) → (l.filter p).length < (l.filter q).length
  | [], _, h => by
    obtain ⟨x, hx, _⟩ := h
    cases hx
  | a :: l, h, he => by
    have hl : (l.filter p).length ≤ (l.filter q).length := by
      have : ∀ (l : List α), (∀ x ∈ l, p x = true → q x = true) → (l.filter p).length ≤ (l.filter q).length := fun l => by
        induction l with
        | nil => intro _; exact Nat.le_refl _
        | cons a l ih =>
          intro h
          have i1 := ih fun x hx => h x (List.mem_cons_of_mem _ hx)
          have i2 := h a List.mem_cons_self
          cases hp : p a with
          | true =>
            rw [List.filter_cons_of_pos hp, List.filter_cons_of_pos (i2 hp)]
            simp only [List.length_cons]
            omega
          | false =>
            rw [List.filter_cons_of_neg (by rw [hp]; exact Bool.false_ne_true)]
            cases hq : q a with
            | true =>
              rw [List.filter_cons_of_pos hq]
              simp only [List.length_cons]
              omega
            | false =>
              rw [List.filter_cons_of_neg (by rw [hq]; exact Bool.false_ne_true)]
              exact i1
      exact this l fun x hx => h x (List.mem_cons_of_mem _ hx)
    obtain ⟨x, hx, hq, hp⟩ := he
    rcases List.mem_cons.mp hx with rfl | hx
    · rw [List.filter_cons_of_neg (by rw [hp]; exact Bool.false_ne_true), List.filter_cons_of_pos hq]
      simp only [List.length_cons]
      omega
    · have ih := filter_lt p q l (fun x hx => h x (List.mem_cons_of_mem _ hx)) ⟨x, hx, hq, hp⟩
      have i2 := h a List.mem_cons_self
      cases hpa : p a with
      | true =>
        rw [List.filter_cons_of_pos hpa, List.filter_cons_of_pos (i2 hpa)]
        simp only [List.length_cons]
        omega
      | false =>
        rw [List.filter_cons_of_neg (by rw [hpa]; exact Bool.false_ne_true)]
        cases hqa : q a with
        | true =>
          rw [List.filter_cons_of_pos hqa]
          simp only [List.length_cons]
          omega
        | false =>
          rw [List.filter_cons_of_neg (by rw [hqa]; exact Bool.false_ne_true)]
          exact ih
/-- how many lives stand at their least day -/
def finals (n : Nat) (φ : Nat → Int) (ds : List Int) : Nat := ((List.range n).filter fun i => decide (ds.getD i 0 = φ i)).length
theorem finals_le (n : Nat) (φ : Nat → Int) (ds : List Int) : finals n φ ds ≤ n := by
  unfold finals
  have := List.length_filter_le (fun i => decide (ds.getD i 0 = φ i)) (List.range n)
  simpa using this
theorem finals_all {n : Nat} {φ : Nat → Int} {ds : List Int} (h : n ≤ finals n φ ds) : ∀ i, i < n → ds.getD i 0 = φ i := by
  intro i hi
  rcases Decidable.em (ds.getD i 0 = φ i) with z | z
  · exact z
  · exfalso
    have := filter_lt (fun i => decide (ds.getD i 0 = φ i)) (fun _ => true) (List.range n) (fun _ _ _ => rfl) ⟨i, List.mem_range.mpr hi, rfl, decide_eq_false z⟩
    have e : ((List.range n).filter fun _ => true).length = n := by
      rw [List.filter_eq_self.mpr fun _ _ => rfl, List.length_range]
    unfold finals at h
    omega
/-- one round over the ties: from ds to es -/
structure Round (n : Nat) (ts : List Tie) (ds es : List Int) (moved : Bool) : Prop where
  len : es.length = n
  ge : ∀ i, i < n → ds.getD i 0 ≤ es.getD i 0
  le : ∀ φ, Feas n ts φ → (∀ i, i < n → ds.getD i 0 ≤ φ i) → ∀ i, i < n → es.getD i 0 ≤ φ i
  ke : ∀ t ∈ ts, 0 ≤ t.1 → valD ds n (nd n t.2.1) + t.2.2 ≤ es.getD t.1.toNat 0
  mv : moved = true → ∃ i, i < n ∧ ds.getD i 0 < es.getD i 0
  st : moved = false → es = ds
/-- what holds between two rounds -/
structure Rounds (n : Nat) (ts : List Tie) (r : Nat) (ds : List Int) (moved : Bool) : Prop where
  len : ds.length = n
  lo : ∀ i, i < n → 0 ≤ ds.getD i 0
  le : ∀ φ, Feas n ts φ → ∀ i, i < n → ds.getD i 0 ≤ φ i
  pr : (∀ i, i ≤ n → gapsG n ts i i = 0) → moved = true → r ≤ n ∧ r ≤ finals n (fun i => gapsG n ts i n) ds
  fx : moved = false → ∀ t ∈ ts, 0 ≤ t.1 → valD ds n (nd n t.2.1) + t.2.2 ≤ ds.getD t.1.toNat 0
theorem Rounds.next {n : Nat} {ts : List Tie} (hok : ∀ t ∈ ts, TieIx (n : Int) t) {r : Nat} {ds es : List Int} {mv : Bool} (h : Rounds n ts r ds true) (q : Round n ts ds es mv) : Rounds n ts (r + 1) es mv := by
  refine ⟨q.len, fun i hi => Int.le_trans (h.lo i hi) (q.ge i hi), fun φ f => q.le φ f (h.le φ f), fun hd hm => ?_, fun hm t ht h0 => ?_⟩
  rotate_left
  · have e := q.st hm
    have := q.ke t ht h0
    rw [e] at this ⊢
    exact this
  obtain ⟨h1, h2⟩ := h.pr hd rfl
  have f := feas_least hok hd
  have lst : ∀ ψ, Feas n ts ψ → ∀ i, i < n → gapsG n ts i n ≤ ψ i := fun ψ g i hi => by
    have := gap_le g (Nat.le_of_lt hi) (Nat.le_refl n)
    rw [g.z] at this
    omega
  have b1 := h.le _ f
  have b2 := q.le _ f b1
  rcases Nat.lt_or_ge (finals n (fun i => gapsG n ts i n) ds) n with h3 | h3
  · have key : finals n (fun i => gapsG n ts i n) ds < finals n (fun i => gapsG n ts i n) es := by
      refine filter_lt _ _ _ (fun i hi z => ?_) ?_
      · have z := of_decide_eq_true z
        have hi := List.mem_range.mp hi
        have c1 := q.ge i hi
        have c2 := b2 i hi
        exact decide_eq_true (show es.getD i 0 = gapsG n ts i n by
          have c2 : es.getD i 0 ≤ gapsG n ts i n := c2
          have z : ds.getD i 0 = gapsG n ts i n := z
          omega)
      · have ex : ∃ i, i < n ∧ ds.getD i 0 < gapsG n ts i n := by
          rcases Classical.em (∃ i, i < n ∧ ds.getD i 0 < gapsG n ts i n) with z | z
          · exact z
          · exfalso
            have : finals n (fun i => gapsG n ts i n) ds = n := by
              unfold finals
              rw [List.filter_eq_self.mpr fun i hi => decide_eq_true ?_]
              · simp
              · have hi := List.mem_range.mp hi
                have c := b1 i hi
                have c2 : ¬ ds.getD i 0 < gapsG n ts i n := fun y => z ⟨i, hi, y⟩
                have c : ds.getD i 0 ≤ gapsG n ts i n := c
                show ds.getD i 0 = gapsG n ts i n
                omega
            omega
        obtain ⟨t, ht, u1, u2, u3⟩ := support hok f lst (fun i => i < n ∧ ds.getD i 0 < gapsG n ts i n) (fun i hi => ⟨hi.1, by have := h.lo i hi.1; have := hi.2; omega⟩) ex
        have ok := hok t ht
        have t0 : ¬ t.1 < 0 := fun z => by
          rw [nd_neg z] at u1
          exact Nat.lt_irrefl n u1.1
        rw [nd_nat t0] at u1 u3
        refine ⟨t.1.toNat, List.mem_range.mpr u1.1, decide_eq_true ?_, decide_eq_false (by have := u1.2; show ¬ ds.getD _ 0 = gapsG n ts _ n; omega)⟩
        have k1 := q.ke t ht (by omega)
        have k2 := b2 _ u1.1
        have k3 : gapsG n ts (nd n t.2.1) n ≤ valD ds n (nd n t.2.1) := by
          unfold valD
          split
          · rename_i e
            rw [e, hd n (Nat.le_refl n)]
            exact Int.le_refl _
          · rename_i e
            have hle := nd_le (n := n) ok.2.2.2.1
            have : ¬ ds.getD (nd n t.2.1) 0 < gapsG n ts (nd n t.2.1) n := fun y => u2 ⟨by omega, y⟩
            omega
        have k2 : es.getD t.1.toNat 0 ≤ gapsG n ts t.1.toNat n := k2
        show es.getD t.1.toNat 0 = gapsG n ts t.1.toNat n
        omega
    have := finals_le n (fun i => gapsG n ts i n) es
    omega
  · exfalso
    obtain ⟨i, hi, lt⟩ := q.mv hm
    have e := finals_all h3 i hi
    have := b2 i hi
    try dsimp only at this e
    omega
theorem Rounds.still {n : Nat} {ts : List Tie} {r : Nat} {ds : List Int} (h : Rounds n ts r ds false) : Rounds n ts (r + 1) ds false := ⟨h.len, h.lo, h.le, (fun _ z => Bool.noConfusion z), h.fx⟩
theorem Rounds.zero (n : Nat) (ts : List Tie) : Rounds n ts 0 (List.replicate n 0) true := by
  have e : ∀ i, (List.replicate n (0 : Int)).getD i 0 = 0 := fun i => by
    rw [List.getD_eq_getElem?_getD, List.getElem?_replicate]
    split <;> rfl
  exact ⟨by simp, fun i _ => by rw [e]; exact Int.le_refl _, fun φ f i hi => by rw [e]; exact f.lo i hi, (fun _ _ => ⟨Nat.zero_le _, Nat.zero_le _⟩), (fun z => Bool.noConfusion z)⟩
/-- at the end: still moving means that they can't be -/
theorem Rounds.end_ {n : Nat} {ts : List Tie} {ds : List Int} (h : Rounds n ts (n + 2) ds true) : ¬ ∀ i, i ≤ n → gapsG n ts i i = 0 := fun hd => by
  have := (h.pr hd rfl).1
  omega
/-! days as ways -/
def wayF (n : Nat) (ds : List Int) : Nat → Int := fun i => if i = n then 0 else ds.getD i 0
theorem dayOf_nd {n : Nat} {ds : List Int} {o : Int} (h1 : o < n) : dayOf ds o = wayF n ds (nd n o) := by
  unfold dayOf wayF nd
  by_cases h : o < 0
  · rw [if_pos h, if_pos h, if_pos rfl]
  · rw [if_neg h, if_neg h, if_neg (by omega)]
/-- a way that keeps the ties -/
structure Way (n : Nat) (ts : List Tie) (ds : List Int) : Prop where
  len : ds.length = n
  rg : ∀ x ∈ ds, 0 ≤ x ∧ x ≤ 9999
  kp : ∀ t ∈ ts, KeptW ds t
theorem Way.feas {n : Nat} {ts : List Tie} {ds : List Int} (hok : ∀ t ∈ ts, TieIx (n : Int) t) (w : Way n ts ds) : Feas n ts (wayF n ds) := by
  have get : ∀ i, i < n → wayF n ds i ∈ ds := fun i hi => by
    unfold wayF
    rw [if_neg (by omega), List.getD_eq_getElem?_getD, List.getElem?_eq_getElem (by rw [w.len]; exact hi)]
    exact List.getElem_mem _
  refine ⟨if_pos rfl, fun i hi => (w.rg _ (get i hi)).1, fun i hi => (w.rg _ (get i hi)).2, fun t ht => ?_⟩
  have ok := hok t ht
  have := w.kp t ht
  unfold KeptW at this
  rw [dayOf_nd (n := n) ok.2.1, dayOf_nd (n := n) ok.2.2.2.1] at this
  exact this
theorem Feas.way {n : Nat} {ts : List Tie} {φ : Nat → Int} (hok : ∀ t ∈ ts, TieIx (n : Int) t) (f : Feas n ts φ) : Way n ts ((List.range n).map φ) := by
  have e : ∀ i, i ≤ n → wayF n ((List.range n).map φ) i = φ i := fun i hi => by
    unfold wayF
    split
    · rename_i e
      rw [e, f.z]
    · rw [List.getD_eq_getElem?_getD, List.getElem?_map, List.getElem?_range (by omega)]
      rfl
  refine ⟨by simp, fun x hx => ?_, fun t ht => ?_⟩
  · obtain ⟨i, hi, rfl⟩ := List.mem_map.mp hx
    exact ⟨f.lo i (List.mem_range.mp hi), f.hi i (List.mem_range.mp hi)⟩
  · have ok := hok t ht
    unfold KeptW
    rw [dayOf_nd (n := n) ok.2.1, dayOf_nd (n := n) ok.2.2.2.1, e _ (nd_le ok.2.1), e _ (nd_le ok.2.2.2.1)]
    exact f.ke t ht
def Can (n : Nat) (ts : List Tie) : Prop := ∃ φ, Feas n ts φ
theorem Can.iff {n : Nat} {ts : List Tie} (hok : ∀ t ∈ ts, TieIx (n : Int) t) : Can n ts ↔ ∀ i, i ≤ n → gapsG n ts i i = 0 := can_iff hok
/-- a round, as far as the ties l -/
structure RoundP (n : Nat) (ts l : List Tie) (ds es : List Int) (moved : Bool) : Prop where
  len : es.length = n
  ge : ∀ i, i < n → ds.getD i 0 ≤ es.getD i 0
  le : ∀ φ, Feas n ts φ → (∀ i, i < n → ds.getD i 0 ≤ φ i) → ∀ i, i < n → es.getD i 0 ≤ φ i
  ke : ∀ t ∈ l, 0 ≤ t.1 → valD ds n (nd n t.2.1) + t.2.2 ≤ es.getD t.1.toNat 0
  mv : moved = true → ∃ i, i < n ∧ ds.getD i 0 < es.getD i 0
  st : moved = false → es = ds
theorem RoundP.start {n : Nat} {ts : List Tie} {ds : List Int} (h : ds.length = n) : RoundP n ts [] ds ds false :=
  ⟨h, fun _ _ => Int.le_refl _, fun _ _ q => q, (fun t ht => absurd ht List.not_mem_nil), (fun z => Bool.noConfusion z), fun _ => rfl⟩
theorem RoundP.done {n : Nat} {ts : List Tie} {ds es : List Int} {mv : Bool} (h : RoundP n ts ts ds es mv) : Round n ts ds es mv := ⟨h.len, h.ge, h.le, h.ke, h.mv, h.st⟩
theorem valD_day {n : Nat} {ds : List Int} {o : Int} (h : o < n) : dayOf ds o = valD ds n (nd n o) := by
  unfold dayOf valD nd
  by_cases h1 : o < 0
  · rw [if_pos h1, if_pos h1, if_pos rfl]
  · rw [if_neg h1, if_neg h1, if_neg (by omega)]
theorem RoundP.pass {n : Nat} {ts l : List Tie} {ds es : List Int} {mv : Bool} {t : Tie} (h : RoundP n ts l ds es mv) (ok : TieIx (n : Int) t) (c : ¬ (0 ≤ t.1 ∧ es.getD t.1.toNat 0 < dayOf es t.2.1 + t.2.2)) : RoundP n ts (l ++ [t]) ds es mv := by
  refine ⟨h.len, h.ge, h.le, fun u hu h0 => ?_, h.mv, h.st⟩
  rcases List.mem_append.mp hu with hu | hu
  · exact h.ke u hu h0
  · rw [List.mem_singleton.mp hu] at h0 ⊢
    have e : valD ds n (nd n t.2.1) ≤ dayOf es t.2.1 := by
      rw [valD_day (n := n) ok.2.2.2.1]
      unfold valD
      split
      · exact Int.le_refl _
      · exact h.ge _ (by have := nd_le (n := n) ok.2.2.2.1; omega)
    omega
theorem getD_set {es : List Int} {i j : Nat} {x : Int} (hj : j < es.length) : (es.set j x).getD i 0 = if i = j then x else es.getD i 0 := by
  rw [List.getD_eq_getElem?_getD, List.getElem?_set]
  by_cases e : j = i
  · subst e
    rw [if_pos rfl, if_pos hj, if_pos rfl]
    rfl
  · rw [if_neg e, if_neg (Ne.symm e), List.getD_eq_getElem?_getD]
theorem RoundP.raise {n : Nat} {ts l : List Tie} {ds es : List Int} {mv : Bool} {t : Tie} (h : RoundP n ts l ds es mv) (ht : t ∈ ts) (ok : TieIx (n : Int) t) (c0 : 0 ≤ t.1) (c : es.getD t.1.toNat 0 < dayOf es t.2.1 + t.2.2) : RoundP n ts (l ++ [t]) ds (es.set t.1.toNat (dayOf es t.2.1 + t.2.2)) true := by
  have hj : t.1.toNat < es.length := by
    have := ok.2.1
    have := h.len
    omega
  have up : ∀ i, es.getD i 0 ≤ (es.set t.1.toNat (dayOf es t.2.1 + t.2.2)).getD i 0 := fun i => by
    rw [getD_set hj]
    split
    · rename_i e
      rw [e]
      omega
    · exact Int.le_refl _
  have e0 : valD ds n (nd n t.2.1) ≤ dayOf es t.2.1 := by
    rw [valD_day (n := n) ok.2.2.2.1]
    unfold valD
    split
    · exact Int.le_refl _
    · exact h.ge _ (by have := nd_le (n := n) ok.2.2.2.1; omega)
  refine ⟨by rw [List.length_set]; exact h.len, fun i hi => Int.le_trans (h.ge i hi) (up i), fun φ f q i hi => ?_, fun u hu h0 => ?_, fun _ => ⟨t.1.toNat, by have := h.len; omega, ?_⟩, fun z => Bool.noConfusion z⟩
  · rw [getD_set hj]
    split
    · rename_i e
      have k := f.ke t ht
      rw [nd_nat (by omega)] at k
      have d : dayOf es t.2.1 ≤ φ (nd n t.2.1) := by
        rw [valD_day (n := n) ok.2.2.2.1]
        unfold valD
        split
        · rename_i e2
          rw [e2, f.z]
          exact Int.le_refl _
        · exact h.le φ f q _ (by have := nd_le (n := n) ok.2.2.2.1; omega)
      rw [e]
      omega
    · exact h.le φ f q i hi
  · rcases List.mem_append.mp hu with hu | hu
    · exact Int.le_trans (h.ke u hu h0) (up _)
    · rw [List.mem_singleton.mp hu, getD_set hj, if_pos rfl]
      omega
  · have := h.ge t.1.toNat (by have := h.len; omega)
    rw [getD_set hj, if_pos rfl]
    omega
/-- at the end of all rounds: where they can be, the days keep all -/
theorem Rounds.keeps {n : Nat} {ts : List Tie} {r : Nat} {ds : List Int} (hok : ∀ t ∈ ts, TieIx (n : Int) t) (h : Rounds n ts r ds false) (c : Can n ts) : ∀ t ∈ ts, KeptW ds t := by
  intro t ht
  have ok := hok t ht
  obtain ⟨φ, f⟩ := c
  unfold KeptW
  by_cases h0 : t.1 < 0
  · rw [dayOf_neg h0, valD_day (n := n) ok.2.2.2.1]
    have k := f.ke t ht
    rw [nd_neg h0, f.z] at k
    have d : valD ds n (nd n t.2.1) ≤ φ (nd n t.2.1) := by
      unfold valD
      split
      · rename_i e2
        rw [e2, f.z]
        exact Int.le_refl _
      · exact h.le φ f _ (by have := nd_le (n := n) ok.2.2.2.1; omega)
    omega
  · have k := h.fx rfl t ht (by omega)
    rw [valD_day (n := n) ok.2.2.2.1]
    have e : dayOf ds t.1 = ds.getD t.1.toNat 0 := if_neg h0
    rw [e]
    omega
/-- the gaps hang on what is kept alone -/
theorem gaps_congr {n : Nat} {ts us : List Tie} (h1 : ∀ t ∈ ts, TieIx (n : Int) t) (h2 : ∀ t ∈ us, TieIx (n : Int) t) (e : ∀ φ, Feas n ts φ ↔ Feas n us φ) (c : Can n ts) {i j : Nat} (hi : i ≤ n) (hj : j ≤ n) : gapsG n ts i j = gapsG n us i j := by
  have c2 : Can n us := by
    obtain ⟨φ, f⟩ := c
    exact ⟨φ, (e φ).mp f⟩
  have d1 := (can_iff h1).mp c
  have d2 := (can_iff h2).mp c2
  have a1 := gap_le ((e _).mp (feas_gap h1 d1 hj)) hi hj
  have a2 := gap_le ((e _).mpr (feas_gap h2 d2 hj)) hi hj
  have b1 := d1 j hj
  have b2 := d2 j hj
  omega
/-- the least days, as a list -/
theorem least_is {n : Nat} {ts : List Tie} (hok : ∀ t ∈ ts, TieIx (n : Int) t) {ds : List Int} (w : Way n ts ds) (l : ∀ φ, Feas n ts φ → ∀ i, i < n → ds.getD i 0 ≤ φ i) : ds = (List.range n).map fun i => gapsG n ts i n := by
  have c := w.feas hok
  have d := (can_iff hok).mp ⟨_, c⟩
  apply List.ext_getElem?
  intro i
  rcases Nat.lt_or_ge i n with h | h
  · have h1 := l _ (feas_least hok d) i h
    have h2 := gap_le c (Nat.le_of_lt h) (Nat.le_refl n)
    have e1 : wayF n ds i = ds.getD i 0 := if_neg (by omega)
    rw [e1, c.z] at h2
    have e2 : ds[i]? = some (ds.getD i 0) := by
      rw [List.getD_eq_getElem?_getD, List.getElem?_eq_getElem (by rw [w.len]; exact h)]
      rfl
    rw [e2, List.getElem?_map, List.getElem?_range h]
    show some (ds.getD i 0) = some (gapsG n ts i n)
    congr 1
    omega
  · rw [List.getElem?_eq_none (by rw [w.len]; exact h), List.getElem?_eq_none (by simpa using h)]
/-- the greatest days -/
theorem greatest {n : Nat} {ts : List Tie} (hok : ∀ t ∈ ts, TieIx (n : Int) t) (d : ∀ i, i ≤ n → gapsG n ts i i = 0) {k : Nat} (hk : k < n) : (∃ φ, Feas n ts φ ∧ φ k = - gapsG n ts n k) ∧ ∀ φ, Feas n ts φ → φ k ≤ - gapsG n ts n k := by
  refine ⟨⟨_, feas_gap hok d (Nat.le_of_lt hk), ?_⟩, fun φ f => ?_⟩
  · have := d k (Nat.le_of_lt hk)
    show gapsG n ts k k - gapsG n ts n k = _
    omega
  · have := gap_le f (Nat.le_refl n) (Nat.le_of_lt hk)
    rw [f.z] at this
    omega
end LH

set_option Elab.async false
set_option linter.all false
set_option maxRecDepth 100000
set_option maxHeartbeats 4000000
namespace LH
open PySem PySem.Spec PyProof.Rows L2
/-! a square of numbers, a list for each row -/
def rowL (n : Nat) (r : Nat → Int) : List Int := (List.range (n + 1)).map r
structure MatAt (H : Hp) (as : List Addr) (R : Nat → Nat → Int) (n : Nat) : Prop where
  len : as.length = n + 1
  nd : as.Nodup
  row : ∀ i a, as[i]? = some a → H a = some (.lst ((rowL n (R i)).map V.int))
theorem rowL_len (n : Nat) (r : Nat → Int) : (rowL n r).length = n + 1 := by simp [rowL]
theorem rowL_get {n j : Nat} (r : Nat → Int) (h : j ≤ n) : (rowL n r)[j]? = some (r j) := by
  unfold rowL
  rw [List.getElem?_map, List.getElem?_range (by omega)]
  rfl
theorem rowL_congr {n : Nat} {r q : Nat → Int} (h : ∀ j, j ≤ n → r j = q j) : rowL n r = rowL n q := by
  unfold rowL
  exact List.map_congr_left fun j hj => h j (by have := List.mem_range.mp hj; omega)
theorem MatAt.mono {H H' : Hp} {as : List Addr} {R : Nat → Nat → Int} {n : Nat} (e : Same H H') (h : MatAt H as R n) : MatAt H' as R n := ⟨h.len, h.nd, fun i a ha => e _ _ (h.row i a ha)⟩
theorem MatAt.congr {H : Hp} {as : List Addr} {R R' : Nat → Nat → Int} {n : Nat} (h : MatAt H as R n) (e : ∀ i j, i ≤ n → j ≤ n → R i j = R' i j) : MatAt H as R' n :=
  ⟨h.len, h.nd, fun i a ha => by
    have hi : i < as.length := (List.getElem?_eq_some_iff.mp ha).1
    rw [← rowL_congr fun j hj => e i j (by have := h.len; omega) hj]
    exact h.row i a ha⟩
theorem MatAt.get {H : Hp} {as : List Addr} {R : Nat → Nat → Int} {n : Nat} (h : MatAt H as R n) {i : Nat} (hi : i ≤ n) : ∃ a, as[i]? = some a ∧ H a = some (.lst ((rowL n (R i)).map V.int)) := by
  have q : i < as.length := by rw [h.len]; omega
  exact ⟨_, List.getElem?_eq_getElem q, h.row i _ (List.getElem?_eq_getElem q)⟩
/-- places from the end, too -/
theorem at_nd {α : Type} {l : List α} {n : Nat} {o : Int} {v : α} (hl : l.length = n + 1) (h1 : -1 ≤ o) (h2 : o ≤ n) (e : l[nd n o]? = some v) : atI l o = some v := by
  unfold atI ixN
  rw [hl]
  by_cases h : o < 0
  · have e1 : o = -1 := by omega
    subst e1
    rw [nd_neg h] at e
    rw [if_neg (by omega), if_pos (by omega), show ((-1 : Int) + ((n + 1 : Nat) : Int)).toNat = n by omega]
    exact e
  · rw [nd_nat h] at e
    rw [if_pos (by omega), if_pos (by omega)]
    exact e
theorem ix_nd {m n : Nat} {o : Int} (hl : m = n + 1) (h1 : -1 ≤ o) (h2 : o ≤ n) : ixN m o = some (nd n o) := by
  unfold ixN
  by_cases h : o < 0
  · have e1 : o = -1 := by omega
    subst e1
    rw [nd_neg h, if_neg (by omega), if_pos (by omega), show ((-1 : Int) + ((m : Nat) : Int)).toNat = n by omega]
  · rw [nd_nat h, if_pos (by omega), if_pos (by omega)]
theorem get_refs {as : List Addr} {i : Nat} {a : Addr} (h : as[i]? = some a) : (as.map V.ref)[i]? = some (V.ref a) := by
  rw [List.getElem?_map, h]
  rfl
theorem row_at {n : Nat} {r : Nat → Int} {o : Int} (h1 : -1 ≤ o) (h2 : o ≤ n) (hn : nd n o ≤ n) : atI ((rowL n r).map V.int) o = some (V.int (r (nd n o))) :=
  at_nd (by simp [rowL_len]) h1 h2 (by rw [List.getElem?_map, rowL_get r hn]; rfl)
theorem rowL_set {n j : Nat} {r : Nat → Int} {x : Int} (h : j ≤ n) : (rowL n r).set j x = rowL n (fun k => if k = j then x else r k) := by
  apply List.ext_getElem?
  intro k
  rcases Nat.lt_or_ge k (n + 1) with h1 | h1
  · rw [rowL_get _ (by omega), List.getElem?_set]
    by_cases e : j = k
    · subst e
      rw [if_pos rfl, rowL_len, if_pos (by omega), if_pos rfl]
    · rw [if_neg e, rowL_get _ (by omega), if_neg (Ne.symm e)]
  · rw [List.getElem?_eq_none (by rw [List.length_set, rowL_len]; exact h1), List.getElem?_eq_none (by rw [rowL_len]; exact h1)]
/-- one cell stored -/
theorem MatAt.set {H : Hp} {as : List Addr} {R : Nat → Nat → Int} {n i j : Nat} {a : Addr} {x : Int} (h : MatAt H as R n) (ha : as[i]? = some a) (hj : j ≤ n) :
    MatAt (upd H a (.lst (((rowL n (R i)).map V.int).set j (V.int x)))) as (fun k l => if k = i ∧ l = j then x else R k l) n := by
  refine ⟨h.len, h.nd, fun k b hb => ?_⟩
  by_cases e : k = i
  · subst e
    rw [ha] at hb
    cases hb
    rw [upd_same, ← List.map_set, rowL_set hj]
    congr 4
    funext l
    by_cases q : l = j <;> simp [q]
  · have ne : b ≠ a := fun z => e (nd_ix h.nd (by rw [z] at hb; exact hb) ha)
    rw [upd_ne ne, h.row k b hb]
    congr 4
    funext l
    rw [if_neg fun z => e z.1]
theorem max_if (a b : Int) : (if b > a then b else a) = max a b := by
  split <;> omega
/-- the first row of a square of gaps -/
theorem row0_eq (n : Nat) : List.replicate n (-9999 : Int) ++ [0] = rowL n (fun j => if j = n then 0 else -9999) := by
  apply List.ext_getElem?
  intro k
  rcases Nat.lt_trichotomy k n with h | h | h
  · rw [List.getElem?_append_left (by simpa using h), List.getElem?_replicate, if_pos h, rowL_get _ (by omega), if_neg (by omega)]
  · subst h
    rw [List.getElem?_append_right (by simp), rowL_get _ (Nat.le_refl _), if_pos rfl]
    simp
  · rw [List.getElem?_eq_none (by simp; omega), List.getElem?_eq_none (by rw [rowL_len]; omega)]
theorem all_diag {n : Nat} {R : Nat → Nat → Int} : ((List.range (n + 1)).map fun i => decide (R i i = 0)).all id = true ↔ ∀ i, i ≤ n → R i i = 0 := by
  rw [List.all_map, List.all_eq_true]
  constructor
  · intro h i hi
    have := h i (List.mem_range.mpr (by omega))
    exact of_decide_eq_true this
  · intro h i hi
    exact decide_eq_true (h i (by have := List.mem_range.mp hi; omega))
def retE (st : Stmt) : Expr := match st with
  | .Return (some e) _ => e
  | _ => .Constant .none 0 ⟨0, 0, 0, 0⟩
def lcScope (e : Expr) : Scope := match e with
  | .ListComp _ _ sc _ => sc
  | _ => { kind := .function, names := [], isGenerator := false, isCoroutine := false }
structure MaybeAt (H H' : Hp) (p l : Addr) (xs : List V) (ts : List Tie) (m most : Int) : Prop where
  same : Same H H'
  np : H p = none
  nl : H l = none
  tup : H' p = some (.tup [.int m, .ref l])
  lst : H' l = some (.lst xs)
  ties : TiesAt H' xs ts
  m1 : 1 ≤ m
  m10 : m ≤ 10
  ok : ∀ t ∈ ts, TieOk m t
  tl : (ts.length : Int) ≤ most
/-- what the law's own raising of days tells -/
def EarlyIs (n : Nat) (ts : List Tie) (H H' : Hp) (v : V) : Prop :=
  (v = .non ∧ ¬ Can n ts) ∨ ∃ (p : Addr) (ds : List Int), v = .ref p ∧ H p = none ∧ H' p = some (.lst (ds.map V.int)) ∧ Way n ts ds ∧ ∀ φ, Feas n ts φ → ∀ i, i < n → ds.getD i 0 ≤ φ i
theorem Way.can {n : Nat} {ts : List Tie} {ds : List Int} (hok : ∀ t ∈ ts, TieIx (n : Int) t) (w : Way n ts ds) : Can n ts := ⟨_, w.feas hok⟩
theorem TieOk.mono {m m' : Int} {t : Tie} (h : TieOk m t) (e : m ≤ m') : TieOk m' t := by
  unfold TieOk at *
  omega
theorem mem_rep {α : Type} {x : α} {l : List α} : ∀ {k : Nat}, x ∈ (List.replicate k l).flatten → x ∈ l
  | 0, h => by simp at h
  | k + 1, h => by
    rw [List.replicate_succ, List.flatten_cons] at h
    rcases List.mem_append.mp h with h | h
    · exact h
    · exact mem_rep h
theorem ties_cut {H : Hp} {zs : List V} {us : List Tie} (h : TiesAt H zs us) (k : Nat) : ∃ vs : List Tie, TiesAt H (cutV zs none (some (k : Int))) vs ∧ vs.length ≤ k ∧ ∀ t ∈ vs, t ∈ us := by
  unfold cutV
  refine ⟨_, (h.drop _).take _, ?_, fun t ht => List.mem_of_mem_drop (List.mem_of_mem_take ht)⟩
  rw [List.length_take]
  refine Nat.le_trans (Nat.min_le_left _ _) ?_
  rw [HT.sIx_nat, HT.sIx_none]
  omega
theorem rep_len {α : Type} (l : List α) (k : Nat) : (List.replicate k l).flatten.length = k * l.length := by simp
theorem cut_back {α : Type} (f : α → V) {xs : List α} {n : Nat} (h : xs.length = n + 1) : cutV (xs.map f) none (some (-1)) = (xs.take n).map f := by
  unfold cutV
  have e : HT.sIx (n + 1) (n + 1) (some (-1)) = n := by
    simp only [HT.sIx]
    first | omega | (simp; omega) | simp
  rw [List.length_map, h, HT.sIx_none, e, List.drop_zero, Nat.sub_zero, List.map_take]
theorem cut_last {as : List Addr} {n : Nat} (h : as.length = n + 1) : cutV (as.map V.ref) none (some (-1)) = (as.take n).map V.ref := cut_back _ h
theorem cut_row {n : Nat} {r : Nat → Int} : cutV ((rowL n r).map V.int) none (some (-1)) = ((List.range n).map r).map V.int := by
  rw [cut_back _ (rowL_len n r)]
  unfold rowL
  rw [← List.map_take, List.take_range]
  simp
end LH

set_option Elab.async false
set_option linter.all false
set_option maxRecDepth 100000
set_option maxHeartbeats 4000000
namespace LH
open PySem PySem.Spec PyProof.Rows L2
/-! lives by other numbers -/
def renO (fs : List Nat) (o : Int) : Int := if o < 0 then -1 else ((fs.getD o.toNat 0 : Nat) : Int)
def renT (fs : List Nat) (t : Tie) : Tie := (renO fs t.1, renO fs t.2.1, t.2.2)
def renN (fs : List Nat) (n i : Nat) : Nat := if i = n then n else fs.getD i 0
section
variable {n : Nat} {fs : List Nat} (hp : fs.Perm (List.range n))
include hp
theorem perm_len : fs.length = n := by
  rw [hp.length_eq, List.length_range]
theorem perm_lt {i : Nat} (hi : i < n) : fs.getD i 0 < n := by
  have h : fs.getD i 0 ∈ fs := by
    rw [List.getD_eq_getElem?_getD, List.getElem?_eq_getElem (by rw [perm_len hp]; exact hi)]
    exact List.getElem_mem _
  exact List.mem_range.mp (hp.mem_iff.mp h)
theorem perm_nd : fs.Nodup := hp.nodup_iff.mpr List.nodup_range
theorem perm_inj {i j : Nat} (hi : i < n) (hj : j < n) (e : fs.getD i 0 = fs.getD j 0) : i = j := by
  have l := perm_len hp
  have a : fs[i]? = some (fs.getD i 0) := by
    rw [List.getD_eq_getElem?_getD, List.getElem?_eq_getElem (by omega)]
    rfl
  have b : fs[j]? = some (fs.getD i 0) := by
    rw [e, List.getD_eq_getElem?_getD, List.getElem?_eq_getElem (by omega)]
    rfl
  exact nd_ix (perm_nd hp) a b
theorem perm_sur {j : Nat} (hj : j < n) : ∃ i, i < n ∧ fs.getD i 0 = j := by
  have h : j ∈ fs := hp.mem_iff.mpr (List.mem_range.mpr hj)
  obtain ⟨i, hi⟩ := List.getElem?_of_mem h
  have hl : i < fs.length := (List.getElem?_eq_some_iff.mp hi).1
  exact ⟨i, by rw [perm_len hp] at hl; exact hl, getD_of hi⟩
theorem renN_le {i : Nat} (hi : i ≤ n) : renN fs n i ≤ n := by
  unfold renN
  split
  · exact Nat.le_refl _
  · exact Nat.le_of_lt (perm_lt hp (by omega))
theorem renN_inj {i j : Nat} (hi : i ≤ n) (hj : j ≤ n) (e : renN fs n i = renN fs n j) : i = j := by
  unfold renN at e
  by_cases a : i = n
  · by_cases b : j = n
    · omega
    · rw [if_pos a, if_neg b] at e
      have := perm_lt hp (i := j) (by omega)
      omega
  · by_cases b : j = n
    · rw [if_neg a, if_pos b] at e
      have := perm_lt hp (i := i) (by omega)
      omega
    · rw [if_neg a, if_neg b] at e
      exact perm_inj hp (by omega) (by omega) e
theorem nd_ren {o : Int} (h2 : o < n) : nd n (renO fs o) = renN fs n (nd n o) := by
  unfold renO
  by_cases h : o < 0
  · rw [if_pos h, nd_neg (by decide), nd_neg h]
    unfold renN
    rw [if_pos rfl]
  · rw [if_neg h, nd_nat (by omega), nd_nat h]
    unfold renN
    rw [if_neg (by omega)]
    omega
theorem feas_ren {ts : List Tie} (hok : ∀ t ∈ ts, TieIx (n : Int) t) (ψ : Nat → Int) : Feas n (ts.map (renT fs)) ψ ↔ Feas n ts (fun i => ψ (renN fs n i)) := by
  have zz : renN fs n n = n := if_pos rfl
  constructor
  · intro f
    refine ⟨by rw [zz]; exact f.z, fun i hi => ?_, fun i hi => ?_, fun t ht => ?_⟩
    · have e : renN fs n i = fs.getD i 0 := if_neg (by omega)
      rw [e]
      exact f.lo _ (perm_lt hp hi)
    · have e : renN fs n i = fs.getD i 0 := if_neg (by omega)
      rw [e]
      exact f.hi _ (perm_lt hp hi)
    · have k := f.ke (renT fs t) (List.mem_map_of_mem ht)
      have ok := hok t ht
      unfold renT at k
      dsimp only at k
      rw [nd_ren hp ok.2.1, nd_ren hp ok.2.2.2.1] at k
      exact k
  · intro f
    refine ⟨by have := f.z; rw [zz] at this; exact this, fun j hj => ?_, fun j hj => ?_, fun u hu => ?_⟩
    · obtain ⟨i, hi, e⟩ := perm_sur hp hj
      have := f.lo i hi
      have e2 : renN fs n i = fs.getD i 0 := if_neg (by omega)
      rw [e2, e] at this
      exact this
    · obtain ⟨i, hi, e⟩ := perm_sur hp hj
      have := f.hi i hi
      have e2 : renN fs n i = fs.getD i 0 := if_neg (by omega)
      rw [e2, e] at this
      exact this
    · obtain ⟨t, ht, rfl⟩ := List.mem_map.mp hu
      have ok := hok t ht
      have k := f.ke t ht
      unfold renT
      dsimp only
      rw [nd_ren hp ok.2.1, nd_ren hp ok.2.2.2.1]
      exact k
theorem ren_back (φ : Nat → Int) : ∃ ψ : Nat → Int, ∀ i, i ≤ n → ψ (renN fs n i) = φ i := by
  classical
  refine ⟨fun j => if h : ∃ i, i ≤ n ∧ renN fs n i = j then φ h.choose else 0, fun i hi => ?_⟩
  have h : ∃ k, k ≤ n ∧ renN fs n k = renN fs n i := ⟨i, hi, rfl⟩
  show (if h : ∃ k, k ≤ n ∧ renN fs n k = renN fs n i then φ h.choose else 0) = φ i
  rw [dif_pos h]
  exact congrArg φ (renN_inj hp h.choose_spec.1 hi h.choose_spec.2)
theorem feas_val {ts : List Tie} {φ χ : Nat → Int} (hok : ∀ t ∈ ts, TieIx (n : Int) t) (f : Feas n ts φ) (e : ∀ i, i ≤ n → χ i = φ i) : Feas n ts χ := by
  refine ⟨by rw [e n (Nat.le_refl n)]; exact f.z, fun i hi => by rw [e i (Nat.le_of_lt hi)]; exact f.lo i hi, fun i hi => by rw [e i (Nat.le_of_lt hi)]; exact f.hi i hi, fun t ht => ?_⟩
  have ok := hok t ht
  rw [e _ (nd_le ok.2.1), e _ (nd_le ok.2.2.2.1)]
  exact f.ke t ht
theorem can_ren {ts : List Tie} (hok : ∀ t ∈ ts, TieIx (n : Int) t) : Can n (ts.map (renT fs)) ↔ Can n ts := by
  constructor
  · rintro ⟨ψ, f⟩
    exact ⟨_, (feas_ren hp hok ψ).mp f⟩
  · rintro ⟨φ, f⟩
    obtain ⟨ψ, e⟩ := ren_back hp φ
    exact ⟨ψ, (feas_ren hp hok ψ).mpr (feas_val hp hok f e)⟩
theorem ren_ok {m : Int} {t : Tie} (hm : m = (n : Int)) (h : TieOk m t) : TieOk m (renT fs t) := by
  subst hm
  obtain ⟨h1, h2, h3, h4, h5, h6, h7⟩ := h
  unfold TieOk renT
  dsimp only
  have r : ∀ o : Int, -1 ≤ o → o < n → -1 ≤ renO fs o ∧ renO fs o < n := fun o a b => by
    unfold renO
    split
    · omega
    · have := perm_lt hp (i := o.toNat) (by omega)
      omega
  obtain ⟨a1, a2⟩ := r _ h1 h2
  obtain ⟨b1, b2⟩ := r _ h3 h4
  refine ⟨a1, a2, b1, b2, fun e => h5 ?_, h6, h7⟩
  unfold renO at e
  by_cases c1 : t.1 < 0
  · by_cases c2 : t.2.1 < 0
    · omega
    · rw [if_pos c1, if_neg c2] at e
      omega
  · by_cases c2 : t.2.1 < 0
    · rw [if_neg c1, if_pos c2] at e
      omega
    · rw [if_neg c1, if_neg c2] at e
      have := perm_inj hp (i := t.1.toNat) (j := t.2.1.toNat) (by omega) (by omega) (by omega)
      omega
theorem gap_ren {ts : List Tie} (hok : ∀ t ∈ ts, TieIx (n : Int) t) (hok2 : ∀ t ∈ ts.map (renT fs), TieIx (n : Int) t) (c : Can n ts) {i j : Nat} (hi : i ≤ n) (hj : j ≤ n) : gapsG n (ts.map (renT fs)) (renN fs n i) (renN fs n j) = gapsG n ts i j := by
  have d1 := (can_iff hok).mp c
  have d2 := (can_iff hok2).mp ((can_ren hp hok).mpr c)
  have a1 := gap_le ((feas_ren hp hok _).mp (feas_gap hok2 d2 (renN_le hp hj))) hi hj
  obtain ⟨ψ, e⟩ := ren_back hp (fun i => gapsG n ts i j - gapsG n ts n j)
  have a2 := gap_le ((feas_ren hp hok ψ).mpr (feas_val hp hok (feas_gap hok d1 hj) e)) (renN_le hp hi) (renN_le hp hj)
  rw [e i hi, e j hj] at a2
  have b1 := d1 j hj
  have b2 := d2 _ (renN_le hp hj)
  omega
end
/-! another order, ties twice, weaker ones beside -/
def weakT (less : Int) (t : Tie) : Tie := (t.1, t.2.1, if t.2.2 - less > -9999 then t.2.2 - less else -9999)
def tie0 : Tie := (0, 0, 0)
theorem feas_other {n : Nat} {ts : List Tie} {ps : List Nat} {less : Int} (hl : 0 ≤ less) (hok : ∀ t ∈ ts, TieOk (n : Int) t) (hp : ps.Perm (List.range ts.length)) (φ : Nat → Int) :
    Feas n ts φ ↔ Feas n (ps.map (fun j => ts.getD j tie0) ++ ts.take 5 ++ (ts.drop 5).map (weakT less)) φ := by
  have mem : ∀ t, t ∈ ps.map (fun j => ts.getD j tie0) ↔ t ∈ ts := fun t => by
    constructor
    · intro h
      obtain ⟨j, hj, rfl⟩ := List.mem_map.mp h
      have hj := List.mem_range.mp (hp.mem_iff.mp hj)
      rw [List.getD_eq_getElem?_getD, List.getElem?_eq_getElem hj]
      exact List.getElem_mem _
    · intro h
      obtain ⟨j, hj⟩ := List.getElem?_of_mem h
      have hl := (List.getElem?_eq_some_iff.mp hj).1
      exact List.mem_map.mpr ⟨j, hp.mem_iff.mpr (List.mem_range.mpr hl), getD_of hj⟩
  constructor
  · intro f
    refine ⟨f.z, f.lo, f.hi, fun t ht => ?_⟩
    rcases List.mem_append.mp ht with ht | ht
    · rcases List.mem_append.mp ht with ht | ht
      · exact f.ke t ((mem t).mp ht)
      · exact f.ke t (List.mem_of_mem_take ht)
    · obtain ⟨u, hu, rfl⟩ := List.mem_map.mp ht
      have hu := List.mem_of_mem_drop hu
      have k := f.ke u hu
      have ok := hok u hu
      have l1 := f.lo' (nd_le (n := n) ok.2.1)
      have h2 : φ (nd n u.2.1) ≤ 9999 := by
        rcases Nat.lt_or_ge (nd n u.2.1) n with z | z
        · exact f.hi _ z
        · have := nd_le (n := n) ok.2.2.2.1
          have e : nd n u.2.1 = n := by omega
          rw [e, f.z]
          decide
      unfold weakT
      dsimp only
      split <;> omega
  · intro f
    exact ⟨f.z, f.lo, f.hi, fun t ht => f.ke t (List.mem_append_left _ (List.mem_append_left _ ((mem t).mpr ht)))⟩
theorem ok_other {n : Nat} {ts : List Tie} {ps : List Nat} {less : Int} (hl : 0 ≤ less) (hok : ∀ t ∈ ts, TieOk (n : Int) t) (hp : ps.Perm (List.range ts.length)) :
    ∀ t ∈ ps.map (fun j => ts.getD j tie0) ++ ts.take 5 ++ (ts.drop 5).map (weakT less), TieOk (n : Int) t := by
  intro t ht
  rcases List.mem_append.mp ht with ht | ht
  · rcases List.mem_append.mp ht with ht | ht
    · obtain ⟨j, hj, rfl⟩ := List.mem_map.mp ht
      have hj := List.mem_range.mp (hp.mem_iff.mp hj)
      refine hok _ ?_
      rw [List.getD_eq_getElem?_getD, List.getElem?_eq_getElem hj]
      exact List.getElem_mem _
    · exact hok t (List.mem_of_mem_take ht)
  · obtain ⟨u, hu, rfl⟩ := List.mem_map.mp ht
    have ok := hok u (List.mem_of_mem_drop hu)
    unfold weakT
    unfold TieOk at ok ⊢
    dsimp only
    split <;> omega
theorem cut_ties_to (k : Nat) (xs : List V) : cutV xs none (some (k : Int)) = xs.take k := by
  unfold cutV
  rw [HT.sIx_nat, HT.sIx_none, List.drop_zero, Nat.sub_zero]
  rcases Nat.le_total k xs.length with h | h
  · rw [Nat.min_eq_left h]
  · rw [Nat.min_eq_right h, List.take_length, List.take_of_length_le h]
theorem cut_from (k : Nat) (xs : List V) : cutV xs (some (k : Int)) none = xs.drop k := by
  unfold cutV
  rw [HT.sIx_nat, HT.sIx_none]
  rcases Nat.le_total k xs.length with h | h
  · rw [Nat.min_eq_left h, ← List.length_drop, List.take_length]
  · rw [Nat.min_eq_right h, List.drop_length, List.drop_eq_nil_of_le h, List.take_nil]
theorem erase_map {α β : Type} (f : α → β) : ∀ (l : List α) (i : Nat), (l.map f).eraseIdx i = (l.eraseIdx i).map f
  | [], _ => rfl
  | _ :: _, 0 => rfl
  | a :: l, i + 1 => by
    show f a :: (l.map f).eraseIdx i = f a :: (l.eraseIdx i).map f
    rw [erase_map f l i]
theorem perm_erase {α : Type} : ∀ {l : List α} {i : Nat} {x : α}, l[i]? = some x → (x :: l.eraseIdx i).Perm l
  | [], i, x, h => by simp at h
  | a :: l, 0, x, h => by
    have e : a = x := Option.some.inj h
    subst e
    exact List.Perm.refl _
  | a :: l, i + 1, x, h => by
    have ih := perm_erase (l := l) (i := i) (x := x) h
    show (x :: a :: l.eraseIdx i).Perm (a :: l)
    exact (List.Perm.swap a x _).trans (List.Perm.cons a ih)
theorem ties_pick {H : Hp} {xs : List V} {ts : List Tie} (h : TiesAt H xs ts) : ∀ ps : List Nat, (∀ j ∈ ps, j < xs.length) → TiesAt H (ps.map fun j => xs.getD j .non) (ps.map fun j => ts.getD j tie0)
  | [], _ => trivial
  | j :: ps, hp => by
    have hj := hp j List.mem_cons_self
    obtain ⟨t, ht, hv⟩ := h.get (List.getElem?_eq_getElem hj)
    refine ⟨?_, ties_pick h ps fun k hk => hp k (List.mem_cons_of_mem _ hk)⟩
    show TieAt H (xs.getD j .non) (ts.getD j tie0)
    rw [List.getD_eq_getElem?_getD, List.getElem?_eq_getElem hj, getD_of ht]
    exact hv
/-- -1 if o < 0 else names[o] -/
theorem if_name {K : PySem.W.Frag} {fs : List Nat} {a : Addr} {o : Int} {i j : Nat} {σ : L2.St} {H : Hp} {Q : VK} (hS : SqL K H a ((fs.map fun j : Nat => (j : Int)).map V.int)) (hi : σ[i]? = some (some (.int o))) (hj : σ[j]? = some (some (.ref a))) (ho : o < fs.length) (q : Q (.int (renO fs o)) H) :
    tIf (tTest (tOp (rI0 fun i j => .bl (decide (i < j))) (tVar i) (tC (.int 0)))) (tUn (rU fun i => .int (-i)) (tC (.int 1))) (tOp (rIxL K) (tVar j) (tVar i)) σ H Q := by
  refine ⟨_, hi, _, _, rfl, rfl, _, rfl, ?_⟩
  refine ite2 (fun c => ?_) (fun c => ?_)
  · have c : o < 0 := of_decide_eq_true c
    unfold renO at q
    rw [if_pos c] at q
    exact ⟨_, rfl, q⟩
  · have c : ¬ o < 0 := fun z => c (decide_eq_true z)
    unfold renO at q
    rw [if_neg c] at q
    have hl : o.toNat < fs.length := by omega
    refine ⟨_, hj, _, hi, a, _, o, _, rfl, rfl, hS, at_of (j := o.toNat) (by omega) ?_, q⟩
    rw [List.getElem?_map, List.getElem?_map, List.getElem?_eq_getElem hl, List.getD_eq_getElem?_getD, List.getElem?_eq_getElem hl]
    rfl
theorem get_nats {fs : List Nat} {i : Nat} {y : V} (hi : ((fs.map fun j : Nat => (j : Int)).map V.int)[i]? = some y) : ∃ j, fs[i]? = some j ∧ y = V.int (j : Int) := by
  rw [List.getElem?_map, List.getElem?_map] at hi
  cases e : fs[i]? with
  | none => rw [e] at hi; cases hi
  | some j => rw [e] at hi; exact ⟨j, rfl, (Option.some.inj hi).symm⟩
theorem at_nats {fs : List Nat} {i : Nat} {o : Int} (e : o = (i : Int)) (h : i < fs.length) : atI ((fs.map fun j : Nat => (j : Int)).map V.int) o = some (V.int ((fs.getD i 0 : Nat) : Int)) := by
  refine at_of (j := i) e ?_
  rw [List.getElem?_map, List.getElem?_map, List.getElem?_eq_getElem h, List.getD_eq_getElem?_getD, List.getElem?_eq_getElem h]
  rfl
theorem at_rangeI {n i : Nat} {f : Nat → Int} {o : Int} (e : o = (i : Int)) (h : i < n) : atI (((List.range n).map f).map V.int) o = some (V.int (f i)) := by
  refine at_of (j := i) e ?_
  rw [List.getElem?_map, List.getElem?_map, List.getElem?_range h]
  rfl
theorem shaped_bb (a b : Bool) : SeqAt.shaped (.list [.bool a, .bool b]) = true := rfl
end LH

set_option Elab.async false
set_option linter.all false
set_option maxRecDepth 100000
set_option maxHeartbeats 4000000
/-! rows, days, runs; len(set(xs)) of any ints -/
namespace LH
open PySem PySem.Spec PyProof.Rows L2
theorem fm_mem (f : Nat → Int) : ∀ i j, j < i → f j ∈ PyProof.Rows.firstMet f i
  | 0, j, h => absurd h (Nat.not_lt_zero j)
  | i + 1, j, h => by
    rw [PyProof.Rows.firstMet_succ]
    unfold PyProof.Rows.step_dedup
    rcases Nat.lt_succ_iff_lt_or_eq.mp h with h | rfl
    · have := fm_mem f i j h
      split
      · exact this
      · exact List.mem_append_left _ this
    · split
      · rename_i c
        obtain ⟨x, hx, e⟩ := List.any_eq_true.mp c
        rw [← beq_iff_eq.mp e]
        exact hx
      · exact List.mem_append_right _ (List.mem_singleton.mpr rfl)
theorem fm_ne (f : Nat → Int) : ∀ i, (PyProof.Rows.firstMet f i).length = i → ∀ j k, j < k → k < i → f j ≠ f k
  | 0, _, j, k, _, h => absurd h (Nat.not_lt_zero k)
  | i + 1, hl, j, k, hj, hk => by
    have le := PyProof.Rows.firstMet_length_le f i
    rw [PyProof.Rows.firstMet_succ] at hl
    unfold PyProof.Rows.step_dedup at hl
    split at hl
    · omega
    · rename_i c
      rw [List.length_append, List.length_singleton] at hl
      rcases Nat.lt_succ_iff_lt_or_eq.mp hk with hk | rfl
      · exact fm_ne f i (by omega) j k hj hk
      · intro e
        exact c (List.any_eq_true.mpr ⟨f j, fm_mem f k j hj, by rw [e]; exact beq_self_eq_true _⟩)
/-- how many unlike ones -/
def dedN (ns : List Int) : Nat := (PyProof.Rows.firstMet (fun i => ns.getD i 0) ns.length).length
theorem dedN_le (ns : List Int) : dedN ns ≤ ns.length := PyProof.Rows.firstMet_length_le _ _
theorem dedN_iff (ns : List Int) : dedN ns = ns.length ↔ ns.Nodup := by
  constructor
  · intro h
    refine List.pairwise_iff_getElem.mpr fun j k hj hk hjk => ?_
    have := fm_ne _ _ h j k hjk hk
    rw [List.getD_eq_getElem?_getD, List.getD_eq_getElem?_getD, List.getElem?_eq_getElem hj, List.getElem?_eq_getElem hk] at this
    exact this
  · intro h
    unfold dedN
    rw [RZ.firstMet_nodup h ns.length (Nat.le_refl _), List.take_length]
def tLenSetG (K : PySem.W.Frag) (ta : TE) : TE := fun σ H Q => ta σ H fun x H1 => ∃ (l : Addr) (ns : List Int), x = .ref l ∧ SqL K H1 l (ns.map V.int) ∧ ns.length ≤ 4000 ∧ Q (.int (dedN ns : Nat)) H1
theorem pe_lenSetG {X : Cx} (K : PySem.W.Frag) {a : Expr} {ta : TE} {p p2 q pos : Pos} (hg : Gl X "len") (hm : X.mg "len" = none) (hg2 : Gl X "set") (hm2 : X.mg "set" = none) (ha : PE X a ta) (hc : X.calm = true := by rfl) (hK : X.K = K := by rfl)
    (na : starEach [a] X.env = (false, eval a X.env) :: starEach [] X.env := by rfl) : PE X (.Call (.Name "len" p) [.Call (.Name "set" p2) [a] [] q] [] pos) (tLenSetG K ta) := by
  subst hK
  refine ⟨fun pins s σ H Q I h => ?_⟩
  refine Call_ (ld_blt I hg hm boot_len ?_)
  refine PyProof.Rows.callWith_builtin1 (PyProof.Rows.args_cons ?_ rfl) rfl rfl
  refine Call_ (ld_blt I hg2 hm2 boot_set ?_)
  refine PyProof.Rows.callWith_type1 (PyProof.Rows.args_cons (thn (ha.run pins s σ H _ I h) fun v s1 ⟨x, H1, I1, r1, q1⟩ => PyProof.Rows.args_nil ?_) na) na rfl
  obtain ⟨l, ns, rfl, hq, hl, q1⟩ := q1
  cases r1
  obtain ⟨its, r, pl, hz⟩ := I1.list hq
  have hlen : its.toArray.size = ns.length := by rw [List.size_toArray, ← r.length, List.length_map]
  refine call_set_list (I1.ok.hd hc) pl.isList (by simpa using RZ.intsAre_vals r) (by rw [hlen]; unfold scanBound; omega) fun h' tk hS hk => ?_
  refine PyProof.Rows.args_nil ?_
  rw [hlen] at hS
  obtain ⟨o, es, ep, t, ho, hex, hd, _, _, _, hf, hn⟩ := hS
  have le := dedN_le ns
  have I2 : Inv X pins σ H1 { s1 with heap := h', toks := tk } := I1.kept fun b o e => hk b o (Heap.lt_size e) e
  exact call_len_set ho hex hd hf (by rw [hn]; show ((dedN ns : Nat) : Int) < 2 ^ 63; omega) ⟨.int (dedN ns : Nat), H1, I2.tok _, ⟨_, by rw [hn]; rfl⟩, q1⟩
/-! what is asked of rows, days, runs -/
def DayOk (d : Int) : Prop := 0 ≤ d ∧ d ≤ 9999
instance (d : Int) : Decidable (DayOk d) := by unfold DayOk; infer_instance
def DaysOk (ds : List Int) : Prop := ∀ x ∈ ds, DayOk x
instance (ds : List Int) : Decidable (DaysOk ds) := by unfold DaysOk; infer_instance
def UnlikeOk (r : List Int) : Prop := 1 ≤ r.length ∧ r.length ≤ 4 ∧ r.Nodup
instance (r : List Int) : Decidable (UnlikeOk r) := by unfold UnlikeOk; infer_instance
def RowOk (m : Int) (r : List Int) : Prop := UnlikeOk r ∧ ∀ x ∈ r, 0 ≤ x ∧ x < m
instance (m : Int) (r : List Int) : Decidable (RowOk m r) := by unfold RowOk; infer_instance
def optV : Option Int → V
  | none => .non
  | some i => .int i
def RunOk (s : Int) (o : Option Int) : Prop := DayOk s ∧ ∀ e, o = some e → s < e ∧ e ≤ 10000
def belowOf (o : Option Int) : Int := o.getD 10000
theorem RunOk.below {s : Int} {o : Option Int} (h : RunOk s o) : s < belowOf o ∧ belowOf o ≤ 10000 := by
  obtain ⟨h1, h2⟩ := h
  cases o with
  | none =>
    show s < 10000 ∧ (10000 : Int) ≤ 10000
    unfold DayOk at h1
    omega
  | some e => exact h2 e rfl
def holderOf (r ds : List Int) (d : Int) : Int := (r.find? fun l => decide (d < dayOf ds l)).getD (-1)
theorem holder_first {r ds : List Int} {d x : Int} {i : Nat} (hi : r[i]? = some x) (h : d < dayOf ds x) (hb : ∀ j, j < i → ∀ y, r[j]? = some y → ¬ d < dayOf ds y) : holderOf r ds d = x := by
  unfold holderOf
  have : (r.find? fun l => decide (d < dayOf ds l)) = some x := by
    obtain ⟨h1, h2⟩ := List.getElem?_eq_some_iff.mp hi
    rw [List.find?_eq_some_iff_getElem]
    refine ⟨decide_eq_true h, i, h1, h2, fun j hj => ?_⟩
    have := hb j hj _ (List.getElem?_eq_getElem (by omega))
    simpa using this
  rw [this]
  rfl
theorem holder_none {r ds : List Int} {d : Int} (hb : ∀ (j : Nat) (y : Int), r[j]? = some y → ¬ d < dayOf ds y) : holderOf r ds d = -1 := by
  unfold holderOf
  have : (r.find? fun l => decide (d < dayOf ds l)) = none := by
    rw [List.find?_eq_none]
    intro x hx
    obtain ⟨j, hj⟩ := List.mem_iff_getElem?.mp hx
    have := hb j x hj
    simpa using this
  rw [this]
  rfl
theorem holder_head (r ds : List Int) (d : Int) : holderOf r ds d = ((r.filter fun l => decide (d < dayOf ds l)).head?).getD (-1) := by
  unfold holderOf
  rw [List.head?_filter]
end LH
namespace LH
theorem filt_take {α : Type} {l : List α} {j : Nat} {x : α} (p : α → Bool) (h : l[j]? = some x) : (l.take (j + 1)).filter p = (l.take j).filter p ++ if p x = true then [x] else [] := by
  rw [List.take_succ, h, List.filter_append]
  cases e : p x <;> simp [e]
end LH
namespace LH
open PySem PySem.Spec PyProof.Rows L2
theorem iteN {c A B : Prop} [Decidable c] (hc : ¬ c) (h : A) : if (!decide c) = true then A else B := by
  rw [decide_eq_false hc]
  exact iteT h
end LH

set_option Elab.async false
set_option linter.all false
set_option maxRecDepth 100000
set_option maxHeartbeats 4000000
/-! defs with defaults: called by place and by name -/
namespace LH
open PySem PySem.Spec PyProof.Rows L2
section
variable {K : PySem.W.Frag} {x qual : Str} {params : Arguments} {body : List Stmt} {scope : Scope} {dvs : List V} {f : Addr} {fd : FuncData} {ps : List Str}
theorem kbinds1 (F : FunD K x qual params body scope dvs [] f fd) (n : Nat) (ks : List Str) (g : {α : Type} → List α → List α → List α → List α) (hd : dvs ≠ [])
    (hrel : ∀ {vs ds zs : List V} {us its ws : List Value}, Vals vs us → Vals ds its → Vals zs ws → Vals (g vs ds zs) (g us its ws))
    (h : ∀ (T : Addr) (kV doc pm : Value) (an : Option Addr) (cdv ct : Value) (us its ws : List Value), us.length = n → its.length = dvs.length → ws.length = ks.length →
      ∃ k, bindArgs (PySem.W.fnOf x qual params body scope (.ref T) kV doc pm an cdv ct) ⟨us, ks.zip ws⟩ = seqItems? (.ref T) >>= k ∧ k (some its.toArray) = pure (ps.zip (g us its ws))) :
    ∃ its : List Value, KBn K fd ps n ks (fun us ws => g us its ws) (fun vs zs => g vs dvs zs) := by
  obtain ⟨oc, od, dV, kV, doc, pm, an, cdv, ct, osl, rfl, lk, hcd, hD, hK⟩ := F.ex
  rcases hD with ⟨e, _⟩ | ⟨_, T, o, its, m, rfl, lT, oT, rT⟩
  · exact absurd e hd
  · refine ⟨its, ⟨fun s us ws X l1 l2 => ?_, fun r1 r2 => hrel r1 rT r2⟩⟩
    obtain ⟨k, e1, e2⟩ := h T kV doc pm an cdv ct us its ws l1 rT.length.symm l2
    refine BindsTo.of_looks fun M => ?_
    rw [e1]
    exact looks_items X lT oT (.of_pure e2)
end
/-- a def with defaults that may raise, by its name -/
structure OwnD (P : Program) (w : World) (K : PySem.W.Frag) (mg : Str → Option Value) (base : Heap) (x : Str) (st : Stmt) (ps : List Str) (dvs : List V) (k : Nat) (sp : Sp) : Prop where
  ex : ∃ (f : Addr) (fd : FuncData), FnOk P w K mg base (L2N.CX P w) k f fd ps sp ∧ mg x = some (.ref f) ∧ FunD K x x (defArgs st) (defBody st) (defScope st) dvs [] f fd
def tCallND (n m : Nat) (sp : Sp) (gV : List V → List V → List V) (E : L2.St → XK) (t tk : TA) : TE := fun σ H Q => t σ H fun vs H1 => tk σ H1 fun zs H2 => vs.length = n ∧ zs.length = m ∧ sp (gV vs zs) H2 Q (E σ)
section
variable {X : Cx} {k n : Nat} {ps ks : List Str} {sp : Sp} {x : Str} {p pos : Pos} {e : Expr} {es : List Expr} {kws : List Keyword} {t tk : TA} {st : Stmt} {dvs : List V}
theorem pe_ownDX {W : WX} (n : Nat) (ks : List Str) (g : {α : Type} → List α → List α → List α → List α) (C : OwnD X.prog X.w X.K X.mg X.base x st ps dvs k sp) (hr : Room k X.A) (tw : L2N.Takes X W)
    (hrel : ∀ {vs ds zs : List V} {us its ws : List Value}, Vals vs us → Vals ds its → Vals zs ws → Vals (g vs ds zs) (g us its ws))
    (h : ∀ (T : Addr) (kV doc pm : Value) (an : Option Addr) (cdv ct : Value) (us its ws : List Value), us.length = n → its.length = dvs.length → ws.length = ks.length →
      ∃ k, bindArgs (PySem.W.fnOf x x (defArgs st) (defBody st) (defScope st) (.ref T) kV doc pm an cdv ct) ⟨us, ks.zip ws⟩ = seqItems? (.ref T) >>= k ∧ k (some its.toArray) = pure (ps.zip (g us its ws)))
    (ha : PA X (e :: es) t) (hkw : PK X kws tk) (hd : dvs ≠ [] := by simp) (hg : Gl X x := by rfl) (hall : (backToKw pos (keywordEach kws X.env)).all (·.1.isSome) = true := by rfl) (hks : (backToKw pos (keywordEach kws X.env)).filterMap (·.1) = ks := by rfl)
    (hdb : (x == ("__debug__" : Str)) = false := by decide) (he : starEach (e :: es) X.env = (false, eval e X.env) :: starEach es X.env := by rfl)
    (hpl : ((backTo pos (starEach (e :: es) X.env)).any (·.1) || (backToKw pos (keywordEach kws X.env)).any (·.1.isNone)) = false := by rfl) :
    PE X (.Call (.Name x p) (e :: es) kws pos) (tCallND n ks.length sp (fun vs zs => g vs dvs zs) (WE W) t tk) := by
  obtain ⟨f, fd, F, hm, D⟩ := C.ex
  obtain ⟨its, hb⟩ := kbinds1 (ps := ps) D n ks g hd hrel h
  refine ⟨fun pins s σ H Q I h => ?_⟩
  refine wpAny_Call_Name_kw (ld_glob I hg hm ?_ hdb)
  refine PySem.W.callWith_KW (h₀ := X.base) I.ok.mod.kin D.kp hall (thn (ha.run pos pins s σ H _ I h) fun us s1 ⟨vs, H1, I1, r, q⟩ => ?_) hpl he
  refine thn (hkw.run pos pins s1 σ H1 _ I1 q) fun ws s2 ⟨zs, H2, I2, rz, l1, l2, q2⟩ => ⟨I2.kIn, ?_⟩
  rw [hks]
  have r2 := hb.rel r rz
  refine wpAny_call (codeAny_mono (F.run X.A X.stack s2 H2 ⟨us, ks.zip ws⟩ (g us its ws) (g vs dvs zs) Q (WE W σ) hr I2.env0 (hb.to s2 us ws I2.kIn (r.length.symm.trans l1) (rz.length.symm.trans l2)) r2 q2) fun r s' hq => ?_)
  cases r with
  | error e => exact L2N.passAt tw σ pins _ _ e s' I2 hq
  | ok fl =>
    cases fl with
    | ret u => exact I2.after hq
    | next => exact False.elim hq
    | brk => exact False.elim hq
    | cont => exact False.elim hq
theorem pe_ownDN (n : Nat) (ks : List Str) (g : {α : Type} → List α → List α → List α → List α) (C : OwnD X.prog X.w X.K X.mg X.base x st ps dvs k sp) (hr : Room k X.A)
    (hrel : ∀ {vs ds zs : List V} {us its ws : List Value}, Vals vs us → Vals ds its → Vals zs ws → Vals (g vs ds zs) (g us its ws))
    (h : ∀ (T : Addr) (kV doc pm : Value) (an : Option Addr) (cdv ct : Value) (us its ws : List Value), us.length = n → its.length = dvs.length → ws.length = ks.length →
      ∃ k, bindArgs (PySem.W.fnOf x x (defArgs st) (defBody st) (defScope st) (.ref T) kV doc pm an cdv ct) ⟨us, ks.zip ws⟩ = seqItems? (.ref T) >>= k ∧ k (some its.toArray) = pure (ps.zip (g us its ws)))
    (ha : PA X (e :: es) t) (hkw : PK X kws tk) (hd : dvs ≠ [] := by simp) (hg : Gl X x := by rfl) (hall : (backToKw pos (keywordEach kws X.env)).all (·.1.isSome) = true := by rfl) (hks : (backToKw pos (keywordEach kws X.env)).filterMap (·.1) = ks := by rfl)
    (hdb : (x == ("__debug__" : Str)) = false := by decide) (he : starEach (e :: es) X.env = (false, eval e X.env) :: starEach es X.env := by rfl)
    (hpl : ((backTo pos (starEach (e :: es) X.env)).any (·.1) || (backToKw pos (keywordEach kws X.env)).any (·.1.isNone)) = false := by rfl) :
    PE X (.Call (.Name x p) (e :: es) kws pos) (tCallN n ks.length sp (fun vs zs => g vs dvs zs) E0 t tk) := by
  obtain ⟨f, fd, F, hm, D⟩ := C.ex
  obtain ⟨its, hb⟩ := kbinds1 (ps := ps) D n ks g hd hrel h
  exact pe_callN F hr hg hm D.kp hb passX0 ha hkw hall hks hdb he hpl
end
end LH

set_option Elab.async false
set_option linter.all false
set_option maxRecDepth 100000
set_option maxHeartbeats 4000000
namespace LH
/-! days raised with their causes -/
section
variable (n : Nat) (ev : List Tie)
def srcP (p : Nat) : Nat := nd n (ev.getD p tie0).1
def dstP (p : Nat) : Nat := nd n (ev.getD p tie0).2.1
def wtP (p : Nat) : Int := (ev.getD p tie0).2.2
/-- the one behind, by the causes -/
def nx (C : Nat → Option Nat) (v : Nat) : Nat := match C v with
  | some p => dstP n ev p
  | none => v
def itN (C : Nat → Option Nat) : Nat → Nat → Nat
  | 0, v => v
  | k + 1, v => itN C k (nx n ev C v)
/-- k causes, one behind another, from v -/
def Ch (C : Nat → Option Nat) : Nat → Nat → Prop
  | 0, _ => True
  | k + 1, v => (∃ p, C v = some p) ∧ Ch C k (nx n ev C v)
def sumC (C : Nat → Option Nat) : Nat → Nat → Int
  | 0, _ => 0
  | k + 1, v => (match C v with | some p => wtP ev p | none => 0) + sumC C k (nx n ev C v)
/-- v is met within k steps from x -/
def Met (C : Nat → Option Nat) (v : Nat) : Nat → Nat → Prop
  | 0, _ => False
  | k + 1, x => x = v ∨ Met C v k (nx n ev C x)
structure Pred (D : Nat → Int) (C : Nat → Option Nat) : Prop where
  a : ∀ v p, C v = some p → p < ev.length ∧ srcP n ev p = v ∧ D v ≤ D (dstP n ev p) + wtP ev p
  b : ∀ v k, 0 < k → Ch n ev C k v → itN n ev C k v = v → 0 < sumC n ev C k v
def setI (D : Nat → Int) (v : Nat) (x : Int) : Nat → Int := fun i => if i = v then x else D i
def setC (C : Nat → Option Nat) (v p : Nat) : Nat → Option Nat := fun i => if i = v then some p else C i
end
section
variable {n : Nat} {ev : List Tie}
theorem Pred.start : Pred n ev (fun _ => 0) (fun _ => none) := by
  refine ⟨(fun v p h => by cases h), fun v k hk h => ?_⟩
  cases k with
  | zero => exact absurd hk (Nat.lt_irrefl 0)
  | succ k =>
    obtain ⟨⟨p, hp⟩, _⟩ := h
    cases hp
/-- along causes that are new in one place the old days rise by no more than the leasts -/
theorem chain_le {D : Nat → Int} {C : Nat → Option Nat} (h : Pred n ev D C) {v p : Nat} (hs : srcP n ev p = v) (hlt : D v < D (dstP n ev p) + wtP ev p) : ∀ (k x : Nat), Ch n ev (setC C v p) k x →
    D x ≤ D (itN n ev (setC C v p) k x) + sumC n ev (setC C v p) k x ∧ (Met n ev (setC C v p) v k x → D x < D (itN n ev (setC C v p) k x) + sumC n ev (setC C v p) k x) ∧
    (¬ Met n ev (setC C v p) v k x → Ch n ev C k x ∧ itN n ev C k x = itN n ev (setC C v p) k x ∧ sumC n ev C k x = sumC n ev (setC C v p) k x)
  | 0, x, _ => ⟨by simp [itN, sumC], fun z => z.elim, fun _ => ⟨trivial, rfl, rfl⟩⟩
  | k + 1, x, hc => by
    obtain ⟨⟨q, hq⟩, hr⟩ := hc
    obtain ⟨i1, i2, i3⟩ := chain_le h hs hlt k _ hr
    have en : nx n ev (setC C v p) x = dstP n ev q := by
      unfold nx
      rw [hq]
    have es : sumC n ev (setC C v p) (k + 1) x = wtP ev q + sumC n ev (setC C v p) k (nx n ev (setC C v p) x) := by
      show (match setC C v p x with | some p => wtP ev p | none => 0) + _ = _
      rw [hq]
    have ei : itN n ev (setC C v p) (k + 1) x = itN n ev (setC C v p) k (nx n ev (setC C v p) x) := rfl
    rw [es, ei]
    by_cases e : x = v
    · have hq2 : q = p := by
        unfold setC at hq
        rw [if_pos e] at hq
        exact (Option.some.inj hq).symm
      rw [en] at i1 i2 ⊢
      rw [hq2] at i1 i2 ⊢
      rw [e]
      refine ⟨by omega, fun _ => by omega, fun z => absurd (show Met n ev (setC C v p) v (k + 1) v from .inl rfl) z⟩
    · have hq2 : C x = some q := by
        unfold setC at hq
        rw [if_neg e] at hq
        exact hq
      have le := (h.a x q hq2).2.2
      have en2 : nx n ev C x = nx n ev (setC C v p) x := by
        rw [en]
        unfold nx
        rw [hq2]
      rw [en] at i1 i2
      refine ⟨by rw [en]; omega, fun z => ?_, fun z => ?_⟩
      · rcases z with z | z
        · exact absurd z e
        · rw [en] at z ⊢
          have := i2 z
          omega
      · obtain ⟨j1, j2, j3⟩ := i3 fun y => z (.inr y)
        refine ⟨⟨⟨q, hq2⟩, by rw [en2]; exact j1⟩, ?_, ?_⟩
        · show itN n ev C k (nx n ev C x) = _
          rw [en2]
          exact j2
        · show (match C x with | some p => wtP ev p | none => 0) + sumC n ev C k (nx n ev C x) = _
          rw [hq2, en2, j3]
theorem Pred.raise {D : Nat → Int} {C : Nat → Option Nat} (h : Pred n ev D C) {v p : Nat} (hp : p < ev.length) (hs : srcP n ev p = v) (hlt : D v < D (dstP n ev p) + wtP ev p) : Pred n ev (setI D v (D (dstP n ev p) + wtP ev p)) (setC C v p) := by
  have up : ∀ i, D i ≤ setI D v (D (dstP n ev p) + wtP ev p) i := fun i => by
    unfold setI
    split
    · rename_i e
      rw [e]
      omega
    · exact Int.le_refl _
  refine ⟨fun x q hq => ?_, fun x k hk hc he => ?_⟩
  · by_cases e : x = v
    · have hq2 : q = p := by
        unfold setC at hq
        rw [if_pos e] at hq
        exact (Option.some.inj hq).symm
      subst hq2
      refine ⟨hp, hs.trans e.symm, ?_⟩
      have := up (dstP n ev q)
      have e2 : setI D v (D (dstP n ev q) + wtP ev q) x = D (dstP n ev q) + wtP ev q := if_pos e
      rw [e2]
      omega
    · have hq2 : C x = some q := by
        unfold setC at hq
        rw [if_neg e] at hq
        exact hq
      obtain ⟨h1, h2, h3⟩ := h.a x q hq2
      refine ⟨h1, h2, ?_⟩
      have := up (dstP n ev q)
      have e2 : setI D v (D (dstP n ev p) + wtP ev p) x = D x := if_neg e
      rw [e2]
      omega
  · obtain ⟨i1, i2, i3⟩ := chain_le h hs hlt k x hc
    rw [he] at i1 i2 i3
    rcases Classical.em (Met n ev (setC C v p) v k x) with m | m
    · have := i2 m
      omega
    · obtain ⟨j1, j2, j3⟩ := i3 m
      have := h.b x k hk j1 j2
      omega
/-- when each was raised last -/
structure Late (r j : Nat) (D : Nat → Int) (C : Nat → Option Nat) (ρ : Nat → Nat) (last : Nat) : Prop where
  le : ∀ v, ρ v ≤ r
  cs : ∀ v, 1 ≤ ρ v → ∃ p, C v = some p
  bk : ∀ v p, C v = some p → ρ v ≤ ρ (dstP n ev p) + 1
  d1 : ∀ q, q < j → q < ev.length → D (dstP n ev q) + wtP ev q ≤ D (srcP n ev q) ∨ r ≤ ρ (dstP n ev q)
  d2 : ∀ q, j ≤ q → q < ev.length → D (dstP n ev q) + wtP ev q ≤ D (srcP n ev q) ∨ r ≤ ρ (dstP n ev q) + 1
  la : ∀ v, ρ v ≤ ρ last
theorem Late.start : Late (n := n) (ev := ev) 1 0 (fun _ => 0) (fun _ => none) (fun _ => 0) n :=
  ⟨fun _ => Nat.zero_le _, fun v h => absurd h (by decide), (fun v p h => by cases h), (fun q h => absurd h (Nat.not_lt_zero q)), (fun q _ _ => .inr (Nat.le_refl _)), fun _ => Nat.le_refl _⟩
theorem Late.round {r : Nat} {D : Nat → Int} {C : Nat → Option Nat} {ρ : Nat → Nat} {last : Nat} (h : Late (n := n) (ev := ev) r ev.length D C ρ last) : Late (n := n) (ev := ev) (r + 1) 0 D C ρ last :=
  ⟨fun v => Nat.le_succ_of_le (h.le v), h.cs, h.bk, fun q hq => absurd hq (Nat.not_lt_zero q), fun q _ hl => (h.d1 q hl hl).imp id fun z => by omega, h.la⟩
theorem Late.pass {r j : Nat} {D : Nat → Int} {C : Nat → Option Nat} {ρ : Nat → Nat} {last : Nat} (h : Late (n := n) (ev := ev) r j D C ρ last) (hc : D (dstP n ev j) + wtP ev j ≤ D (srcP n ev j)) : Late (n := n) (ev := ev) r (j + 1) D C ρ last := by
  refine ⟨h.le, h.cs, h.bk, fun q hq hl => ?_, fun q hq hl => h.d2 q (by omega) hl, h.la⟩
  rcases Nat.lt_or_ge q j with z | z
  · exact h.d1 q z hl
  · have e : q = j := by omega
    rw [e]
    exact .inl hc
theorem Late.raise {r j : Nat} {D : Nat → Int} {C : Nat → Option Nat} {ρ : Nat → Nat} {last : Nat} (h : Late (n := n) (ev := ev) r j D C ρ last) (hj : j < ev.length) (h1 : 1 ≤ r) (hne : dstP n ev j ≠ srcP n ev j) (hlt : D (srcP n ev j) < D (dstP n ev j) + wtP ev j) :
    Late (n := n) (ev := ev) r (j + 1) (setI D (srcP n ev j) (D (dstP n ev j) + wtP ev j)) (setC C (srcP n ev j) j) (fun i => if i = srcP n ev j then r else ρ i) (srcP n ev j) := by
  have hd : r ≤ ρ (dstP n ev j) + 1 := by
    rcases h.d2 j (Nat.le_refl j) hj with z | z
    · omega
    · exact z
  have up : ∀ i, ρ i ≤ (if i = srcP n ev j then r else ρ i) := fun i => by
    split
    · exact h.le i
    · exact Nat.le_refl _
  have vu : ∀ i, D i ≤ setI D (srcP n ev j) (D (dstP n ev j) + wtP ev j) i := fun i => by
    unfold setI
    split
    · rename_i e
      rw [e]
      omega
    · exact Int.le_refl _
  have keep : ∀ q, D (dstP n ev q) + wtP ev q ≤ D (srcP n ev q) → setI D (srcP n ev j) (D (dstP n ev j) + wtP ev j) (dstP n ev q) + wtP ev q ≤ setI D (srcP n ev j) (D (dstP n ev j) + wtP ev j) (srcP n ev q) ∨ r ≤ (if dstP n ev q = srcP n ev j then r else ρ (dstP n ev q)) := fun q hq => by
    by_cases e : dstP n ev q = srcP n ev j
    · rw [if_pos e]
      exact .inr (Nat.le_refl _)
    · left
      have e1 : setI D (srcP n ev j) (D (dstP n ev j) + wtP ev j) (dstP n ev q) = D (dstP n ev q) := if_neg e
      rw [e1]
      exact Int.le_trans hq (vu _)
  refine ⟨fun v => ?_, fun (v : Nat) hv => ?_, fun v p hp => ?_, fun q hq hl => ?_, fun q hq hl => ?_, fun v => ?_⟩
  · split
    · exact Nat.le_refl _
    · exact h.le v
  · by_cases e : v = srcP n ev j
    · exact ⟨j, if_pos e⟩
    · skip
      rw [if_neg e] at hv
      obtain ⟨p, hp⟩ := h.cs v hv
      exact ⟨p, by unfold setC; rw [if_neg e]; exact hp⟩
  · by_cases e : v = srcP n ev j
    · have e2 : p = j := by
        unfold setC at hp
        rw [if_pos e] at hp
        exact (Option.some.inj hp).symm
      rw [e2]
      rw [if_pos e]
      have := up (dstP n ev j)
      omega
    · have e2 : C v = some p := by
        unfold setC at hp
        rw [if_neg e] at hp
        exact hp
      have := h.bk v p e2
      have := up (dstP n ev p)
      rw [if_neg e]
      omega
  · rcases Nat.lt_or_ge q j with z | z
    · rcases h.d1 q z hl with y | y
      · exact keep q y
      · exact .inr (Nat.le_trans y (up _))
    · have e : q = j := by omega
      rw [e]
      left
      have e1 : setI D (srcP n ev j) (D (dstP n ev j) + wtP ev j) (srcP n ev j) = D (dstP n ev j) + wtP ev j := if_pos rfl
      have e2 : setI D (srcP n ev j) (D (dstP n ev j) + wtP ev j) (dstP n ev j) = D (dstP n ev j) := if_neg hne
      rw [e1, e2]
      exact Int.le_refl _
  · rcases h.d2 q (by omega) hl with y | y
    · rcases keep q y with w | w
      · exact .inl w
      · exact .inr (Nat.le_succ_of_le w)
    · exact .inr (Nat.le_trans y (Nat.succ_le_succ (up _)))
  · rw [if_pos rfl]
    split
    · exact Nat.le_refl _
    · exact h.le v
/-- behind the last round: where no days keep all, the one raised last was raised in it -/
theorem Late.fresh {r : Nat} {D : Nat → Int} {C : Nat → Option Nat} {ρ : Nat → Nat} {last : Nat} (h : Late (n := n) (ev := ev) r ev.length D C ρ last) (hno : ¬ ∀ q, q < ev.length → D (dstP n ev q) + wtP ev q ≤ D (srcP n ev q)) : ρ last = r := by
  rcases Classical.em (∃ q, q < ev.length ∧ r ≤ ρ (dstP n ev q)) with z | z
  · obtain ⟨q, _, hq⟩ := z
    have h1 := h.la (dstP n ev q)
    have h2 := h.le last
    omega
  · exfalso
    refine hno fun q hq => ?_
    rcases h.d1 q hq hq with y | y
    · exact y
    · exact absurd ⟨q, hq, y⟩ z
theorem back_late {r : Nat} {j : Nat} {D : Nat → Int} {C : Nat → Option Nat} {ρ : Nat → Nat} {last : Nat} (h : Late (n := n) (ev := ev) r j D C ρ last) : ∀ (k v : Nat), k ≤ ρ v → Ch n ev C k v
  | 0, _, _ => trivial
  | k + 1, v, hk => by
    obtain ⟨p, hp⟩ := h.cs v (by omega)
    have hb := h.bk v p hp
    have e : nx n ev C v = dstP n ev p := by
      unfold nx
      rw [hp]
    exact ⟨⟨p, hp⟩, back_late h k _ (by rw [e]; omega)⟩
end
/-- ties and bounds that days keep make a way -/
def boundsT (n : Nat) : List Tie := ((List.range n).map fun i : Nat => [((i : Int), -1, 0), (-1, (i : Int), -9999)]).flatten
theorem mem_bounds {n : Nat} {t : Tie} : t ∈ boundsT n ↔ ∃ i : Nat, i < n ∧ (t = ((i : Int), -1, 0) ∨ t = (-1, (i : Int), -9999)) := by
  unfold boundsT
  rw [List.mem_flatten]
  constructor
  · rintro ⟨l, hl, ht⟩
    obtain ⟨i, hi, rfl⟩ := List.mem_map.mp hl
    refine ⟨i, List.mem_range.mp hi, ?_⟩
    simpa using ht
  · rintro ⟨i, hi, h⟩
    exact ⟨_, List.mem_map.mpr ⟨i, List.mem_range.mpr hi, rfl⟩, by simpa using h⟩
theorem can_of_days {n : Nat} {ts : List Tie} {D : Nat → Int} (h : ∀ q, q < (ts ++ boundsT n).length → D (dstP n (ts ++ boundsT n) q) + wtP (ts ++ boundsT n) q ≤ D (srcP n (ts ++ boundsT n) q)) : Can n ts := by
  have all : ∀ t ∈ ts ++ boundsT n, D (nd n t.2.1) + t.2.2 ≤ D (nd n t.1) := fun t ht => by
    obtain ⟨q, hq⟩ := List.getElem?_of_mem ht
    have := h q (List.getElem?_eq_some_iff.mp hq).1
    unfold dstP srcP wtP at this
    rw [getD_of hq] at this
    exact this
  refine ⟨fun i => D i - D n, by show D n - D n = 0; omega, fun i hi => ?_, fun i hi => ?_, fun t ht => ?_⟩
  · have := all ((i : Int), -1, 0) (List.mem_append_right _ (mem_bounds.mpr ⟨i, hi, .inl rfl⟩))
    dsimp only at this
    rw [nd_neg (n := n) (o := -1) (by decide), nd_nat (n := n) (o := (i : Int)) (by omega), show (i : Int).toNat = i by omega] at this
    show 0 ≤ D i - D n
    omega
  · have := all (-1, (i : Int), -9999) (List.mem_append_right _ (mem_bounds.mpr ⟨i, hi, .inr rfl⟩))
    dsimp only at this
    rw [nd_neg (n := n) (o := -1) (by decide), nd_nat (n := n) (o := (i : Int)) (by omega), show (i : Int).toNat = i by omega] at this
    show D i - D n ≤ 9999
    omega
  · have := all t (List.mem_append_left _ ht)
    show t.2.2 ≤ D (nd n t.1) - D n - (D (nd n t.2.1) - D n)
    omega
end LH

set_option Elab.async false
set_option linter.all false
set_option maxRecDepth 100000
set_option maxHeartbeats 4000000
namespace LH
open PySem PySem.Spec PyProof.Rows L2
/-! the way back along the causes -/
def nxO (n : Nat) (ev : List Tie) (C : Nat → Option Nat) (o : Int) : Int := match C (nd n o) with
  | some p => (ev.getD p tie0).2.1
  | none => o
def seqO (n : Nat) (ev : List Tie) (C : Nat → Option Nat) (o : Int) : Nat → Int
  | 0 => o
  | k + 1 => nxO n ev C (seqO n ev C o k)
theorem nd_inj {n : Nat} {a b : Int} (a1 : -1 ≤ a) (a2 : a < n) (b1 : -1 ≤ b) (b2 : b < n) (e : nd n a = nd n b) : a = b := by
  unfold nd at e
  split at e <;> split at e <;> omega
theorem nodup_le : ∀ (m : Nat) (l : List Nat), l.Nodup → (∀ x ∈ l, x < m) → l.length ≤ m
  | 0, l, _, h => by
    cases l with
    | nil => exact Nat.le_refl _
    | cons a l => exact absurd (h a List.mem_cons_self) (Nat.not_lt_zero a)
  | m + 1, l, hn, h => by
    by_cases hm : m ∈ l
    · have p := List.perm_cons_erase hm
      have ih := nodup_le m (l.erase m) (hn.erase m) fun x hx => by
        have h1 := h x (List.mem_of_mem_erase hx)
        have h2 : x ≠ m := fun e => by
          rw [e] at hx
          exact hn.not_mem_erase hx
        omega
      have e := p.length_eq
      rw [List.length_cons] at e
      omega
    · have ih := nodup_le m l hn fun x hx => by
        have h1 := h x hx
        have h2 : x ≠ m := fun e => hm (e ▸ hx)
        omega
      omega
theorem nodup_range_map {α : Type} {f : Nat → α} {m : Nat} (h : ∀ a b, a < b → b < m → f a ≠ f b) : ((List.range m).map f).Nodup := by
  unfold List.Nodup
  rw [List.pairwise_map]
  exact List.Pairwise.imp_of_mem (fun _ hb hab => h _ _ hab (List.mem_range.mp hb)) List.pairwise_lt_range
structure Back (n : Nat) (ev : List Tie) (C : Nat → Option Nat) (o : Int) : Prop where
  ok : ∀ t ∈ ev, TieOk (n : Int) t
  o1 : -1 ≤ o
  o2 : o < n
  ch : Ch n ev C (n + 1) (nd n o)
  pr : ∃ D, Pred n ev D C
section
variable {n : Nat} {ev : List Tie} {C : Nat → Option Nat} {o : Int} (B : Back n ev C o)
include B
theorem seq_in : ∀ k, k ≤ n + 1 → -1 ≤ seqO n ev C o k ∧ seqO n ev C o k < n ∧ Ch n ev C (n + 1 - k) (nd n (seqO n ev C o k))
  | 0, _ => ⟨B.o1, B.o2, B.ch⟩
  | k + 1, hk => by
    obtain ⟨h1, h2, h3⟩ := seq_in k (by omega)
    rw [show n + 1 - k = (n + 1 - (k + 1)) + 1 by omega] at h3
    obtain ⟨⟨p, hp⟩, h4⟩ := h3
    obtain ⟨D, P⟩ := B.pr
    obtain ⟨q1, _, _⟩ := P.a _ p hp
    have ok := B.ok (ev.getD p tie0) (by
      rw [List.getD_eq_getElem?_getD, List.getElem?_eq_getElem q1]
      exact List.getElem_mem _)
    have e : seqO n ev C o (k + 1) = (ev.getD p tie0).2.1 := by
      show nxO n ev C (seqO n ev C o k) = _
      unfold nxO
      rw [hp]
    have e2 : nx n ev C (nd n (seqO n ev C o k)) = nd n (seqO n ev C o (k + 1)) := by
      rw [e]
      unfold nx
      rw [hp]
      rfl
    rw [e2] at h4
    rw [e] at h4 ⊢
    exact ⟨ok.2.2.1, ok.2.2.2.1, h4⟩
/-- the cause of each on the way -/
theorem seq_cause {k : Nat} (hk : k ≤ n) : ∃ p, C (nd n (seqO n ev C o k)) = some p ∧ p < ev.length ∧ (ev.getD p tie0).1 = seqO n ev C o k ∧ (ev.getD p tie0).2.1 = seqO n ev C o (k + 1) ∧ TieOk (n : Int) (ev.getD p tie0) := by
  obtain ⟨h1, h2, h3⟩ := seq_in B k (by omega)
  rw [show n + 1 - k = (n - k) + 1 by omega] at h3
  obtain ⟨⟨p, hp⟩, _⟩ := h3
  obtain ⟨D, P⟩ := B.pr
  obtain ⟨q1, q2, _⟩ := P.a _ p hp
  have ok := B.ok (ev.getD p tie0) (by
    rw [List.getD_eq_getElem?_getD, List.getElem?_eq_getElem q1]
    exact List.getElem_mem _)
  refine ⟨p, hp, q1, nd_inj ok.1 ok.2.1 h1 h2 q2, ?_, ok⟩
  show _ = nxO n ev C (seqO n ev C o k)
  unfold nxO
  rw [hp]
theorem seq_nx {k : Nat} (hk : k ≤ n) : nx n ev C (nd n (seqO n ev C o k)) = nd n (seqO n ev C o (k + 1)) := by
  obtain ⟨p, hp, _, _, e, _⟩ := seq_cause B hk
  unfold nx
  rw [hp, ← e]
  rfl
theorem seq_it : ∀ (m k : Nat), k + m ≤ n + 1 → itN n ev C m (nd n (seqO n ev C o k)) = nd n (seqO n ev C o (k + m)) ∧ Ch n ev C m (nd n (seqO n ev C o k)) ∧
    sumC n ev C m (nd n (seqO n ev C o k)) = ((List.range m).map fun a => wtP ev ((C (nd n (seqO n ev C o (k + a)))).getD 0)).sum
  | 0, k, _ => ⟨rfl, trivial, rfl⟩
  | m + 1, k, h => by
    obtain ⟨i1, i2, i3⟩ := seq_it m (k + 1) (by omega)
    obtain ⟨p, hp, _⟩ := seq_cause B (k := k) (by omega)
    have e := seq_nx B (k := k) (by omega)
    refine ⟨?_, ⟨⟨p, hp⟩, by rw [e]; exact i2⟩, ?_⟩
    · show itN n ev C m (nx n ev C (nd n (seqO n ev C o k))) = _
      rw [e, i1]
      congr 2
      omega
    · show (match C (nd n (seqO n ev C o k)) with | some p => wtP ev p | none => 0) + sumC n ev C m (nx n ev C (nd n (seqO n ev C o k))) = _
      rw [e, i3, List.range_succ_eq_map, List.map_cons, List.sum_cons, List.map_map, Nat.add_zero]
      congr 1
      · rw [show k + 0 = k from rfl, hp]
        rfl
      · congr 1
        refine List.map_congr_left fun a _ => ?_
        show _ = wtP ev ((C (nd n (seqO n ev C o (k + (a + 1))))).getD 0)
        rw [show k + 1 + a = k + (a + 1) by omega]
/-- so many unlike ones there aren't -/
theorem seq_most {i : Nat} (hi : i ≤ n + 1) (hn : ((List.range i).map (seqO n ev C o)).Nodup) (hx : seqO n ev C o i ∉ (List.range i).map (seqO n ev C o)) : i ≤ n := by
  have h1 : ((List.range (i + 1)).map fun k => nd n (seqO n ev C o k)).Nodup := by
    rw [List.range_succ, List.map_append, List.nodup_append]
    refine ⟨?_, by simp, fun a ha b hb => ?_⟩
    · refine nodup_range_map fun a b hab hb heq => ?_
      have sa := seq_in B a (by omega)
      have sb := seq_in B b (by omega)
      have e := nd_inj sa.1 sa.2.1 sb.1 sb.2.1 heq
      have q := nd_ix hn (i := a) (j := b) (x := seqO n ev C o b) (by rw [List.getElem?_map, List.getElem?_range (by omega), ← e]; rfl) (by rw [List.getElem?_map, List.getElem?_range hb]; rfl)
      omega
    · obtain ⟨k, hk, rfl⟩ := List.mem_map.mp ha
      have hk := List.mem_range.mp hk
      rw [List.map_cons, List.map_nil, List.mem_singleton] at hb
      rw [hb]
      intro heq
      have sa := seq_in B k (by omega)
      have sb := seq_in B i (by omega)
      have e := nd_inj sa.1 sa.2.1 sb.1 sb.2.1 heq
      exact hx (List.mem_map.mpr ⟨k, List.mem_range.mpr hk, e⟩)
  have h2 := nodup_le (n + 1) _ h1 fun x hx => by
    obtain ⟨k, hk, rfl⟩ := List.mem_map.mp hx
    have hk := List.mem_range.mp hk
    have := nd_le (seq_in B k (by omega)).2.1
    omega
  simp at h2
  omega
end
theorem sum_rev (f : Nat → Int) : ∀ k : Nat, ((List.range k).map fun a => f (k - 1 - a)).sum = ((List.range k).map f).sum
  | 0 => rfl
  | k + 1 => by
    rw [List.range_succ_eq_map, List.map_cons, List.sum_cons, List.map_map, ← List.range_succ_eq_map, List.range_succ, List.map_append, List.sum_append, ← sum_rev f k]
    simp only [List.map_cons, List.map_nil, List.sum_cons, List.sum_nil]
    have e : ((List.range k).map ((fun a => f (k + 1 - 1 - a)) ∘ Nat.succ)) = (List.range k).map fun a => f (k - 1 - a) := List.map_congr_left fun a _ => by
      show f (k + 1 - 1 - (a + 1)) = f (k - 1 - a)
      congr 1
      omega
    rw [e, show k + 1 - 1 - 0 = k by omega]
    omega
/-- a ring -/
structure RingT (n : Nat) (rs : List Tie) : Prop where
  l2 : 2 ≤ rs.length
  lm : rs.length ≤ n + 1
  ch : ∀ k, k < rs.length → (rs.getD k tie0).2.1 = (rs.getD (if k = 0 then rs.length - 1 else k - 1) tie0).1
  nd : (rs.map fun t => t.1).Nodup
  pos : 0 < (rs.map fun t => t.2.2).sum
def pl (n : Nat) (ev : List Tie) (C : Nat → Option Nat) (o : Int) (k : Nat) : Nat := (C (LH.nd n (seqO n ev C o k))).getD 0
def backPl (n : Nat) (ev : List Tie) (C : Nat → Option Nat) (o : Int) (i j : Nat) : List Nat := (List.range (i - j)).map fun a => pl n ev C o (i - 1 - a)
theorem back_ring {n : Nat} {ev : List Tie} {C : Nat → Option Nat} {o : Int} (B : Back n ev C o) {i j : Nat} (hi : i ≤ n + 1) (hj : j < i) (hn : ((List.range i).map (seqO n ev C o)).Nodup) (he : seqO n ev C o j = seqO n ev C o i) :
    RingT n ((backPl n ev C o i j).map fun p => ev.getD p tie0) ∧ ∀ p ∈ backPl n ev C o i j, p < ev.length := by
  have tie : ∀ k, k ≤ n → pl n ev C o k < ev.length ∧ (ev.getD (pl n ev C o k) tie0).1 = seqO n ev C o k ∧ (ev.getD (pl n ev C o k) tie0).2.1 = seqO n ev C o (k + 1) ∧ TieOk (n : Int) (ev.getD (pl n ev C o k) tie0) := fun k hk => by
    obtain ⟨p, hp, h1, h2, h3, h4⟩ := seq_cause B hk
    have e : pl n ev C o k = p := by
      unfold pl
      rw [hp]
      rfl
    rw [e]
    exact ⟨h1, h2, h3, h4⟩
  have len : (backPl n ev C o i j).length = i - j := by simp [backPl]
  have lenT : ((backPl n ev C o i j).map fun p => ev.getD p tie0).length = i - j := by rw [List.length_map, len]
  have get : ∀ a, a < i - j → ((backPl n ev C o i j).map fun p => ev.getD p tie0).getD a tie0 = ev.getD (pl n ev C o (i - 1 - a)) tie0 := fun a ha => by
    unfold backPl
    rw [List.map_map, List.getD_eq_getElem?_getD, List.getElem?_map, List.getElem?_range ha]
    rfl
  refine ⟨⟨?_, by rw [lenT]; omega, fun k hk => ?_, ?_, ?_⟩, fun p hp => ?_⟩
  · rw [lenT]
    rcases Nat.lt_or_ge (i - j) 2 with z | z
    · exfalso
      obtain ⟨_, t1, t2, t3⟩ := tie j (by omega)
      have e : i = j + 1 := by omega
      rw [e] at he
      exact t3.2.2.2.2.1 (by rw [t1, t2]; exact he)
    · exact z
  · rw [lenT] at hk
    rw [get k hk, lenT]
    obtain ⟨_, _, t2, _⟩ := tie (i - 1 - k) (by omega)
    rw [t2]
    by_cases k0 : k = 0
    · rw [if_pos k0, get _ (by omega)]
      obtain ⟨_, t1, _, _⟩ := tie (i - 1 - (i - j - 1)) (by omega)
      rw [t1, k0, show i - 1 - 0 + 1 = i by omega, show i - 1 - (i - j - 1) = j by omega]
      exact he.symm
    · rw [if_neg k0, get _ (by omega)]
      obtain ⟨_, t1, _, _⟩ := tie (i - 1 - (k - 1)) (by omega)
      rw [t1]
      congr 1
      omega
  · have e : ((backPl n ev C o i j).map fun p => ev.getD p tie0).map (fun t => t.1) = (List.range (i - j)).map fun a => seqO n ev C o (i - 1 - a) := by
      unfold backPl
      rw [List.map_map, List.map_map]
      refine List.map_congr_left fun a ha => ?_
      have ha := List.mem_range.mp ha
      exact (tie (i - 1 - a) (by omega)).2.1
    rw [e]
    refine nodup_range_map fun a b hab hb heq => ?_
    have q := nd_ix hn (i := i - 1 - a) (j := i - 1 - b) (x := seqO n ev C o (i - 1 - b)) (by rw [List.getElem?_map, List.getElem?_range (by omega), ← heq]; rfl) (by rw [List.getElem?_map, List.getElem?_range (by omega)]; rfl)
    omega
  · have e : ((backPl n ev C o i j).map fun p => ev.getD p tie0).map (fun t => t.2.2) = (List.range (i - j)).map fun a => (fun b => wtP ev (pl n ev C o (j + b))) (i - j - 1 - a) := by
      unfold backPl
      rw [List.map_map, List.map_map]
      refine List.map_congr_left fun a ha => ?_
      have ha := List.mem_range.mp ha
      show wtP ev (pl n ev C o (i - 1 - a)) = wtP ev (pl n ev C o (j + (i - j - 1 - a)))
      rw [show j + (i - j - 1 - a) = i - 1 - a by omega]
    rw [e, sum_rev (fun b => wtP ev (pl n ev C o (j + b))) (i - j)]
    obtain ⟨D, P⟩ := B.pr
    obtain ⟨s1, s2, s3⟩ := seq_it B (i - j) j (by omega)
    have b := P.b _ (i - j) (by omega) s2 (by rw [s1, show j + (i - j) = i by omega, he])
    rw [s3] at b
    exact b
  · obtain ⟨a, ha, rfl⟩ := List.mem_map.mp hp
    have ha := List.mem_range.mp ha
    exact (tie (i - 1 - a) (by omega)).1
/-! the causes as a list -/
def cV : Option Nat → V
  | none => .non
  | some p => .int (p : Int)
theorem inV_ints (x : Int) (ns : List Int) : inV (.int x) (ns.map V.int) = decide (x ∈ ns) := by
  unfold inV
  rw [List.any_map]
  induction ns with
  | nil => rfl
  | cons a ns ih =>
    rw [List.any_cons, ih]
    show (eqV (.int a) (.int x) || decide (x ∈ ns)) = decide (x ∈ a :: ns)
    by_cases e : a = x
    · subst e
      simp [eqV]
    · simp [eqV, e, Ne.symm e]
theorem flat_ints (ns : List Int) : (ns.map V.int).all flatV = true := by
  rw [List.all_map, List.all_eq_true]
  intro x _
  rfl
theorem Late.fresh2 {n : Nat} {ev : List Tie} {r : Nat} {D : Nat → Int} {C : Nat → Option Nat} {ρ : Nat → Nat} {last : Nat} (h : Late (n := n) (ev := ev) (r + 1) 0 D C ρ last) (hno : ¬ ∀ q, q < ev.length → D (dstP n ev q) + wtP ev q ≤ D (srcP n ev q)) : r ≤ ρ last := by
  rcases Classical.em (∃ q, q < ev.length ∧ r ≤ ρ (dstP n ev q)) with z | z
  · obtain ⟨q, _, hq⟩ := z
    exact Nat.le_trans hq (h.la _)
  · exfalso
    refine hno fun q hq => ?_
    rcases h.d2 q (Nat.zero_le q) hq with y | y
    · exact y
    · exact absurd ⟨q, hq, by omega⟩ z
theorem bounds_ok {n : Nat} : ∀ t ∈ boundsT n, TieOk (n : Int) t := by
  intro t ht
  obtain ⟨i, hi, h⟩ := mem_bounds.mp ht
  unfold TieOk
  rcases h with rfl | rfl <;> dsimp only <;> omega
theorem bounds_succ (i : Nat) : boundsT (i + 1) = boundsT i ++ [((i : Int), -1, 0)] ++ [(-1, (i : Int), -9999)] := by
  unfold boundsT
  rw [List.range_succ, List.map_append, List.flatten_append, List.append_assoc]
  rfl
theorem bounds_len : ∀ n : Nat, (boundsT n).length = 2 * n
  | 0 => rfl
  | n + 1 => by
    rw [bounds_succ, List.length_append, List.length_append, bounds_len n]
    simp
    omega
end LH

set_option Elab.async false
set_option linter.all false
set_option maxRecDepth 100000
set_option maxHeartbeats 4000000
namespace LH
open PySem PySem.Spec PyProof.Rows L2
/-! lists of lists of ints; lists of pairs -/
def RowAt (H : Hp) (v : V) (r : List Int) : Prop := ∃ a, v = .ref a ∧ H a = some (.lst (r.map V.int))
def PairAt (H : Hp) (v : V) (w : Int × Int) : Prop := ∃ a, v = .ref a ∧ H a = some (.tup [.int w.1, .int w.2])
def AllAt {α : Type} (P : V → α → Prop) : List V → List α → Prop
  | [], [] => True
  | v :: vs, x :: xs => P v x ∧ AllAt P vs xs
  | _, _ => False
theorem AllAt.imp {α : Type} {P Q : V → α → Prop} (e : ∀ v x, P v x → Q v x) : ∀ {vs : List V} {xs : List α}, AllAt P vs xs → AllAt Q vs xs
  | [], [], _ => trivial
  | _ :: _, _ :: _, h => ⟨e _ _ h.1, AllAt.imp e h.2⟩
theorem AllAt.length {α : Type} {P : V → α → Prop} : ∀ {vs : List V} {xs : List α}, AllAt P vs xs → vs.length = xs.length
  | [], [], _ => rfl
  | _ :: _, _ :: _, h => by simp [AllAt.length h.2]
theorem AllAt.app {α : Type} {P : V → α → Prop} : ∀ {vs ws : List V} {xs ys : List α}, AllAt P vs xs → AllAt P ws ys → AllAt P (vs ++ ws) (xs ++ ys)
  | [], _, [], _, _, h2 => h2
  | _ :: _, _, _ :: _, _, h, h2 => ⟨h.1, AllAt.app h.2 h2⟩
theorem AllAt.get {α : Type} {P : V → α → Prop} : ∀ {vs : List V} {xs : List α} {i : Nat} {v : V}, AllAt P vs xs → vs[i]? = some v → ∃ x, xs[i]? = some x ∧ P v x
  | [], [], i, v, _, h2 => by simp at h2
  | v :: vs, x :: xs, 0, w, h, h2 => by
    have e : v = w := Option.some.inj h2
    subst e
    exact ⟨x, rfl, h.1⟩
  | v :: vs, x :: xs, i + 1, w, h, h2 => AllAt.get (i := i) h.2 h2
theorem RowAt.mono {H H' : Hp} {v : V} {r : List Int} (e : Same H H') (h : RowAt H v r) : RowAt H' v r := by
  obtain ⟨a, h1, h2⟩ := h
  exact ⟨a, h1, e _ _ h2⟩
theorem PairAt.mono {H H' : Hp} {v : V} {r : Int × Int} (e : Same H H') (h : PairAt H v r) : PairAt H' v r := by
  obtain ⟨a, h1, h2⟩ := h
  exact ⟨a, h1, e _ _ h2⟩
abbrev RowsAt (H : Hp) : List V → List (List Int) → Prop := AllAt (RowAt H)
abbrev PairsAt (H : Hp) : List V → List (Int × Int) → Prop := AllAt (PairAt H)
theorem rows_mono {H H' : Hp} {vs : List V} {Rs : List (List Int)} (e : Same H H') (h : RowsAt H vs Rs) : RowsAt H' vs Rs := AllAt.imp (fun _ _ => RowAt.mono e) h
theorem pairs_mono {H H' : Hp} {vs : List V} {ws : List (Int × Int)} (e : Same H H') (h : PairsAt H vs ws) : PairsAt H' vs ws := AllAt.imp (fun _ _ => PairAt.mono e) h
/-- a fresh address is changed: none of these is it -/
theorem rows_mut {H H' : Hp} {vs : List V} {Rs : List (List Int)} {D : Addr} {o : HO} (e : Same H H') (hD : H D = none) (h : RowsAt H vs Rs) : RowsAt (upd H' D o) vs Rs := rows_mono (same_mut e hD) h
theorem pairs_updL {H : Hp} {l : Addr} {o : HO} {zs : List V} (hl : H l = some (.lst zs)) {vs : List V} {ws : List (Int × Int)} (h : PairsAt H vs ws) : PairsAt (upd H l o) vs ws := AllAt.imp (fun v w ⟨a, h1, h2⟩ => ⟨a, h1, by rw [upd_ne (ne_of h2 hl (by intro z; cases z))]; exact h2⟩) h
def rowsD (Rs : List (List Int)) : PyData := .list (Rs.map intsD)
theorem dpAll_rows {K : PySem.W.Frag} {H : Hp} : ∀ {vs : List V} {Rs : List (List Int)}, RowsAt H vs Rs → DpAll K H vs (Rs.map intsD)
  | [], [], _ => .nil
  | _ :: _, _ :: _, h => by
    obtain ⟨⟨a, rfl, ha⟩, h2⟩ := h
    exact .cons (dp_ints (SqL.of ha)) (dpAll_rows h2)
theorem shaped_rows (Rs : List (List Int)) : SeqAt.shaped (rowsD Rs) = true := by
  have key : ∀ Rs : List (List Int), PyData.canLayAll0 (Rs.map intsD) = true ∧ PyData.depthAll (Rs.map intsD) ≤ 1 := fun Rs => by
    induction Rs with
    | nil => exact ⟨rfl, Nat.zero_le _⟩
    | cons r Rs ih =>
      constructor
      · simp only [List.map_cons, PyData.canLayAll0, ih.1, SeqAt.canLay_of_shaped (shaped_ints r), Bool.and_self]
      · simp only [List.map_cons, PyData.depthAll]
        have := depth_ints r
        omega
  refine shaped_mk ?_ ?_
  · show PyData.canLayAll0 _ = true
    exact (key Rs).1
  · show PyData.depthAll _ + 1 ≤ 64
    have := (key Rs).2
    omega
theorem eqv_rows_nil (Rs : List (List Int)) : PyData.eqv (rowsD Rs) (.list []) = decide (Rs = []) := by
  cases Rs with
  | nil => rfl
  | cons r Rs => simp [rowsD, PyData.eqv, PyData.eqvAll]
/-! all ways within windows -/
def daysI (lo hi : Int) : List Int := (List.range (hi + 1 - lo).toNat).map fun i : Nat => lo + (i : Int)
def extW (Rs : List (List Int)) (w : Int × Int) : List (List Int) := (Rs.map fun r => (daysI w.1 w.2).map fun d => r ++ [d]).flatten
def allW (ws : List (Int × Int)) : List (List Int) := ws.foldl extW [[]]
def InW : List (Int × Int) → List Int → Prop
  | [], [] => True
  | w :: ws, d :: ds => w.1 ≤ d ∧ d ≤ w.2 ∧ InW ws ds
  | _, _ => False
theorem mem_days {lo hi d : Int} : d ∈ daysI lo hi ↔ lo ≤ d ∧ d ≤ hi := by
  unfold daysI
  rw [List.mem_map]
  constructor
  · rintro ⟨i, hi, rfl⟩
    have := List.mem_range.mp hi
    omega
  · intro h
    exact ⟨(d - lo).toNat, List.mem_range.mpr (by omega), by omega⟩
theorem mem_ext {Rs : List (List Int)} {w : Int × Int} {ds : List Int} : ds ∈ extW Rs w ↔ ∃ r ∈ Rs, ∃ d, w.1 ≤ d ∧ d ≤ w.2 ∧ ds = r ++ [d] := by
  unfold extW
  rw [List.mem_flatten]
  constructor
  · rintro ⟨l, hl, hd⟩
    obtain ⟨r, hr, rfl⟩ := List.mem_map.mp hl
    obtain ⟨d, hd2, rfl⟩ := List.mem_map.mp hd
    exact ⟨r, hr, d, (mem_days.mp hd2).1, (mem_days.mp hd2).2, rfl⟩
  · rintro ⟨r, hr, d, h1, h2, rfl⟩
    exact ⟨_, List.mem_map.mpr ⟨r, hr, rfl⟩, List.mem_map.mpr ⟨d, mem_days.mpr ⟨h1, h2⟩, rfl⟩⟩
theorem mem_fold : ∀ (ws : List (Int × Int)) (Rs : List (List Int)) (ds : List Int), ds ∈ ws.foldl extW Rs ↔ ∃ r ∈ Rs, ∃ es, InW ws es ∧ ds = r ++ es
  | [], Rs, ds => by
    constructor
    · intro h
      exact ⟨ds, h, [], trivial, (List.append_nil _).symm⟩
    · rintro ⟨r, hr, es, he, rfl⟩
      cases es with
      | nil => rw [List.append_nil]; exact hr
      | cons a b => exact he.elim
  | w :: ws, Rs, ds => by
    rw [List.foldl_cons, mem_fold ws]
    constructor
    · rintro ⟨r, hr, es, he, rfl⟩
      obtain ⟨r', hr', d, h1, h2, rfl⟩ := mem_ext.mp hr
      exact ⟨r', hr', d :: es, ⟨h1, h2, he⟩, by rw [List.append_assoc]; rfl⟩
    · rintro ⟨r, hr, es, he, rfl⟩
      cases es with
      | nil => exact he.elim
      | cons d es => exact ⟨r ++ [d], mem_ext.mpr ⟨r, hr, d, he.1, he.2.1, rfl⟩, es, he.2.2, by rw [List.append_assoc]; rfl⟩
theorem mem_all {ws : List (Int × Int)} {ds : List Int} : ds ∈ allW ws ↔ InW ws ds := by
  unfold allW
  rw [mem_fold]
  constructor
  · rintro ⟨r, hr, es, he, rfl⟩
    rw [List.mem_singleton.mp hr]
    exact he
  · intro h
    exact ⟨[], List.mem_singleton.mpr rfl, ds, h, rfl⟩
theorem inW_iff : ∀ {ws : List (Int × Int)} {ds : List Int}, InW ws ds ↔ ds.length = ws.length ∧ ∀ i w, ws[i]? = some w → w.1 ≤ ds.getD i 0 ∧ ds.getD i 0 ≤ w.2
  | [], [] => ⟨fun _ => ⟨rfl, fun i w h => by simp at h⟩, fun _ => trivial⟩
  | [], d :: ds => ⟨fun h => h.elim, fun h => by have := h.1; simp at this⟩
  | w :: ws, [] => ⟨fun h => h.elim, fun h => by have := h.1; simp at this⟩
  | w :: ws, d :: ds => by
    constructor
    · rintro ⟨h1, h2, h3⟩
      obtain ⟨l, g⟩ := inW_iff.mp h3
      refine ⟨by simp [l], fun i u hu => ?_⟩
      cases i with
      | zero =>
        have e : w = u := Option.some.inj hu
        subst e
        exact ⟨h1, h2⟩
      | succ i => exact g i u hu
    · rintro ⟨l, g⟩
      refine ⟨(g 0 w rfl).1, (g 0 w rfl).2, inW_iff.mpr ⟨by simpa using l, fun i u hu => g (i + 1) u hu⟩⟩
theorem ext_len {Rs : List (List Int)} {w : Int × Int} (h : w.2 ≤ w.1 + 3) : (extW Rs w).length ≤ 4 * Rs.length := by
  unfold extW
  induction Rs with
  | nil => simp
  | cons r Rs ih =>
    rw [List.map_cons, List.flatten_cons, List.length_append, List.length_cons]
    have : ((daysI w.1 w.2).map fun d => r ++ [d]).length ≤ 4 := by
      unfold daysI
      simp
      omega
    omega
/-- what least and greatest of all ways are -/
theorem min_gap {n : Nat} {ts : List Tie} {W : List (List Int)} (hok : ∀ t ∈ ts, TieIx (n : Int) t) (hW : ∀ ds, ds ∈ W ↔ Way n ts ds) {i j : Nat} (hi : i ≤ n) (hj : j ≤ n) {m : Int} (h1 : m ∈ W.map fun ds => wayF n ds i - wayF n ds j) (h2 : ∀ y ∈ W.map fun ds => wayF n ds i - wayF n ds j, m ≤ y) : m = gapsG n ts i j := by
  obtain ⟨ds, hd, rfl⟩ := List.mem_map.mp h1
  have f := ((hW ds).mp hd).feas hok
  have d := (can_iff hok).mp ⟨_, f⟩
  have a1 := gap_le f hi hj
  have fs := feas_gap hok d hj
  have w := fs.way hok
  have b := h2 _ (List.mem_map.mpr ⟨_, (hW _).mpr w, rfl⟩)
  have e : ∀ k, k ≤ n → wayF n ((List.range n).map fun i => gapsG n ts i j - gapsG n ts n j) k = gapsG n ts k j - gapsG n ts n j := fun k hk => by
    unfold wayF
    split
    · rename_i z
      rw [z]
      omega
    · rw [List.getD_eq_getElem?_getD, List.getElem?_map, List.getElem?_range (by omega)]
      rfl
  rw [e i hi, e j hj] at b
  have := d j hj
  omega
theorem max_gap {n : Nat} {ts : List Tie} {W : List (List Int)} (hok : ∀ t ∈ ts, TieIx (n : Int) t) (hW : ∀ ds, ds ∈ W ↔ Way n ts ds) {i j : Nat} (hi : i ≤ n) (hj : j ≤ n) {m : Int} (h1 : m ∈ W.map fun ds => wayF n ds i - wayF n ds j) (h2 : ∀ y ∈ W.map fun ds => wayF n ds i - wayF n ds j, y ≤ m) : m = - gapsG n ts j i := by
  have e : -m = gapsG n ts j i := by
    refine min_gap hok hW hj hi ?_ ?_
    · obtain ⟨ds, hd, rfl⟩ := List.mem_map.mp h1
      exact List.mem_map.mpr ⟨ds, hd, by omega⟩
    · intro y hy
      obtain ⟨ds, hd, rfl⟩ := List.mem_map.mp hy
      have := h2 _ (List.mem_map.mpr ⟨ds, hd, rfl⟩)
      omega
  omega
theorem can_W {n : Nat} {ts : List Tie} {W : List (List Int)} (hok : ∀ t ∈ ts, TieIx (n : Int) t) (hW : ∀ ds, ds ∈ W ↔ Way n ts ds) : Can n ts ↔ W ≠ [] := by
  constructor
  · rintro ⟨φ, f⟩ e
    have := (hW _).mpr (f.way hok)
    rw [e] at this
    cases this
  · intro h
    obtain ⟨ds, hd⟩ := List.exists_mem_of_ne_nil W h
    exact ⟨_, ((hW ds).mp hd).feas hok⟩
/-- the word of a tie more -/
def wordT (n : Nat) (ts : List Tie) (t : Tie) : Str :=
  if t.2.2 ≤ gapsG n ts (nd n t.1) (nd n t.2.1) then "known" else if - t.2.2 < gapsG n ts (nd n t.2.1) (nd n t.1) then "against" else "news"
/-- rows that are not at D -/
def RowN (H : Hp) (D : Addr) (v : V) (r : List Int) : Prop := ∃ a, v = .ref a ∧ a ≠ D ∧ H a = some (.lst (r.map V.int))
theorem rowsN_mono {H H' : Hp} {D : Addr} {vs : List V} {Rs : List (List Int)} (e : Same H H') (h : AllAt (RowN H D) vs Rs) : AllAt (RowN H' D) vs Rs := AllAt.imp (fun _ _ ⟨a, h1, h2, h3⟩ => ⟨a, h1, h2, e _ _ h3⟩) h
theorem rowsN_upd {H : Hp} {D : Addr} {o : HO} {vs : List V} {Rs : List (List Int)} (h : AllAt (RowN H D) vs Rs) : AllAt (RowN (upd H D o) D) vs Rs := AllAt.imp (fun _ _ ⟨a, h1, h2, h3⟩ => ⟨a, h1, h2, by rw [upd_ne h2]; exact h3⟩) h
theorem rowsN_at {H : Hp} {D : Addr} {vs : List V} {Rs : List (List Int)} (h : AllAt (RowN H D) vs Rs) : RowsAt H vs Rs := AllAt.imp (fun _ _ ⟨a, h1, _, h3⟩ => ⟨a, h1, h3⟩) h
theorem ext_app (Rs : List (List Int)) (r : List Int) (w : Int × Int) : extW (Rs ++ [r]) w = extW Rs w ++ (daysI w.1 w.2).map fun d => r ++ [d] := by
  unfold extW
  simp
theorem ext_row {Rs : List (List Int)} {w : Int × Int} {n : Nat} (h : ∀ r ∈ Rs, r.length = n) : ∀ r ∈ extW Rs w, r.length = n + 1 := fun r hr => by
  obtain ⟨q, hq, d, _, _, rfl⟩ := mem_ext.mp hr
  rw [List.length_append, h q hq]
  rfl
theorem inW_len {ws : List (Int × Int)} {ds : List Int} (h : InW ws ds) : ds.length = ws.length := (inW_iff.mp h).1
/-- small sets of lives, drawn -/
structure SmallAt (H H' : Hp) (p q l : Addr) (ys xs : List V) (ws : List (Int × Int)) (ts : List Tie) : Prop where
  same : Same H H'
  np : H p = none
  tup : H' p = some (.tup [.int (ws.length : Int), .ref q, .ref l])
  wl : H' q = some (.lst ys)
  wp : PairsAt H' ys ws
  lst : H' l = some (.lst xs)
  ties : TiesAt H' xs ts
  m1 : 1 ≤ ws.length
  m4 : ws.length ≤ 4
  wd : ∀ w ∈ ws, 0 ≤ w.1 ∧ w.1 ≤ w.2 ∧ w.2 ≤ w.1 + 3 ∧ w.2 ≤ 9999
  hi9 : ∀ w ∈ ws, w.2 ≤ 9987
  ok : ∀ t ∈ ts, TieOk (ws.length : Int) t
  tl : ts.length ≤ 20
  win : ∀ (i : Nat) w, ws[i]? = some w → ((i : Int), -1, w.1) ∈ ts ∧ (-1, (i : Int), -w.2) ∈ ts
theorem small_way {ws : List (Int × Int)} {ts : List Tie} {ds : List Int} (wd : ∀ w ∈ ws, 0 ≤ w.1 ∧ w.1 ≤ w.2 ∧ w.2 ≤ w.1 + 3 ∧ w.2 ≤ 9999) (win : ∀ (i : Nat) w, ws[i]? = some w → ((i : Int), -1, w.1) ∈ ts ∧ (-1, (i : Int), -w.2) ∈ ts) : (InW ws ds ∧ ∀ t ∈ ts, KeptW ds t) ↔ Way ws.length ts ds := by
  constructor
  · rintro ⟨h, k⟩
    obtain ⟨l, g⟩ := inW_iff.mp h
    refine ⟨l, fun x hx => ?_, k⟩
    obtain ⟨i, hi, rfl⟩ := List.getElem_of_mem hx
    have e := List.getElem?_eq_getElem (l := ws) (i := i) (by omega)
    have a := g i _ e
    have b := wd _ (List.mem_of_getElem? e)
    rw [List.getD_eq_getElem?_getD, List.getElem?_eq_getElem hi] at a
    have c : (some ds[i]).getD 0 = ds[i] := rfl
    rw [c] at a
    omega
  · rintro ⟨l, r, k⟩
    refine ⟨inW_iff.mpr ⟨l, fun i w hw => ?_⟩, k⟩
    obtain ⟨a, b⟩ := win i w hw
    have a := k _ a
    have b := k _ b
    unfold KeptW dayOf at a b
    dsimp only at a b
    rw [if_neg (by omega), if_pos (by decide), show ((i : Int)).toNat = i by omega] at a
    rw [if_pos (by decide), if_neg (by omega), show ((i : Int)).toNat = i by omega] at b
    omega
def bodyS (st : Stmt) : List Stmt := match st with
  | .For _ _ b _ _ => b
  | .While _ b _ _ => b
  | .If _ b _ _ => b
  | _ => []
def valS (st : Stmt) : Expr := match st with
  | .Assign _ e _ => e
  | _ => .Constant .none 0 ⟨0, 0, 0, 0⟩
def stAt (l : List Stmt) (i : Nat) : Stmt := l.getD i (.Pass ⟨0, 0, 0, 0⟩)
theorem size_ints (ns : List Int) : sizeD (intsD ns) = ns.length := by
  have key : ∀ ns : List Int, sizeAll (ns.map PyData.int) = 0 := fun ns => by
    induction ns with
    | nil => rfl
    | cons n ns ih => simp only [List.map_cons, sizeAll, sizeD, ih]
  simp only [intsD, sizeD, key, List.length_map, Nat.add_zero]
theorem min_day {n : Nat} {ts : List Tie} {W : List (List Int)} (hok : ∀ t ∈ ts, TieIx (n : Int) t) (hW : ∀ ds, ds ∈ W ↔ Way n ts ds) {o : Int} (h0 : 0 ≤ o) (hi : o < n) {m : Int} (h1 : m ∈ W.map fun ds => dayOf ds o) (h2 : ∀ y ∈ W.map fun ds => dayOf ds o, m ≤ y) : m = gapsG n ts o.toNat n := by
  have e : (W.map fun ds => dayOf ds o) = W.map fun ds => wayF n ds o.toNat - wayF n ds n := List.map_congr_left fun ds _ => by
    rw [dayOf_nd hi, nd_nat (by omega)]
    unfold wayF
    rw [if_pos rfl]
    omega
  rw [e] at h1 h2
  exact min_gap hok hW (by omega) (Nat.le_refl n) h1 h2
theorem max_day {n : Nat} {ts : List Tie} {W : List (List Int)} (hok : ∀ t ∈ ts, TieIx (n : Int) t) (hW : ∀ ds, ds ∈ W ↔ Way n ts ds) {o : Int} (h0 : 0 ≤ o) (hi : o < n) {m : Int} (h1 : m ∈ W.map fun ds => dayOf ds o) (h2 : ∀ y ∈ W.map fun ds => dayOf ds o, y ≤ m) : m = - gapsG n ts n o.toNat := by
  have e : (W.map fun ds => dayOf ds o) = W.map fun ds => wayF n ds o.toNat - wayF n ds n := List.map_congr_left fun ds _ => by
    rw [dayOf_nd hi, nd_nat (by omega)]
    unfold wayF
    rw [if_pos rfl]
    omega
  rw [e] at h1 h2
  exact max_gap hok hW (by omega) (Nat.le_refl n) h1 h2
theorem steps_eq {n : Nat} {W : List (List Int)} {o u : Int} (ho : o < n) (hu : u < n) : (W.map fun ds => dayOf ds o - dayOf ds u) = W.map fun ds => wayF n ds (nd n o) - wayF n ds (nd n u) := List.map_congr_left fun ds _ => by
  rw [dayOf_nd ho, dayOf_nd hu]
theorem min_step {n : Nat} {ts : List Tie} {W : List (List Int)} (hok : ∀ t ∈ ts, TieIx (n : Int) t) (hW : ∀ ds, ds ∈ W ↔ Way n ts ds) {o u : Int} (ho : o < n) (hu : u < n) {m : Int} (h1 : m ∈ W.map fun ds => dayOf ds o - dayOf ds u) (h2 : ∀ y ∈ W.map fun ds => dayOf ds o - dayOf ds u, m ≤ y) : m = gapsG n ts (nd n o) (nd n u) := by
  rw [steps_eq ho hu] at h1 h2
  exact min_gap hok hW (nd_le ho) (nd_le hu) h1 h2
theorem max_step {n : Nat} {ts : List Tie} {W : List (List Int)} (hok : ∀ t ∈ ts, TieIx (n : Int) t) (hW : ∀ ds, ds ∈ W ↔ Way n ts ds) {o u : Int} (ho : o < n) (hu : u < n) {m : Int} (h1 : m ∈ W.map fun ds => dayOf ds o - dayOf ds u) (h2 : ∀ y ∈ W.map fun ds => dayOf ds o - dayOf ds u, y ≤ m) : m = - gapsG n ts (nd n u) (nd n o) := by
  rw [steps_eq ho hu] at h1 h2
  exact max_gap hok hW (nd_le ho) (nd_le hu) h1 h2
/-- the ties about the gap -/
def moreT (o u g : Int) : List Int → List Tie
  | [] => []
  | b :: bs => if g + b < 10000 then (o, u, g + b) :: moreT o u g bs else moreT o u g bs
theorem more_app (o u g b : Int) : ∀ bs : List Int, moreT o u g (bs ++ [b]) = moreT o u g bs ++ if g + b < 10000 then [(o, u, g + b)] else []
  | [] => rfl
  | c :: bs => by
    have := more_app o u g b bs
    show (if g + c < 10000 then (o, u, g + c) :: moreT o u g (bs ++ [b]) else moreT o u g (bs ++ [b])) = (if g + c < 10000 then (o, u, g + c) :: moreT o u g bs else moreT o u g bs) ++ _
    rw [this]
    split <;> rfl
theorem gap_most {n : Nat} {ts : List Tie} (c : Can n ts) {i j : Nat} (hi : i ≤ n) (hj : j ≤ n) : gapsG n ts i j ≤ 9999 := by
  obtain ⟨φ, f⟩ := c
  have a := gap_le f hi hj
  have b := f.lo' hj
  have d : φ i ≤ 9999 := by
    rcases Nat.lt_or_ge i n with h | h
    · exact f.hi i h
    · have e : i = n := by omega
      rw [e, f.z]
      decide
  omega
theorem more_ok {n : Nat} {ts : List Tie} (c : Can n ts) {o u : Int} (h1 : -1 ≤ o) (h2 : o < n) (h3 : -1 ≤ u) (h4 : u < n) (ne : o ≠ u) : ∀ t ∈ moreT o u (gapsG n ts (nd n o) (nd n u)) [0, 1], TieOk (n : Int) t := by
  have lo := gap_hi (n := n) (ts := ts) (nd n o) (nd n u)
  intro t ht
  unfold moreT moreT moreT at ht
  generalize gapsG n ts (nd n o) (nd n u) = g at *
  have key : ∀ b : Int, 0 ≤ b → g + b < 10000 → TieOk (n : Int) (o, u, g + b) := fun b hb hl => ⟨h1, h2, h3, h4, ne, by show -9999 ≤ g + b; omega, by show g + b ≤ 9999; omega⟩
  split at ht
  · split at ht
    · simp only [List.mem_cons, List.not_mem_nil, or_false] at ht
      rcases ht with rfl | rfl
      · exact key 0 (by decide) (by assumption)
      · exact key 1 (by decide) (by assumption)
    · rw [List.mem_singleton.mp ht]
      exact key 0 (by decide) (by assumption)
  · split at ht
    · rw [List.mem_singleton.mp ht]
      exact key 1 (by decide) (by assumption)
    · cases ht
def lastW (n : Nat) (ts : List Tie) (o u : Int) : Str := if gapsG n ts (nd n o) (nd n u) < - gapsG n ts (nd n u) (nd n o) then "news" else "against"
theorem more_words {n : Nat} {ts : List Tie} (c : Can n ts) {o u : Int} (h2 : o < n) (h4 : u < n) : (moreT o u (gapsG n ts (nd n o) (nd n u)) [0, 1]).map (wordT n ts) = [("known" : Str), lastW n ts o u].take (moreT o u (gapsG n ts (nd n o) (nd n u)) [0, 1]).length := by
  have hi := gap_most c (nd_le h2) (nd_le h4)
  have w0 : wordT n ts (o, u, gapsG n ts (nd n o) (nd n u) + 0) = "known" := by
    unfold wordT
    exact if_pos (by show gapsG n ts (nd n o) (nd n u) + 0 ≤ gapsG n ts (nd n o) (nd n u); omega)
  have w1 : wordT n ts (o, u, gapsG n ts (nd n o) (nd n u) + 1) = lastW n ts o u := by
    unfold wordT lastW
    dsimp only
    rw [if_neg (by omega)]
    split <;> split <;> first | rfl | omega
  unfold moreT moreT moreT
  rw [if_pos (by omega)]
  split
  · show [_, _] = _
    rw [w0, w1]
    rfl
  · show [_] = _
    rw [w0]
    rfl
theorem shaped_strs {xs : List Str} (h : ∀ x ∈ xs, (PyData.str x).canLay0 = true) : SeqAt.shaped (.list (xs.map PyData.str)) = true := by
  have key : ∀ xs : List Str, (∀ x ∈ xs, (PyData.str x).canLay0 = true) → PyData.canLayAll0 (xs.map PyData.str) = true ∧ PyData.depthAll (xs.map PyData.str) = 0 := fun xs h => by
    induction xs with
    | nil => exact ⟨rfl, rfl⟩
    | cons x xs ih =>
      obtain ⟨a, b⟩ := ih fun y hy => h y (List.mem_cons_of_mem _ hy)
      constructor
      · simp only [List.map_cons, PyData.canLayAll0, a, h x (List.mem_cons_self ..), Bool.and_self]
      · simp only [List.map_cons, PyData.depthAll, PyData.depth, b, Nat.max_self]
  refine shaped_mk (key xs h).1 ?_
  show PyData.depthAll _ + 1 ≤ 64
  rw [(key xs h).2]
  decide
theorem dpAll_strs {K : PySem.W.Frag} {H : Hp} : ∀ xs : List Str, DpAll K H (xs.map V.str) (xs.map PyData.str)
  | [] => .nil
  | x :: xs => .cons (.str x) (dpAll_strs xs)
theorem dp_strs {K : PySem.W.Frag} {H : Hp} {a : Addr} {xs : List Str} (h : H a = some (.lst (xs.map V.str))) : Dp K H (.ref a) (.list (xs.map PyData.str)) := .lst (SqL.of h) (dpAll_strs xs)
theorem lay_word (n : Nat) (ts : List Tie) (o u : Int) : ∀ x ∈ [("known" : Str), lastW n ts o u], (PyData.str x).canLay0 = true := by
  intro x hx
  unfold lastW at hx
  split at hx <;> simp only [List.mem_cons, List.not_mem_nil, or_false] at hx <;> rcases hx with rfl | rfl <;> decide +kernel
end LH

set_option Elab.async false
set_option linter.all false
set_option maxRecDepth 100000
set_option maxHeartbeats 4000000
/-! turns -/
namespace LH
open PySem PySem.Spec PyProof.Rows L2
theorem snoc_ind {α : Type} {P : List α → Prop} (h0 : P []) (h1 : ∀ l x, P l → P (l ++ [x])) (l : List α) : P l := by
  have key : ∀ l : List α, P l.reverse := fun l => by
    induction l with
    | nil => exact h0
    | cons x l ih =>
      rw [List.reverse_cons]
      exact h1 _ _ ih
  have := key l.reverse
  rw [List.reverse_reverse] at this
  exact this
theorem min_if (a b : Int) : (if b < a then b else a) = min a b := by
  split <;> omega
def stepT (ds : List Int) (b : Int) (st : List (Int × Int × Int) × Int) (l : Int) : List (Int × Int × Int) × Int :=
  if st.2 < min (dayOf ds l) b then (st.1 ++ [(l, st.2, min (dayOf ds l) b)], min (dayOf ds l) b) else st
def turnsS (r ds : List Int) (s b : Int) : List (Int × Int × Int) × Int := r.foldl (stepT ds b) ([], s)
def turnsOf (r ds : List Int) (s b : Int) : List (Int × Int × Int) := (turnsS r ds s b).1
theorem turnsS_take {r ds : List Int} {s b x : Int} {i : Nat} (h : r[i]? = some x) : turnsS (r.take (i + 1)) ds s b = stepT ds b (turnsS (r.take i) ds s b) x := by
  unfold turnsS
  rw [List.take_succ, h, List.foldl_append]
  rfl
theorem turnsS_snoc (r ds : List Int) (s b x : Int) : turnsS (r ++ [x]) ds s b = stepT ds b (turnsS r ds s b) x := by
  unfold turnsS
  rw [List.foldl_append]
  rfl
theorem turnsS_len (ds : List Int) (s b : Int) : ∀ r : List Int, (turnsS r ds s b).1.length ≤ r.length := by
  intro r
  refine snoc_ind (P := fun r => (turnsS r ds s b).1.length ≤ r.length) (Nat.le_refl _) (fun r x ih => ?_) r
  · rw [turnsS_snoc, List.length_append]
    unfold stepT
    split
    · simp
      exact ih
    · simp
      omega
theorem turnsS_ge (ds : List Int) (s b : Int) : ∀ r : List Int, s ≤ (turnsS r ds s b).2 := by
  intro r
  refine snoc_ind (P := fun r => s ≤ (turnsS r ds s b).2) (Int.le_refl _) (fun r x ih => ?_) r
  · rw [turnsS_snoc]
    unfold stepT
    split
    · show s ≤ min (dayOf ds x) b
      omega
    · exact ih
/-- a turn as it is told -/
def TurnAt (K : PySem.W.Frag) (H : Hp) (v : V) (t : Int × Int × Int) : Prop := ∃ p q, v = .ref p ∧ H p = some (.tup [.int t.1, q]) ∧ SpanAt K H q t.2
abbrev TurnsAt (K : PySem.W.Frag) (H : Hp) : List V → List (Int × Int × Int) → Prop := AllAt (TurnAt K H)
theorem TurnAt.mono {K : PySem.W.Frag} {H H' : Hp} {v : V} {t : Int × Int × Int} (e : Same H H') (h : TurnAt K H v t) : TurnAt K H' v t := by
  obtain ⟨p, q, h1, h2, h3⟩ := h
  exact ⟨p, q, h1, e _ _ h2, h3.mono e⟩
theorem turns_mono {K : PySem.W.Frag} {H H' : Hp} {vs : List V} {ts : List (Int × Int × Int)} (e : Same H H') (h : TurnsAt K H vs ts) : TurnsAt K H' vs ts := AllAt.imp (fun _ _ => TurnAt.mono e) h
theorem SpanAt.updL {K : PySem.W.Frag} {H : Hp} {l : Addr} {o : HO} {zs : List V} {v : V} {s : Int × Int} (hl : H l = some (.lst zs)) (h : SpanAt K H v s) : SpanAt K (upd H l o) v s := by
  obtain ⟨a, dx, h1, h2⟩ := h
  exact ⟨a, dx, h1, by rw [upd_ne (ne_of h2 hl (by intro z; cases z))]; exact h2⟩
theorem turns_updL {K : PySem.W.Frag} {H : Hp} {l : Addr} {o : HO} {zs : List V} {vs : List V} {ts : List (Int × Int × Int)} (hl : H l = some (.lst zs)) (h : TurnsAt K H vs ts) : TurnsAt K (upd H l o) vs ts :=
  AllAt.imp (fun v t ⟨p, q, h1, h2, h3⟩ => ⟨p, q, h1, by rw [upd_ne (ne_of h2 hl (by intro z; cases z))]; exact h2, h3.updL hl⟩) h
def deadOf (r ds : List Int) (s b : Int) : List Int := ((turnsOf r ds s b).filter fun t => decide (t.2.2 = dayOf ds t.1)).map fun t => t.1
/-- what is true of each turn -/
theorem turns_ok {ds : List Int} {s b : Int} (h0 : 0 ≤ s) (hb : b ≤ 10000) : ∀ r : List Int, ∀ t ∈ (turnsS r ds s b).1, SpanOk t.2 ∧ t.1 ∈ r := by
  intro r
  refine snoc_ind (P := fun r => ∀ t ∈ (turnsS r ds s b).1, SpanOk t.2 ∧ t.1 ∈ r) (fun t ht => by cases ht) (fun r x ih => ?_) r
  · intro t ht
    have g := turnsS_ge ds s b r
    rw [turnsS_snoc] at ht
    unfold stepT at ht
    split at ht
    · rename_i c
      rcases List.mem_append.mp ht with ht | ht
      · exact ⟨(ih t ht).1, List.mem_append_left _ (ih t ht).2⟩
      · rw [List.mem_singleton.mp ht]
        exact ⟨⟨by show 0 ≤ (turnsS r ds s b).2; omega, c, by show min (dayOf ds x) b ≤ 10000; omega⟩, List.mem_append_right _ (List.mem_singleton.mpr rfl)⟩
    · exact ⟨(ih t ht).1, List.mem_append_left _ (ih t ht).2⟩
theorem TurnAt.len {K : PySem.W.Frag} {H : Hp} {vs : List V} {ts : List (Int × Int × Int)} (h : TurnsAt K H vs ts) : vs.length = ts.length := AllAt.length h
end LH
namespace LH
open PySem PySem.Spec PyProof.Rows L2
theorem ty_list {K : PySem.W.Frag} {H : Hp} {a : Addr} {xs : List V} (h : SqL K H a xs) : TyX K H (.ref a) (.type "list") := by
  rcases h with (h | ⟨o, h⟩) | ⟨o, its, n, h1, h2, _⟩
  · exact .base (.lst h)
  · exact .base (.frz h)
  · exact .kList h1 h2
theorem ty_tup {K : PySem.W.Frag} {H : Hp} {a : Addr} {xs : List V} (h : SqT K H a xs) : TyX K H (.ref a) (.type "tuple") := by
  rcases h with (h | ⟨o, h⟩) | ⟨o, its, n, h1, h2, _⟩
  · exact .base (.tup h)
  · exact .fTuple h
  · exact .kTuple h1 h2
theorem kit_list {K : PySem.W.Frag} : PySem.W.kitOne K (.type "list") (.type "list") = some true := kit_ty (by decide +kernel)
theorem kit_tuple {K : PySem.W.Frag} : PySem.W.kitOne K (.type "tuple") (.type "tuple") = some true := kit_ty (by decide +kernel)
end LH
namespace LH
open PySem PySem.Spec PyProof.Rows L2
theorem turns_seen {ds : List Int} {s b : Int} (r : List Int) : ∀ l ∈ r, min (dayOf ds l) b ≤ (turnsS r ds s b).2 := by
  refine snoc_ind (P := fun r => ∀ l ∈ r, min (dayOf ds l) b ≤ (turnsS r ds s b).2) (fun l hl => by cases hl) (fun r x ih => ?_) r
  intro l hl
  rw [turnsS_snoc]
  unfold stepT
  rcases List.mem_append.mp hl with hl | hl
  · have := ih l hl
    split
    · show min (dayOf ds l) b ≤ min (dayOf ds x) b
      omega
    · exact this
  · rw [List.mem_singleton.mp hl]
    split
    · exact Int.le_refl _
    · omega
def hereOf (ts : List (Int × Int × Int)) (s : Int) : Int := (ts.getLast?.map fun t => t.2.2).getD s
theorem hereOf_snoc (ts : List (Int × Int × Int)) (t : Int × Int × Int) (s : Int) : hereOf (ts ++ [t]) s = t.2.2 := by
  unfold hereOf
  rw [List.getLast?_append]
  rfl
theorem turns_here {ds : List Int} {s b : Int} (r : List Int) : (turnsS r ds s b).2 = hereOf (turnsS r ds s b).1 s := by
  refine snoc_ind (P := fun r => (turnsS r ds s b).2 = hereOf (turnsS r ds s b).1 s) rfl (fun r x ih => ?_) r
  rw [turnsS_snoc]
  unfold stepT
  split
  · rw [hereOf_snoc]
  · exact ih
theorem turns_next {ds : List Int} {s b : Int} (r : List Int) : ∀ (i : Nat) (t : Int × Int × Int), (turnsS r ds s b).1[i]? = some t → t.2.1 = hereOf ((turnsS r ds s b).1.take i) s := by
  refine snoc_ind (P := fun r => ∀ (i : Nat) (t : Int × Int × Int), (turnsS r ds s b).1[i]? = some t → t.2.1 = hereOf ((turnsS r ds s b).1.take i) s) (fun i t h => by simp [turnsS] at h) (fun r x ih => ?_) r
  intro i t h
  have hh := turns_here (ds := ds) (s := s) (b := b) r
  rw [turnsS_snoc] at h ⊢
  unfold stepT at h ⊢
  split at h
  · rename_i c
    rw [if_pos c]
    rcases Nat.lt_or_ge i (turnsS r ds s b).1.length with h1 | h1
    · rw [List.getElem?_append_left h1] at h
      rw [List.take_append_of_le_length (Nat.le_of_lt h1)]
      exact ih i t h
    · rw [List.getElem?_append_right h1] at h
      have e : i - (turnsS r ds s b).1.length = 0 := by
        rcases Nat.eq_zero_or_pos (i - (turnsS r ds s b).1.length) with z | z
        · exact z
        · rw [List.getElem?_eq_none (by simp; omega)] at h
          cases h
      rw [e] at h
      cases h
      have e2 : i = (turnsS r ds s b).1.length := by omega
      rw [e2, List.take_left']
      · exact hh
      · rfl
  · rename_i c
    rw [if_neg c]
    exact ih i t h
theorem turns_find {ds : List Int} {s b : Int} (r : List Int) : ∀ t ∈ (turnsS r ds s b).1, (∀ d, t.2.1 ≤ d → d < t.2.2 → (r.find? fun l => decide (d < dayOf ds l)) = some t.1) ∧ (t.2.2 < b → dayOf ds t.1 = t.2.2) := by
  refine snoc_ind (P := fun r => ∀ t ∈ (turnsS r ds s b).1, (∀ d, t.2.1 ≤ d → d < t.2.2 → (r.find? fun l => decide (d < dayOf ds l)) = some t.1) ∧ (t.2.2 < b → dayOf ds t.1 = t.2.2)) (fun t h => by cases h) (fun r x ih => ?_) r
  intro t ht
  have seen := turns_seen (ds := ds) (s := s) (b := b) r
  rw [turnsS_snoc] at ht
  unfold stepT at ht
  have old : t ∈ (turnsS r ds s b).1 → (∀ d, t.2.1 ≤ d → d < t.2.2 → ((r ++ [x]).find? fun l => decide (d < dayOf ds l)) = some t.1) ∧ (t.2.2 < b → dayOf ds t.1 = t.2.2) := fun ht => by
    refine ⟨fun d h1 h2 => ?_, (ih t ht).2⟩
    rw [List.find?_append, (ih t ht).1 d h1 h2]
    rfl
  split at ht
  · rename_i c
    rcases List.mem_append.mp ht with ht | ht
    · exact old ht
    · rw [List.mem_singleton.mp ht]
      refine ⟨fun d h1 h2 => ?_, fun h => ?_⟩
      · have h1 : (turnsS r ds s b).2 ≤ d := h1
        have h2 : d < min (dayOf ds x) b := h2
        have no : (r.find? fun l => decide (d < dayOf ds l)) = none := by
          rw [List.find?_eq_none]
          intro l hl
          have := seen l hl
          have : ¬ d < dayOf ds l := by omega
          simpa using this
        rw [List.find?_append, no]
        have : d < dayOf ds x := by omega
        simp [this]
      · show dayOf ds x = min (dayOf ds x) b
        have h : min (dayOf ds x) b < b := h
        omega
  · exact old ht
theorem turns_holder {ds : List Int} {s b : Int} (r : List Int) {t : Int × Int × Int} (ht : t ∈ (turnsS r ds s b).1) {d : Int} (h1 : t.2.1 ≤ d) (h2 : d < t.2.2) : holderOf r ds d = t.1 := by
  unfold holderOf
  rw [((turns_find r t ht).1 d h1 h2)]
  rfl
theorem holder_day {r ds : List Int} {d x : Int} (h : holderOf r ds d = x) (h0 : 0 ≤ x) : d < dayOf ds x := by
  unfold holderOf at h
  cases e : r.find? fun l => decide (d < dayOf ds l) with
  | none =>
    rw [e] at h
    have h : (-1 : Int) = x := h
    omega
  | some y =>
    rw [e] at h
    have h : y = x := h
    subst h
    have := List.find?_some e
    simpa using this
theorem turns_end {ds : List Int} {s b : Int} (r : List Int) (h : (turnsS r ds s b).2 < b) : holderOf r ds (turnsS r ds s b).2 = -1 := by
  refine holder_none fun j y hy => ?_
  have := turns_seen (ds := ds) (s := s) (b := b) r y (List.mem_of_getElem? hy)
  omega
theorem turns_ranks {ds : List Int} {s b : Int} (r : List Int) : r.Nodup → ((turnsS r ds s b).1.map fun t => (r.idxOf t.1 : Int)).Pairwise (· < ·) := by
  refine snoc_ind (P := fun r => r.Nodup → ((turnsS r ds s b).1.map fun t => (r.idxOf t.1 : Int)).Pairwise (· < ·)) (fun _ => List.Pairwise.nil) (fun r x ih => ?_) r
  intro nd
  have n1 := (List.nodup_append.mp nd).1
  have nx : x ∉ r := fun z => (List.nodup_append.mp nd).2.2 x z x (List.mem_singleton.mpr rfl) rfl
  have mem : ∀ t ∈ (turnsS r ds s b).1, t.1 ∈ r := fun t ht => by
    obtain ⟨h1, h2⟩ := (snoc_ind (P := fun r => ∀ t ∈ (turnsS r ds s b).1, t.1 ∈ r ∧ True) (fun t h => by cases h) (fun r x ih t ht => by
      rw [turnsS_snoc] at ht
      unfold stepT at ht
      split at ht
      · rcases List.mem_append.mp ht with ht | ht
        · exact ⟨List.mem_append_left _ (ih t ht).1, trivial⟩
        · rw [List.mem_singleton.mp ht]
          exact ⟨List.mem_append_right _ (List.mem_singleton.mpr rfl), trivial⟩
      · exact ⟨List.mem_append_left _ (ih t ht).1, trivial⟩) r) t ht
    exact h1
  have old : ((turnsS r ds s b).1.map fun t => ((r ++ [x]).idxOf t.1 : Int)) = (turnsS r ds s b).1.map fun t => (r.idxOf t.1 : Int) := List.map_congr_left fun t ht => by
    rw [List.idxOf_append, if_pos (mem t ht)]
  rw [turnsS_snoc]
  unfold stepT
  split
  · rw [List.map_append, old, List.pairwise_append]
    refine ⟨ih n1, by simp, fun a ha c hc => ?_⟩
    obtain ⟨t, ht, rfl⟩ := List.mem_map.mp ha
    have hc := List.mem_singleton.mp hc
    rw [hc]
    have h1 := List.idxOf_lt_length_iff.mpr (mem t ht)
    show (r.idxOf t.1 : Int) < ((r ++ [x]).idxOf x : Int)
    rw [List.idxOf_append, if_neg nx]
    omega
  · rw [old]
    exact ih n1
theorem turns_sum {ds : List Int} {s b : Int} (r : List Int) : ((turnsS r ds s b).1.map fun t => (((t.2.2 - t.2.1).toNat : Nat) : Int)).sum = (turnsS r ds s b).2 - s := by
  refine snoc_ind (P := fun r => ((turnsS r ds s b).1.map fun t => (((t.2.2 - t.2.1).toNat : Nat) : Int)).sum = (turnsS r ds s b).2 - s) (by simp [turnsS]) (fun r x ih => ?_) r
  rw [turnsS_snoc]
  unfold stepT
  split
  · rw [List.map_append, List.sum_append, ih]
    show _ + List.sum [(((min (dayOf ds x) b - (turnsS r ds s b).2).toNat : Nat) : Int)] = min (dayOf ds x) b - s
    simp only [List.sum_cons, List.sum_nil]
    omega
  · exact ih
end LH
namespace LH
theorem sum_nats (ts : List (Int × Int × Int)) : 0 ≤ (ts.map fun t => (((t.2.2 - t.2.1).toNat : Nat) : Int)).sum := by
  induction ts with
  | nil => exact Int.le_refl _
  | cons t ts ih =>
    rw [List.map_cons, List.sum_cons]
    omega
end LH
namespace LH
open PySem PySem.Spec PyProof.Rows L2
open Classical in
noncomputable def dueW (door : Int) (r ds : List Int) (s : Int) (o : Option Int) : Str :=
  if ¬ CountOk (ds.length : Int) then "BadCount" else if ¬ DaysOk ds then "BadDay" else if ¬ RowOk (ds.length : Int) r then "BadRow" else
    if door = 0 then (if ¬ DayOk s then "BadDay" else "") else if ¬ RunOk s o then "BadDay" else ""
end LH

set_option Elab.async false
set_option linter.all false
set_option maxRecDepth 100000
set_option maxHeartbeats 4000000
/-! sorted of a list of ints by a lambda that reads a list of ints that it captures -/
namespace LH
open PySem PySem.Spec PyProof.Rows L2 LamX
/-- the row in the order of its days -/
def sortD (ns ds : List Int) : List Int := ns.mergeSort fun a b => decide (dayOf ds a ≤ dayOf ds b)
theorem ints_at : ∀ {ds : List Int} {its : List Value} {i : Nat} {x : Int}, Vals (ds.map V.int) its → ds[i]? = some x → ∃ t, its[i]? = some (.int x t)
  | [], _, _, _, _, h => by simp at h
  | d :: ds, _, 0, x, r, h => by
    cases r with
    | cons r1 r2 =>
      obtain ⟨t, rfl⟩ := r1
      have e : d = x := by simpa using h
      exact ⟨t, by rw [← e]; rfl⟩
  | d :: ds, _, i + 1, x, r, h => by
    cases r with
    | cons r1 r2 =>
      have e : ds[i]? = some x := by simpa using h
      obtain ⟨t, ht⟩ := ints_at r2 e
      exact ⟨t, by simpa using ht⟩
theorem each_ints : ∀ {ns : List Int} {its : List Value}, Vals (ns.map V.int) its → PySem.W.EachIs (fun v (x : Int) => ∃ t, v = Value.int x t) its ns
  | [], _, r => by cases r; exact .nil
  | n :: ns, _, r => by
    cases r with
    | cons r1 r2 => exact .cons r1 (each_ints r2)
theorem vals_each : ∀ {ns : List Int} {its : List Value}, PySem.W.EachIs (fun v (x : Int) => ∃ t, v = Value.int x t) its ns → Vals (ns.map V.int) its
  | [], _, r => by cases r; exact .nil
  | n :: ns, _, r => by
    cases r with
    | cons r1 r2 => exact .cons r1 (vals_each r2)
section
variable {X : Cx} {pins : List (Addr × Obj)} {σ : L2.St} {H : Hp} {s : Shared}
theorem sort_lam {k : Nat} {Q : VK} (I : Inv X pins σ H s) {f c' : Addr} {pm ctv : Value} {params : Arguments} {scope : Scope} {qual : Str} {cl : List (Str × Addr)} {x y : Str} {p1 p2 p3 : Pos} (hr : Room (k + 2) X.A)
    (hf : s.heap.get? f = some (PySem.W.kla_obj "<lambda>" qual params (.Subscript (.Name y p1) (.Name x p2) p3) scope cl pm c' ctv)) (hco : H c' = some (CodeO c' qual))
    (sk : scope.kind = .function) (sc : scope.isCoroutine = false) (sg : scope.isGenerator = false) (hx : scope.names.lookup x = some .local) (hy : scope.names.lookup y = some .free) (nc : ∀ z ∈ scope.names, z.2 ≠ .cell)
    (hbind : ∀ v, bindArgs (PySem.W.kla_fn "<lambda>" qual params (.Subscript (.Name y p1) (.Name x p2) p3) scope cl pm (.ref c') ctv) ⟨[v], []⟩ = pure [(x, v)])
    {cy d : Addr} (hcy : cl.lookup y = some cy) (hcell : s.heap.IsCell cy (some (.ref d))) {ds ns : List Int} {a : Addr} (hD : SqL X.K H d (ds.map V.int)) (hA : SqL X.K H a (ns.map V.int)) (hb : ∀ z ∈ ns, 0 ≤ z ∧ z < ds.length)
    (q : ∀ p, H p = none → Q (.ref p) (upd H p (.lst ((sortD ns ds).map V.int))))
    (dx : (x == ("__debug__" : Str)) = false := by decide) (dy : (y == ("__debug__" : Str)) = false := by decide) (dc : (y == ("__classdict__" : Str)) = false := by decide) :
    wpAny (model X.prog X.w) X.A (call (.builtin "sorted") [.ref a] [(Str.ofString "key", .ref f)]) (EP X pins σ Q) X.xe s := by
  obtain ⟨its, rv, hl, hz⟩ := I.list hA
  obtain ⟨itd, rd, hld, hzd⟩ := I.list hD
  obtain ⟨⟨oc, vs, tq, hoc, hdc, hvc⟩, _, _⟩ := I.hok c' _ hco
  rw [List.length_map] at hz hzd
  have un := hr.un
  have dp := hr.dp
  refine PySem.W.sorted_key_data (b := false) (f := .ref f) (kw := [(Str.ofString "key", .ref f)]) (k := fun z => PyData.int (dayOf ds z)) hl.isList (each_ints rv) ?_ ?_ hz ?_ (ksk_s1 _ _) (fun _ => ksk_l1 _ _) (fun _ => ksk_t1 _ _) ?_ ?_
  · intro d1 h1 d2 h2
    obtain ⟨z1, _, rfl⟩ := List.mem_map.mp h1
    obtain ⟨z2, _, rfl⟩ := List.mem_map.mp h2
    rfl
  · refine .inr fun d1 h1 => ?_
    obtain ⟨z1, _, rfl⟩ := List.mem_map.mp h1
    exact ⟨fun z => (by cases z), fun xs z => (by cases z)⟩
  · intro z _
    show X.A.units + 2 + 0 < cLine
    omega
  · intro v z hv hz1 h tk kp
    obtain ⟨t, rfl⟩ := hv
    obtain ⟨b0, b1⟩ := hb z hz1
    have hlt : z.toNat < ds.length := by omega
    obtain ⟨t2, ht2⟩ := ints_at (i := z.toNat) rd (List.getElem?_eq_getElem hlt)
    have key : ds[z.toNat] = dayOf ds z := by
      unfold dayOf
      rw [if_neg (by omega), List.getD_eq_getElem?_getD, List.getElem?_eq_getElem hlt]
      rfl
    rw [key] at ht2
    have rc : codeAny (model X.prog X.w) X.A.in1.in1 (.call (.ref f) ⟨[.int z t], []⟩) (fun r s' => ∃ v, r = .ok (.ret v) ∧ PySem.W.KeyPure (PyData.int (dayOf ds z)) { s with heap := h, toks := tk } v s') { s with heap := h, toks := tk } := by
      refine PySem.W.kla_callFunE (by show X.A.depth < recursionLimit; omega) (kp _ _ hf) rfl sc sg rfl ⟨c', oc, vs, tq, rfl, kp _ _ hoc, hdc, hvc⟩ ?_
      rw [hbind]
      refine wpAny_pure (wpAny_newFunctionEnv nc (fun y hy => ?_) (fun h₁ hns hsb => ⟨(I.nolimit.keeps kp).fresh _ hsb, ?_⟩) sk)
      · rw [List.mem_singleton.mp hy]
        exact hx
      show codeAny _ _ (.expr _ (PySem.W.envX qual scope h.objs.size f (.ref c') cl)) _ _
      have kp1 : ∀ b o, h.get? b = some o → h₁.get? b = some o := fun b o e => hsb.extBut b o (Nat.ne_of_lt (Heap.lt_size e)) (Heap.get?_push_of_some _ e)
      have kp2 : ∀ b o, s.heap.get? b = some o → h₁.get? b = some o := fun b o e => kp1 b o (kp b o e)
      have il : Heap.IsList h₁ d itd.toArray := by
        obtain ⟨o, ho, r⟩ := hld.isList
        exact ⟨o, kp2 _ _ ho, r⟩
      have ic : Heap.IsCell h₁ cy (some (.ref d)) := by
        obtain ⟨o, ho, r⟩ := hcell
        exact ⟨o, kp2 _ _ ho, r⟩
      refine PySem.W.kla_codeExpr ?_
      refine wpAny_Subscript_Name slot_list_getitem.lookup ?_
      refine wpAny_Name (wpAny_loadName_free sk hy hcy ic ?_ dc) dy
      refine wpAny_Name (wpAny_loadName_local sk hx hns (v := .int z t) (by simp) ?_) dx
      refine ⟨il.typeIs, wpAny_getItem_list il b0 ?_ (x := .int (dayOf ds z) t2) (by simpa using ht2) ?_⟩
      · have : sizeLine < 2 ^ 63 := by decide
        omega
      · exact ⟨_, rfl, h₁, _, rfl, kp1, .int _ _⟩
    refine wpAny_call (codeAny_mono rc fun r s' hq => ?_)
    obtain ⟨v, rfl, hk⟩ := hq
    exact hk
  · intro out c h' tk kp _ ho hlen he
    have e : ns.mergeSort (PySem.W.dataLe false fun z => PyData.int (dayOf ds z)) = sortD ns ds := by rw [PySem.W.dataLe_int]; rfl
    rw [e] at he
    have ln : ((sortD ns ds).map V.int).length ≤ sizeLine := by
      rw [List.length_map]
      unfold sortD
      rw [List.length_mergeSort]
      exact hz
    exact ⟨.ref _, upd H (s.heap.objs.size + 1) (.lst ((sortD ns ds).map V.int)), I.laid (t' := tk) kp (Nat.le_succ _) ⟨ln, _, c, vals_each he, ho⟩, rfl, q _ (I.hok.fresh (Nat.le_succ _))⟩
/-- of a name that the lambda captures: the value, in its cell -/
theorem cell_of (I : Inv X pins σ H s) {i : Nat} {y : Str} {v : V} (hN : X.N[i]? = some y) (hs : σ[i]? = some (some v)) (hc : X.env.scope.names.lookup y = some .cell) : ∃ u c, RelV v u ∧ X.env.cells.lookup y = some c ∧ s.heap.IsCell c (some u) := by
  obtain ⟨m, hn, hl⟩ := I.loc
  obtain ⟨u, r, q⟩ := hl i y v hN hs (.inr (.inl hc))
  rcases q with ⟨k, _⟩ | ⟨_, c, e, z⟩
  · have k' : X.env.scope.names.lookup y = some .local := k
    rw [hc] at k'
    cases k'
  · exact ⟨u, c, r, e, z⟩
theorem clo_at {scope : Scope} {cells : List (Str × Addr)} {y : Str} {c : Addr} (hy : scope.names.lookup y = some .free) (hc : cells.lookup y = some c) : (cloFrom cells scope.names []).lookup y = some c := by
  have m := cloFrom_has (cells := cells) (acc := []) (PySem.mem_of_lookup hy)
  obtain ⟨c2, h2⟩ := mem_lookup m
  rcases cloFrom_mem (PySem.mem_of_lookup h2) with hm | ⟨_, e⟩
  · cases hm
  · rw [h2, e, hc]
    rfl
theorem extN_seq {K : PySem.W.Frag} {H H' : Hp} {a : Addr} {xs : List V} (e : ExtN H H') (h : SqL K H a xs) : SqL K H' a xs := by
  rcases h with (h | ⟨o, h⟩) | h
  · exact .inl (.inl (e _ _ h (fun ps z => by cases z)))
  · exact .inl (.inr ⟨o, e _ _ h (fun ps z => by cases z)⟩)
  · exact .inr h
/-- the law's one table -/
def lamT (tb : Addr) : List (Addr × Str) := [(tb, ("law" : Str) ++ ".<locals>." ++ "<lambda>")]
/-- all but the object at D stays -/
def SB (D : Addr) (H H' : Hp) : Prop := ∀ a o, a ≠ D → H a = some o → H' a = some o
theorem SB.same {D : Addr} {H H1 H2 : Hp} (a : SB D H H1) (b : Same H1 H2) : SB D H H2 := fun c o n h => b _ _ (a c o n h)
theorem SB.upd {D : Addr} {H H1 : Hp} {o : HO} (a : SB D H H1) : SB D H (upd H1 D o) := fun c u n h => by
  rw [upd_ne n]
  exact a c u n h
theorem tabs_upd {T : List (Addr × Str)} {H : Hp} {D : Addr} {xs : List V} {o : HO} (t : Tabs T H) (hD : H D = some (.lst xs)) : Tabs T (upd H D o) := fun p hp => by
  obtain ⟨ps, h1, h2, h3⟩ := t p hp
  refine ⟨ps, ?_, h2, fun pos cv hc => ?_⟩
  · rw [upd_ne (fun z => by rw [z, hD] at h1; cases h1)]
    exact h1
  · obtain ⟨c, e1, e2⟩ := h3 pos cv hc
    refine ⟨c, e1, ?_⟩
    rw [upd_ne (fun z => by rw [z, hD] at e2; unfold CodeO at e2; cases e2)]
    exact e2
def tSortLam (K : PySem.W.Frag) (T : List (Addr × Str)) (i : Nat) (t : TA) : TE := fun σ H Q => t σ H fun vs H1 => ∃ (a d : Addr) (ns ds : List Int), vs = [V.ref a] ∧ SqL K H1 a (ns.map V.int) ∧ (∃ σ', σ' = σ ∧ σ'[i]? = some (some (.ref d))) ∧ SqL K H1 d (ds.map V.int) ∧ (∀ z ∈ ns, 0 ≤ z ∧ z < ds.length) ∧ Tabs T H1 ∧
  ∀ (p : Addr) (H2 : Hp), ExtN H1 H2 → Tabs T H2 → H2 p = none → Q (.ref p) (upd H2 p (.lst ((sortD ns ds).map V.int)))
end
section
variable {X : Cx}
/-- sorted(e, key=lambda x: y[x]) -/
theorem pe_sortlam {T : List (Addr × Str)} {c P : Addr} {k i : Nat} {e : Expr} {es : List Expr} {t : TA} {params : Arguments} {scope : Scope} {x y : Str} {p p1 p2 p3 lpos kpos pos : Pos} (ha : PA X (e :: es) t) (hg : Gl X "sorted") (hm : X.mg "sorted" = none)
    (TB : TabB X.base X.mg c P) (hcode : X.env.code = .ref c) (hmT : (P, X.env.qual ++ "<lambda>") ∈ T) (hu : ∀ p ∈ T, p.1 = P → p.2 = X.env.qual ++ "<lambda>") (hr : Room (k + 2) X.A)
    (sk : scope.kind = .function) (sc : scope.isCoroutine = false) (sg : scope.isGenerator = false) (hx : scope.names.lookup x = some .local) (hy : scope.names.lookup y = some .free) (nc : ∀ z ∈ scope.names, z.2 ≠ .cell) (hfr : ∀ z ∈ scope.names, z.2 = .free → z.1 = y)
    (hN : X.N[i]? = some y) (hc : X.env.scope.names.lookup y = some .cell) (hdef : defaultsOf params X.env = ([], []))
    (hbind : ∀ (q : Str) (cl : List (Str × Addr)) (pm cv ctv v : Value), bindArgs (PySem.W.kla_fn "<lambda>" q params (.Subscript (.Name y p1) (.Name x p2) p3) scope cl pm cv ctv) ⟨[v], []⟩ = pure [(x, v)])
    (dx : (x == ("__debug__" : Str)) = false := by decide) (dy : (y == ("__debug__" : Str)) = false := by decide) (dc : (y == ("__classdict__" : Str)) = false := by decide)
    (he : backTo pos (starEach (e :: es) X.env) = (false, eval e X.env) :: backTo pos (starEach es X.env) := by rfl) (hpl : (backTo pos (starEach (e :: es) X.env)).any (·.1) = false := by rfl) :
    PE X (.Call (.Name "sorted" p) (e :: es) [⟨some "key", .Lambda params (.Subscript (.Name y p1) (.Name x p2) p3) scope lpos, kpos⟩] pos) (tSortLam X.K T i t) := by
  refine ⟨fun pins s σ H Q I h => ?_⟩
  refine wpAny_Call_Name_kw (ld_blt (u := .builtin "sorted") I hg hm (by rfl) ?_)
  refine PyProof.Rows.callWith_kw (thn (ha.run pos pins s σ H _ I h) fun us s1 ⟨vs, H1, I1, r1, q1⟩ => ?_) he hpl
  show wpAny _ _ (evalAll [(do let v ← eval (.Lambda params (.Subscript (.Name y p1) (.Name x p2) p3) scope lpos) X.env; standAt pos; pure v)]) _ _ s1
  obtain ⟨a, d, ns, ds, rfl, hA, ⟨σ', rfl, hs⟩, hD, hb, hT, q⟩ := q1
  obtain rfl := Vals.ref1 r1
  obtain ⟨u, cy, ru, hcy, hcell⟩ := cell_of I1 hN hs hc
  obtain rfl : u = Value.ref d := ru
  refine wpAny_evalAll_cons (wpAny_bind (lam_make2 I1 TB hcode hmT hu hT hdef (fun z hz e => ⟨cy, by rw [hfr z hz e]; exact hcy⟩) fun f c' pm ctv H2 s2 I2 eN T2 hf hfn hfs hco => wpAny_bind (wpAny_standAt (wpAny_pure ?_))))
  refine wpAny_evalAll_nil ?_
  show wpAny _ _ (call (.builtin "sorted") [.ref a] [(Str.ofString "key", .ref f)]) _ _ _
  obtain ⟨u2, cy2, ru2, hcy2, hcell2⟩ := cell_of I2 hN hs hc
  obtain rfl : u2 = Value.ref d := ru2
  rw [hcy] at hcy2
  cases hcy2
  exact sort_lam I2 hr hf hco sk sc sg hx hy nc (fun v => hbind _ _ _ _ _ v) (clo_at hy hcy) hcell2 (extN_seq eN hD) (extN_seq eN hA) hb (fun p hp => q p H2 eN T2 hp) dx dy dc
end
/-! ### the def's own code object, the head's facts with the law's table -/
section
variable {P : Program} {w : World} {K : PySem.W.Frag} {mg : Str → Option Value} {base : Heap} {x qual : Str} {params : Arguments} {body : List Stmt} {scope : Scope} {dvs : List V} {kws : List (Str × V)} {f : Addr} {fd : FuncData}
/-- as FunD.ok, with the code object told -/
theorem okC {CX : CXT} {N ps : List Str} {k : Nat} {sp : Sp} (F : FunD K x qual params body scope dvs kws f fd) (S : FnScope N ps scope) (len : ∀ vs H Q E, sp vs H Q E → vs.length = ps.length)
    (hbody : ∀ (cdv : Value) (_ : fd.code = cdv) (A : Around) (outer : List Env) (s : Shared) (H : Hp) (vs : List V) (Q : VK) (E : XK), Room k (A.deeper (envOfC qual scope s.heap.objs.size f cdv)) → sp vs H Q E →
      ∃ t, PSs (cxOf CX P w K mg base N qual scope f cdv A outer s H E) body t ∧ t { nx := fun _ H' => Q .non H', rt := Q } (start N vs) H) : FnOk P w K mg base CX (k + 1) f fd ps sp := by
  obtain ⟨oc, od, dV, kV, doc, pm, an, cdv, ct, osl, rfl, lk, hcd, _, _⟩ := F.ex
  exact fn_of lk hcd S len fun A outer s H vs Q E hr hsp => hbody cdv rfl A outer s H vs Q E hr hsp
end
noncomputable section
def isTab : Option Obj → Bool
  | some ⟨.none, none, .fields vs, sl⟩ => Nat.beq vs.size 0 && Nat.beq sl.size 0
  | _ => false
theorem isTab_ok {o : Option Obj} (h : isTab o = true) : o = some { cls := .none, data := .fields #[] } := by
  unfold isTab at h
  split at h
  · rename_i vs sl
    obtain ⟨h1, h2⟩ := Bool.and_eq_true_iff.mp h
    have e1 := Array.eq_empty_of_size_eq_zero (Nat.eq_of_beq_eq_true h1)
    have e2 := Array.eq_empty_of_size_eq_zero (Nat.eq_of_beq_eq_true h2)
    rw [e1, e2]
  · cases h
def dropK (K : PySem.W.Frag) (P : Addr) : PySem.W.Frag := K.filter fun p => !Nat.beq p.1 P
theorem memK {a : Addr} {o : Obj} : ∀ {K : PySem.W.Frag}, K.lookup a = some o → (a, o) ∈ K
  | [], e => by cases e
  | (b, ob) :: r, e => by
    rw [List.lookup_cons] at e
    cases hb : (a == b)
    · rw [hb] at e
      exact List.mem_cons_of_mem _ (memK e)
    · rw [hb] at e
      cases e
      have hb2 : a = b := beq_iff_eq.mp hb
      rw [hb2]
      exact List.mem_cons_self ..
theorem drop_mem {K : PySem.W.Frag} {P a : Addr} {o : Obj} (e : (dropK K P).lookup a = some o) : Nat.beq a P = false := by
  have m2 := (List.mem_filter.mp (memK e)).2
  cases q : Nat.beq a P
  · rfl
  · have m3 : (!Nat.beq a P) = true := m2
    rw [q] at m3
    cases m3
theorem drop_lookup {P a : Addr} {o : Obj} : ∀ {K : PySem.W.Frag}, (dropK K P).lookup a = some o → K.lookup a = some o
  | [], e => e
  | (b, ob) :: r, e => by
    have na := drop_mem e
    unfold dropK at e
    rw [List.filter_cons] at e
    rw [List.lookup_cons]
    cases hb : (a == b)
    · by_cases hp : (!Nat.beq b P) = true
      · rw [if_pos hp, List.lookup_cons, hb] at e
        exact drop_lookup e
      · rw [if_neg hp] at e
        exact drop_lookup e
    · have hb2 : a = b := beq_iff_eq.mp hb
      subst hb2
      rw [if_pos (by rw [na]; rfl), List.lookup_cons, hb] at e
      exact e
theorem drop_in {h : Heap} {K : PySem.W.Frag} {P : Addr} (X : K.In h) : (dropK K P).In h := fun a o e => X a o (drop_lookup e)
/-- the law's code object c with its table P, which is no part of the fragment -/
def lawTab (K : PySem.W.Frag) (c P : Addr) : Bool := (match PySem.W.tabIn K "law" with | some (c', P') => Nat.beq c' c && Nat.beq P' P | none => false) && PySem.W.codeHdIn K c P && (K.lookup P).isNone
theorem lawTab_ok {K : PySem.W.Frag} {c P : Addr} (h : lawTab K c P = true) : PySem.W.tabIn K "law" = some (c, P) ∧ PySem.W.codeHdIn K c P = true ∧ K.lookup P = none := by
  unfold lawTab at h
  obtain ⟨h12, h3⟩ := Bool.and_eq_true_iff.mp h
  obtain ⟨h1, h2⟩ := Bool.and_eq_true_iff.mp h12
  refine ⟨?_, h2, Option.isNone_iff_eq_none.mp h3⟩
  split at h1
  · rename_i c' P' q
    obtain ⟨a1, a2⟩ := Bool.and_eq_true_iff.mp h1
    rw [q, Nat.eq_of_beq_eq_true a1, Nat.eq_of_beq_eq_true a2]
  · cases h1
def obK (fa : List He.Fa) (fn : List He.DefD) (ex : PySem.W.Frag → Bool) (g : Addr → Option Obj) (K : PySem.W.Frag) : He.AlD × Bool := match PySem.W.tabIn K "law" with
  | some (c, P) => frK (dropK K P) fun K => (He.obsD fa fn K, ex K && (lawTab K c P && isTab (g P)))
  | none => (He.obsD fa fn K, false)
def hookL (n : Nat) (fa : List He.Fa) (fn : List He.DefD) (ex : PySem.W.Frag → Bool) : PySem.W.Hook where
  α := He.AlD × Bool
  obs := fun s => obK fa fn ex s.heap.get? (He.frT s.heap.get? (asG s.heap.get? n))
  val := fun _ => (He.valD fn, true)
  says := fun _ h => ∃ (K : PySem.W.Frag) (c P : Addr), K.In h ∧ He.SaysD fa fn K ∧ ex K = true ∧ lawTab K c P = true ∧ h.get? P = some { cls := .none, data := .fields #[] }
  of := fun w s e => by
    have hi : (He.frT s.heap.get? (asG s.heap.get? n)).In s.heap := He.frT_in
    generalize He.frT s.heap.get? (asG s.heap.get? n) = K at e hi
    unfold obK at e
    split at e
    · rename_i c P q
      rw [frK_eq] at e
      have e2 := congrArg Prod.snd e
      obtain ⟨x1, x2⟩ := Bool.and_eq_true_iff.mp e2
      obtain ⟨x3, x4⟩ := Bool.and_eq_true_iff.mp x2
      exact ⟨_, c, P, drop_in hi, congrArg Prod.fst e, x1, x3, isTab_ok x4⟩
    · cases congrArg Prod.snd e
  keeps := fun _ _ _ ⟨K, c, P, hK, r1, r2, r3, r4⟩ k => ⟨K, c, P, PySem.W.Frag.In.keeps hK k, r1, r2, r3, k _ _ r4⟩
def obL (n : Nat) (fa : List He.Fa) (fn : List He.DefD) (ex : PySem.W.Frag → Bool) (s : PySem.W.SharedT) : He.AlD × Bool :=
  frK (He.frT (HandSHeadRun.getT s) (asG (HandSHeadRun.getT s) n)) fun K => obK fa fn ex (HandSHeadRun.getT s) K
theorem obL_eq {n : Nat} {fa : List He.Fa} {fn : List He.DefD} {ex : PySem.W.Frag → Bool} (s : PySem.W.SharedT) : obL n fa fn ex s = (hookL n fa fn ex).obs s.abs := by
  unfold obL
  rw [frK_eq]
  have e : HandSHeadRun.getT s = s.abs.heap.get? := funext (HandSHeadRun.getT_eq s)
  rw [e]
  rfl
/-- the law's own code object -/
theorem law_code {K : PySem.W.Frag} {h : Heap} {mg : Str → Option Value} {f c P : Addr} {fd : FuncData} {params : Arguments} {body : List Stmt} {scope : Scope} {dvs : List V} {kws : List (Str × V)} (X : K.In h) (G : h.Ns mainGlobals mg) (hf : mg ("law" : Str) = some (.ref f))
    (F : FunD K "law" "law" params body scope dvs kws f fd) (t : lawTab K c P = true) : fd.code = .ref c := by
  obtain ⟨ht, _, _⟩ := lawTab_ok t
  obtain ⟨oc, od, dV, kV, doc, pm, an, cdv, ct, osl, efd, lk, _⟩ := F.ex
  unfold PySem.W.tabIn at ht
  split at ht
  · rename_i f' hf'
    have e1 := PySem.W.mg_of X G hf'
    rw [hf] at e1
    cases e1
    rw [lk] at ht
    dsimp only at ht
    split at ht
    · rename_i c' hc'
      split at ht
      · split at ht
        · cases ht
          exact hc'
        · cases ht
      · cases ht
    · cases ht
  · cases ht
end
end LH

set_option Elab.async false
set_option linter.all false
set_option maxRecDepth 100000
set_option maxHeartbeats 4000000
namespace K18
open PySem PySem.Spec PyProof.Rows L2 LH
def top (i : Nat) : Stmt := PySem.Challenge.pw_lifehold_k18_deaths_in_holding.main.body.getD i (.Pass ⟨0, 0, 0, 0⟩)
abbrev s_is_day : Stmt := top 8
abbrev N_is_day : List Str := ["number"]
abbrev s_check_count : Stmt := top 12
abbrev N_check_count : List Str := ["many"]
abbrev s_check_day : Stmt := top 15
abbrev N_check_day : List Str := ["day"]
abbrev s_check_unlike : Stmt := top 16
abbrev N_check_unlike : List Str := ["row"]
abbrev s_check_row : Stmt := top 17
abbrev N_check_row : List Str := ["many", "row", "life"]
abbrev s_check_run : Stmt := top 18
abbrev N_check_run : List Str := ["start", "end"]
abbrev s_check_way : Stmt := top 19
abbrev N_check_way : List Str := ["days", "day"]
abbrev s_turns : Stmt := top 20
abbrev N_turns : List Str := ["row", "days", "start", "end", "below", "told", "first", "life", "until"]
abbrev s_in_holding : Stmt := top 21
abbrev N_in_holding : List Str := ["row", "days", "start", "end", "life", "span"]
abbrev s_lmix : Stmt := top 23
abbrev N_lmix : List Str := ["_law_seed", "_law_one", "_law_two"]
abbrev s_lraw : Stmt := top 24
abbrev N_lraw : List Str := ["_law_script", "_law_k", "_law_cell", "_law_found", "_law_turn"]
abbrev s_ldigits : Stmt := top 25
abbrev N_ldigits : List Str := ["_law_script", "_law_k", "_law_sizes", "_law_rest", "_law_found", "_law_size"]
abbrev s_ldays : Stmt := top 26
abbrev N_ldays : List Str := ["_law_script", "_law_k", "_law_many", "_law_near", "_law_days_here", "_law_day"]
abbrev s_lrow : Stmt := top 27
abbrev N_lrow : List Str := ["_law_script", "_law_k", "_law_many", "_law_places", "_law_left", "_law_found", "_law_place"]
abbrev s_lrun : Stmt := top 28
abbrev N_lrun : List Str := ["_law_script", "_law_k", "_law_days_here", "_law_near", "_law_at", "_law_shift", "_law_wide", "_law_way", "_law_begin", "_law_stop"]
abbrev s_lholder : Stmt := top 29
abbrev N_lholder : List Str := ["_law_row_here", "_law_days_here", "_law_day", "_law_there", "_law_life"]
abbrev s_lturns : Stmt := top 30
abbrev N_lturns : List Str := ["_law_row_here", "_law_days_here", "_law_begin", "_law_stop", "_law_until", "_law_found", "_law_here", "_law_life", "_law_last"]
abbrev s_ldead : Stmt := top 31
abbrev N_ldead : List Str := ["_law_row_here", "_law_days_here", "_law_begin", "_law_stop", "_law_life", "_law_first", "_law_last"]
abbrev s_lsame : Stmt := top 33
abbrev N_lsame : List Str := ["_law_told", "_law_due", "_law_one", "_law_other"]
abbrev s_law : Stmt := top 34
abbrev N_law : List Str := ["_law_script", "_law_k", "_law_days_here", "_law_row_here", "_law_begin", "_law_stop", "_law_until", "_law_due", "_law_life", "_law_ahead", "_law_handed", "_law_again", "_law_told"]
abbrev s_Span___init__ : Stmt := inClass (top 9) 0
abbrev N_Span___init__ : List Str := ["self", "first", "until"]
structure Txt (K : PySem.W.Frag) (mg : Str → Option Value) : Prop where
  n_all : mg "all" = none
  n_bool : mg "bool" = none
  n_int : mg "int" = none
  n_isinstance : mg "isinstance" = none
  n_len : mg "len" = none
  n_list : mg "list" = none
  n_max : mg "max" = none
  n_min : mg "min" = none
  n_range : mg "range" = none
  n_set : mg "set" = none
  n_sorted : mg "sorted" = none
  n_str : mg "str" = none
  n_tuple : mg "tuple" = none
  n_zip : mg "zip" = none
  c_LAST_DAY : ∃ t, mg "LAST_DAY" = some (.int (9999) t)
  c_MOST_IN_ROW : ∃ t, mg "MOST_IN_ROW" = some (.int (4) t)
  c_MOST_LIVES : ∃ t, mg "MOST_LIVES" = some (.int (10) t)
  g_BadCount : mg "BadCount" = some (.ref (He.ga K "BadCount"))
  g_BadDay : mg "BadDay" = some (.ref (He.ga K "BadDay"))
  g_BadRow : mg "BadRow" = some (.ref (He.ga K "BadRow"))
  g_Span : mg "Span" = some (.ref (He.ga K "Span"))
  e_BadCount : ErrW K "BadCount" false
  e_BadDay : ErrW K "BadDay" false
  e_BadRow : ErrW K "BadRow" false
  f_Span : SpanF K

def d_is_day : He.DefD := ⟨("is_day", none), "is_day", "is_day", defArgs s_is_day, defBody s_is_day, defScope s_is_day, [], []⟩
def d_check_count : He.DefD := ⟨("check_count", none), "check_count", "check_count", defArgs s_check_count, defBody s_check_count, defScope s_check_count, [], []⟩
def d_check_day : He.DefD := ⟨("check_day", none), "check_day", "check_day", defArgs s_check_day, defBody s_check_day, defScope s_check_day, [], []⟩
def d_check_unlike : He.DefD := ⟨("check_unlike", none), "check_unlike", "check_unlike", defArgs s_check_unlike, defBody s_check_unlike, defScope s_check_unlike, [], []⟩
def d_check_row : He.DefD := ⟨("check_row", none), "check_row", "check_row", defArgs s_check_row, defBody s_check_row, defScope s_check_row, [], []⟩
def d_check_run : He.DefD := ⟨("check_run", none), "check_run", "check_run", defArgs s_check_run, defBody s_check_run, defScope s_check_run, [], []⟩
def d_check_way : He.DefD := ⟨("check_way", none), "check_way", "check_way", defArgs s_check_way, defBody s_check_way, defScope s_check_way, [], []⟩
def d_turns : He.DefD := ⟨("turns", none), "turns", "turns", defArgs s_turns, defBody s_turns, defScope s_turns, [.int 0, .non], []⟩
def d_in_holding : He.DefD := ⟨("in_holding", none), "in_holding", "in_holding", defArgs s_in_holding, defBody s_in_holding, defScope s_in_holding, [.int 0, .non], []⟩
def d_lmix : He.DefD := ⟨("_law_mix", none), "_law_mix", "_law_mix", defArgs s_lmix, defBody s_lmix, defScope s_lmix, [], []⟩
def d_lraw : He.DefD := ⟨("_law_raw", none), "_law_raw", "_law_raw", defArgs s_lraw, defBody s_lraw, defScope s_lraw, [], []⟩
def d_ldigits : He.DefD := ⟨("_law_digits", none), "_law_digits", "_law_digits", defArgs s_ldigits, defBody s_ldigits, defScope s_ldigits, [], []⟩
def d_ldays : He.DefD := ⟨("_law_days", none), "_law_days", "_law_days", defArgs s_ldays, defBody s_ldays, defScope s_ldays, [], []⟩
def d_lrow : He.DefD := ⟨("_law_row", none), "_law_row", "_law_row", defArgs s_lrow, defBody s_lrow, defScope s_lrow, [], []⟩
def d_lrun : He.DefD := ⟨("_law_run", none), "_law_run", "_law_run", defArgs s_lrun, defBody s_lrun, defScope s_lrun, [], []⟩
def d_lholder : He.DefD := ⟨("_law_holder", none), "_law_holder", "_law_holder", defArgs s_lholder, defBody s_lholder, defScope s_lholder, [], []⟩
def d_lturns : He.DefD := ⟨("_law_turns", none), "_law_turns", "_law_turns", defArgs s_lturns, defBody s_lturns, defScope s_lturns, [], []⟩
def d_ldead : He.DefD := ⟨("_law_dead", none), "_law_dead", "_law_dead", defArgs s_ldead, defBody s_ldead, defScope s_ldead, [], []⟩
def d_lsame : He.DefD := ⟨("_law_same", none), "_law_same", "_law_same", defArgs s_lsame, defBody s_lsame, defScope s_lsame, [], []⟩
def d_law : He.DefD := ⟨("law", none), "law", "law", defArgs s_law, defBody s_law, defScope s_law, [], []⟩
def d_Span___init__ : He.DefD := ⟨("Span", some "__init__"), "__init__", "Span.__init__", defArgs s_Span___init__, defBody s_Span___init__, defScope s_Span___init__, [], []⟩
abbrev R : PySem.W.OpenRow := PySem.W.OpenLaw.row PySem.Challenge.rw_lifehold_k18_deaths_in_holding
def exF (K : PySem.W.Frag) : Bool := [errWB K "BadCount" false, errWB K "BadDay" false, errWB K "BadRow" false, spanB K].all id
def exT (K : PySem.W.Frag) : Bool := true
def fn0 : List He.DefD := [d_is_day, d_check_count, d_check_day, d_check_unlike, d_check_row, d_check_run, d_check_way, d_turns, d_in_holding, d_lmix, d_lraw, d_ldigits, d_ldays, d_lrow, d_lrun, d_lholder, d_lturns, d_ldead, d_lsame, d_law, d_Span___init__]
def fa0 : List He.Fa := [.glo "is_day", .glo "check_count", .glo "check_day", .glo "check_unlike", .glo "check_row", .glo "check_run", .glo "check_way", .glo "turns", .glo "in_holding", .glo "_law_mix", .glo "_law_raw", .glo "_law_digits", .glo "_law_days", .glo "_law_row", .glo "_law_run", .glo "_law_holder", .glo "_law_turns", .glo "_law_dead", .glo "_law_same", .glo "law", .mkr "Span", .free "all", .free "bool", .free "int", .free "isinstance", .free "len", .free "list", .free "max", .free "min", .free "range", .free "set", .free "sorted", .free "str", .free "tuple", .free "zip", .int "LAST_DAY" (9999), .int "MOST_IN_ROW" (4), .int "MOST_LIVES" (10), .glo "BadCount", .glo "BadDay", .glo "BadRow", .glo "Span"]
abbrev fn : List He.DefD := fn0
abbrev fa : List He.Fa := fa0
noncomputable abbrev hk : PySem.W.Hook := LH.hookL 5 fa fn exF
noncomputable abbrev ob : PySem.W.SharedT → He.AlD × Bool := LH.obL 5 fa fn exF
theorem ob_eq (s : PySem.W.SharedT) : ob s = hk.obs s.abs := LH.obL_eq s
def loose : List PySem.Str := (["_wall", "HoldError", "BadDay", "BadCount", "BadRow", "LAST_DAY", "is_day", "Span", "MOST_LIVES", "check_count", "MOST_IN_ROW", "check_day", "check_unlike", "check_row", "check_run", "check_way", "turns", "in_holding", "_law_mix", "_law_raw", "_law_digits", "_law_days", "_law_row", "_law_run", "_law_holder", "_law_turns", "_law_dead", "_law_count", "_law_same"] : List PySem.Str)
theorem run (w : World) : HandSHeadRun.RunEq R (PySem.W.view R.prog [34]) hk ob 12000 loose w := by
  intro os
  kernel_rfl
end K18

set_option Elab.async false
set_option linter.all false
set_option maxRecDepth 100000
set_option maxHeartbeats 4000000
/-! a comprehension over a list, by what it makes of each item -/
namespace LH
open PySem PySem.Spec PyProof.Rows L2
theorem AllAt.to_ints {vs : List V} {ns : List Int} (h : AllAt (fun v i => v = V.int i) vs ns) : vs = ns.map V.int := by
  induction ns generalizing vs with
  | nil => cases vs with
    | nil => rfl
    | cons v vs => exact h.elim
  | cons n ns ih => cases vs with
    | nil => exact h.elim
    | cons v vs =>
      obtain ⟨h1, h2⟩ := h
      rw [List.map_cons, ← ih h2, h1]
section
variable {α β : Type} {K : PySem.W.Frag} {a : Addr} {xs : List V} {us : List α} {g : TG} {tt : TT} {te : TE} {vs : List Nat} {σ : L2.St} {H1 : Hp} {D : Addr} {Qd : Hp → Prop}
theorem lc_opt (P : Hp → V → α → Prop) (R : Hp → V → β → Prop) (f : α → Option β) (mP : ∀ {H H' v u}, Same H H' → P H v u → P H' v u) (mR : ∀ {H H' v u}, Same H H' → R H v u → R H' v u)
    (uR : ∀ {H zs o v u}, H D = some (HO.lst zs) → R H v u → R (upd H D o) v u) (nD : H1 D = none) (hA : SqL K H1 a xs) (hP : AllAt (P H1) xs us) (hl : us.length ≤ 50000)
    (hs : ∀ (i : Nat) (v : V) (u : α) (H2 : Hp) (C : VK) (C2 : Hp → Prop), us[i]? = some u → Same H1 H2 → P H2 v u → (∀ y b H4, f u = some b → Same H2 H4 → R H4 y b → C y H4) → (f u = none → ∀ H4, Same H2 H4 → C2 H4) →
      g v (wipe σ vs) H2 fun σ2 H3 => wipe σ2 vs = wipe σ vs ∧ tt σ2 H3 fun b H3 => if b = true then te σ2 H3 C else C2 H3)
    (hd : ∀ H ys, Same H1 H → H D = some (.lst ys) → AllAt (R H) ys (us.filterMap f) → Qd H) :
    ∃ W : Nat → Nat → Hp → Prop, (∃ m, W 0 m (upd H1 D (.lst []))) ∧ ∀ i m H, W i m H →
      ((Itl K a).stop i H ∧ Qd H) ∨ ((Itl K a).go i H ∧ ∃ Nx : Hp → Prop, (∀ H', Nx H' → ∃ m', m' < m ∧ W (i + 1) m' H') ∧ ∀ x H', (Itl K a).yld i H x H' → g x (wipe σ vs) H' fun σ2 H2 => wipe σ2 vs = wipe σ vs ∧ tt σ2 H2 fun b H3 =>
        if b = true then te σ2 H3 fun y H4 => ∃ acc, H4 D = some (.lst acc) ∧ acc.length < sizeLine ∧ Nx (upd H4 D (.lst (acc ++ [y]))) else Nx H3) := by
  have el := AllAt.length hP
  refine lc_list (K := K) (a := a) (xs := xs) (fun i H2 => Same H1 H2 ∧ ∃ ys, H2 D = some (.lst ys) ∧ AllAt (R H2) ys ((us.take i).filterMap f)) ⟨same_new nD, [], upd_same, trivial⟩ (fun i H2 _ z => z.1.seq hA) ?_ ?_
  · rintro i y H2 hi ⟨s2, ys, hD, hY⟩
    obtain ⟨u, hu, hp⟩ := AllAt.get hP hi
    have il := (List.getElem?_eq_some_iff.mp hu).1
    have yl := AllAt.length hY
    have fl := List.length_filterMap_le f (us.take i)
    rw [List.length_take] at fl
    refine hs i y u H2 _ _ hu s2 (mP s2 hp) (fun z b H4 e s4 hr => ?_) (fun e H4 s4 => ?_)
    · have hD4 := s4 _ _ hD
      refine ⟨ys, hD4, sz_lt (by omega), same_mut (s2.trans s4) nD, _, upd_same, ?_⟩
      rw [List.take_succ, hu, List.filterMap_append]
      refine AllAt.imp (fun _ _ h => uR hD4 h) (AllAt.app (AllAt.imp (fun _ _ h => mR s4 h) hY) ?_)
      simp only [Option.toList, List.filterMap_cons, e, List.filterMap_nil]
      exact ⟨hr, trivial⟩
    · refine ⟨s2.trans s4, ys, s4 _ _ hD, ?_⟩
      rw [List.take_succ, hu, List.filterMap_append]
      simp only [Option.toList, List.filterMap_cons, e, List.filterMap_nil, List.append_nil]
      exact AllAt.imp (fun _ _ h => mR s4 h) hY
  · rintro H2 ⟨s2, ys, hD, hY⟩
    rw [el, List.take_length] at hY
    exact hd H2 ys s2 hD hY
theorem lc_all (P : Hp → V → α → Prop) (R : Hp → V → β → Prop) (f : α → β) (mP : ∀ {H H' v u}, Same H H' → P H v u → P H' v u) (mR : ∀ {H H' v u}, Same H H' → R H v u → R H' v u)
    (uR : ∀ {H zs o v u}, H D = some (HO.lst zs) → R H v u → R (upd H D o) v u) (nD : H1 D = none) (hA : SqL K H1 a xs) (hP : AllAt (P H1) xs us) (hl : us.length ≤ 50000)
    (hs : ∀ (i : Nat) (v : V) (u : α) (H2 : Hp) (C : VK) (C2 : Hp → Prop), us[i]? = some u → Same H1 H2 → P H2 v u → (∀ y H4, Same H2 H4 → R H4 y (f u) → C y H4) →
      g v (wipe σ vs) H2 fun σ2 H3 => wipe σ2 vs = wipe σ vs ∧ tt σ2 H3 fun b H3 => if b = true then te σ2 H3 C else C2 H3)
    (hd : ∀ H ys, Same H1 H → H D = some (.lst ys) → AllAt (R H) ys (us.map f) → Qd H) :
    ∃ W : Nat → Nat → Hp → Prop, (∃ m, W 0 m (upd H1 D (.lst []))) ∧ ∀ i m H, W i m H →
      ((Itl K a).stop i H ∧ Qd H) ∨ ((Itl K a).go i H ∧ ∃ Nx : Hp → Prop, (∀ H', Nx H' → ∃ m', m' < m ∧ W (i + 1) m' H') ∧ ∀ x H', (Itl K a).yld i H x H' → g x (wipe σ vs) H' fun σ2 H2 => wipe σ2 vs = wipe σ vs ∧ tt σ2 H2 fun b H3 =>
        if b = true then te σ2 H3 fun y H4 => ∃ acc, H4 D = some (.lst acc) ∧ acc.length < sizeLine ∧ Nx (upd H4 D (.lst (acc ++ [y]))) else Nx H3) :=
  lc_opt P R (fun u => some (f u)) mP mR uR nD hA hP hl (fun i v u H2 C C2 hu s2 hp k _ => hs i v u H2 C C2 hu s2 hp fun y H4 s4 hr => k y _ H4 rfl s4 hr) (fun H ys s h hy => hd H ys s h (by
    have e : us.filterMap (fun u => some (f u)) = us.map f := by rw [← List.filterMap_eq_map]; rfl
    rw [e] at hy
    exact hy))
/-- an int of each item -/
theorem lc_ints (P : Hp → V → α → Prop) (f : α → Int) (mP : ∀ {H H' v u}, Same H H' → P H v u → P H' v u) (nD : H1 D = none) (hA : SqL K H1 a xs) (hP : AllAt (P H1) xs us) (hl : us.length ≤ 50000)
    (hs : ∀ (i : Nat) (v : V) (u : α) (H2 : Hp) (C : VK) (C2 : Hp → Prop), us[i]? = some u → Same H1 H2 → P H2 v u → (∀ H4, Same H2 H4 → C (.int (f u)) H4) →
      g v (wipe σ vs) H2 fun σ2 H3 => wipe σ2 vs = wipe σ vs ∧ tt σ2 H3 fun b H3 => if b = true then te σ2 H3 C else C2 H3)
    (hd : ∀ H, Same H1 H → H D = some (.lst ((us.map f).map V.int)) → Qd H) :
    ∃ W : Nat → Nat → Hp → Prop, (∃ m, W 0 m (upd H1 D (.lst []))) ∧ ∀ i m H, W i m H →
      ((Itl K a).stop i H ∧ Qd H) ∨ ((Itl K a).go i H ∧ ∃ Nx : Hp → Prop, (∀ H', Nx H' → ∃ m', m' < m ∧ W (i + 1) m' H') ∧ ∀ x H', (Itl K a).yld i H x H' → g x (wipe σ vs) H' fun σ2 H2 => wipe σ2 vs = wipe σ vs ∧ tt σ2 H2 fun b H3 =>
        if b = true then te σ2 H3 fun y H4 => ∃ acc, H4 D = some (.lst acc) ∧ acc.length < sizeLine ∧ Nx (upd H4 D (.lst (acc ++ [y]))) else Nx H3) :=
  lc_all P (fun _ v i => v = V.int i) f mP (fun _ h => h) (fun _ h => h) nD hA hP hl (fun i v u H2 C C2 hu s2 hp k => hs i v u H2 C C2 hu s2 hp fun H4 s4 => k _ H4 s4 rfl) (fun H ys s h hy => hd H s (by rw [h, AllAt.to_ints hy]))
end
theorem allAt_ints (ns : List Int) : AllAt (fun v i => v = V.int i) (ns.map V.int) ns := by
  induction ns with
  | nil => trivial
  | cons n ns ih => exact ⟨rfl, ih⟩
end LH
namespace LH
open PySem PySem.Spec PyProof.Rows L2
section
variable {α β : Type} {K : PySem.W.Frag} {a : Addr} {xs : List V} {us : List α} {g : TG} {tt : TT} {te : TE} {vs : List Nat} {σ : L2.St} {H1 : Hp} {D : Addr} {Qd : Hp → Prop}
/-- as lc_opt, where what is made of an item is a new list: it is not the list that grows -/
theorem lc_new (P : Hp → V → α → Prop) (R : Hp → V → β → Prop) (f : α → Option β) (mP : ∀ {H H' v u}, Same H H' → P H v u → P H' v u) (mR : ∀ {H H' v u}, Same H H' → R H v u → R H' v u)
    (uR : ∀ {H zs o v u}, H D = some (HO.lst zs) → R H v u → R (upd H D o) v u) (nD : H1 D = none) (hA : SqL K H1 a xs) (hP : AllAt (P H1) xs us) (hl : us.length ≤ 50000)
    (hs : ∀ (i : Nat) (v : V) (u : α) (H2 : Hp) (C : VK) (C2 : Hp → Prop), us[i]? = some u → Same H1 H2 → (∃ zs, H2 D = some (HO.lst zs)) → P H2 v u → (∀ y b H4, f u = some b → Same H2 H4 → R H4 y b → C y H4) → (f u = none → ∀ H4, Same H2 H4 → C2 H4) →
      g v (wipe σ vs) H2 fun σ2 H3 => wipe σ2 vs = wipe σ vs ∧ tt σ2 H3 fun b H3 => if b = true then te σ2 H3 C else C2 H3)
    (hd : ∀ H ys, Same H1 H → H D = some (.lst ys) → AllAt (R H) ys (us.filterMap f) → Qd H) :
    ∃ W : Nat → Nat → Hp → Prop, (∃ m, W 0 m (upd H1 D (.lst []))) ∧ ∀ i m H, W i m H →
      ((Itl K a).stop i H ∧ Qd H) ∨ ((Itl K a).go i H ∧ ∃ Nx : Hp → Prop, (∀ H', Nx H' → ∃ m', m' < m ∧ W (i + 1) m' H') ∧ ∀ x H', (Itl K a).yld i H x H' → g x (wipe σ vs) H' fun σ2 H2 => wipe σ2 vs = wipe σ vs ∧ tt σ2 H2 fun b H3 =>
        if b = true then te σ2 H3 fun y H4 => ∃ acc, H4 D = some (.lst acc) ∧ acc.length < sizeLine ∧ Nx (upd H4 D (.lst (acc ++ [y]))) else Nx H3) := by
  have el := AllAt.length hP
  refine lc_list (K := K) (a := a) (xs := xs) (fun i H2 => Same H1 H2 ∧ ∃ ys, H2 D = some (.lst ys) ∧ AllAt (R H2) ys ((us.take i).filterMap f)) ⟨same_new nD, [], upd_same, trivial⟩ (fun i H2 _ z => z.1.seq hA) ?_ ?_
  · rintro i y H2 hi ⟨s2, ys, hD, hY⟩
    obtain ⟨u, hu, hp⟩ := AllAt.get hP hi
    have il := (List.getElem?_eq_some_iff.mp hu).1
    have yl := AllAt.length hY
    have fl := List.length_filterMap_le f (us.take i)
    rw [List.length_take] at fl
    refine hs i y u H2 _ _ hu s2 ⟨ys, hD⟩ (mP s2 hp) (fun z b H4 e s4 hr => ?_) (fun e H4 s4 => ?_)
    · have hD4 := s4 _ _ hD
      refine ⟨ys, hD4, sz_lt (by omega), same_mut (s2.trans s4) nD, _, upd_same, ?_⟩
      rw [List.take_succ, hu, List.filterMap_append]
      refine AllAt.imp (fun _ _ h => uR hD4 h) (AllAt.app (AllAt.imp (fun _ _ h => mR s4 h) hY) ?_)
      simp only [Option.toList, List.filterMap_cons, e, List.filterMap_nil]
      exact ⟨hr, trivial⟩
    · refine ⟨s2.trans s4, ys, s4 _ _ hD, ?_⟩
      rw [List.take_succ, hu, List.filterMap_append]
      simp only [Option.toList, List.filterMap_cons, e, List.filterMap_nil, List.append_nil]
      exact AllAt.imp (fun _ _ h => mR s4 h) hY
  · rintro H2 ⟨s2, ys, hD, hY⟩
    rw [el, List.take_length] at hY
    exact hd H2 ys s2 hD hY
end
end LH

set_option Elab.async false
set_option linter.all false
set_option maxRecDepth 100000
set_option maxHeartbeats 4000000
/-! len(x) by x's own __len__; len(range(a, b)) -/
namespace LH
open PySem PySem.Spec PyProof.Rows L2
def rLenO (C : Addr) (sp : Sp) : List V → Hp → VK → Prop := fun vs H Q => ∃ a dx fs, vs = [V.ref a] ∧ H a = some (.ins C dx fs) ∧ sp [.ref a] H (fun v H' => ∃ n : Nat, v = .int n ∧ (n : Int) < 2 ^ 63 ∧ Q (.int n) H') E0
theorem lenO {X : Cx} (K : PySem.W.Frag) {x : Str} {ps : List Str} {k : Nat} {sp : Sp} (C : MetX X.prog X.w X.K X.mg X.base x "__len__" ps k sp) (hr : Room (k + 1) X.A) (hK : X.K = K := by rfl) : CallR X (.builtin "len") (rLenO (He.ga K x) sp) := by
  subst hK
  intro pins s σ H vs us Q I r h
  obtain ⟨a, dx, fs, rfl, ha, q⟩ := h
  obtain ⟨u, rfl, ru⟩ := vals1 r
  obtain rfl : u = Value.ref a := ru
  obtain ⟨f, fd, hc, hm, F, hb⟩ := C.ex
  obtain ⟨mA, J, _⟩ := ins_get I.hok ha
  obtain ⟨od, J, _⟩ := J.look
  refine PySem.Calls.call_function_entry kind_len plain_len entry_len (args_len1 _) ?_
  unfold Builtin.«len»
  refine wpAny_bind (m := oneArg "len" _) (wpAny_pure ?_)
  refine wpAny_bind (m := callSpecial? (.ref a) (PySem.Str.ofString "__len__")) (PySem.W.special_fn I.kIn J hm.at_ (beq_iff_eq.mp hm.fn) ?_)
  have e0 : Env0 X.prog X.w X.K X.mg X.base X.A.in1 X.stack s H := by
    have e := I.env0
    exact ⟨e.frames, e.mod, e.bs, e.bsz, e.funs, e.frf, e.hok, e.bare⟩
  have hl := F.len _ _ _ _ q
  refine wpAny_call (codeAny_mono (F.run X.A.in1 X.stack s H ⟨[.ref a], []⟩ [.ref a] [.ref a] _ E0 hr.in1 e0 (by
    have := hb s [.ref a] I.kIn (by simpa using hl)
    simpa using this) (.cons rfl .nil) q) fun r s' hq => ?_)
  cases r with
  | error e =>
    obtain ⟨_, _, _, _, _, _, _, _, _, _, _, _, z⟩ := hq
    exact z.elim
  | ok fl =>
    cases fl with
    | ret w =>
      obtain ⟨z, H', I', rz, n, ez, lt, q⟩ := I.after hq
      subst ez
      obtain ⟨t, rfl⟩ := rz
      refine wpAny_bind (wpAny_holding (wpAny_pure ?_))
      refine wpAny_bind (wpAny_letGo ?_)
      show wpAny _ _ (if ((n : Nat) : Int) < 0 then _ else _) _ _ _
      rw [if_neg (by omega)]
      show wpAny _ _ (if ((n : Nat) : Int) ≥ 2 ^ 63 then _ else _) _ _ _
      rw [if_neg (by omega)]
      exact wpAny_bind (wpAny_mkInt (wpAny_pure ⟨_, rfl, .int n, H', I'.tok _, ⟨_, rfl⟩, q⟩))
    | next => exact False.elim hq
    | brk => exact False.elim hq
    | cont => exact False.elim hq
def tLenRg (te : L2.St → Hp → (Int → Int → Hp → Prop) → Prop) : TE := fun σ H Q => te σ H fun a b H1 => RgOk a b ∧ Q (.int ((b - a).toNat : Nat)) H1
theorem pe_lenRg {X : Cx} {e : Expr} {te : L2.St → Hp → (Int → Int → Hp → Prop) → Prop} {p pos : Pos} (hg : Gl X "len") (hm : X.mg "len" = none) (he : PRg X e te) (na : starEach [e] X.env = (false, eval e X.env) :: starEach [] X.env := by rfl) : PE X (.Call (.Name "len" p) [e] [] pos) (tLenRg te) := by
  refine ⟨fun pins s σ H Q I h => ?_⟩
  refine Call_ (ld_blt I hg hm boot_len ?_)
  refine PyProof.Rows.callWith_builtin1 (PyProof.Rows.args_cons (thn (he pins s σ H _ I h) fun x s1 ⟨r, a, b, t, u, v, H1, ex, hr, I1, ok, q⟩ => args_nil ?_) na) na rfl
  subst ex
  obtain ⟨b1, b2, b3, b4, b5⟩ := ok
  exact call_len_range hr (rangeSize_nat a b) (by omega) ⟨.int ((b - a).toNat : Nat), H1, I1.tok _, ⟨_, rfl⟩, q⟩
end LH
namespace LH
open PySem PySem.Spec PyProof.Rows L2
theorem idxK {X : Cx} (K : PySem.W.Frag) (h : X.K = K := by rfl) : MtR X "list.index" (rIndex K) := by subst h; exact mt_index
theorem flatI (ns : List Int) : (ns.map V.int).all flatV = true := by
  rw [List.all_map]
  exact List.all_eq_true.mpr fun _ _ => rfl
/-- r.index(x) of ints -/
theorem idx_at {r : List Int} {x : Int} (hx : x ∈ r) : (r.map V.int)[r.idxOf x]? = some (V.int x) := by
  have hl := List.idxOf_lt_length_iff.mpr hx
  rw [List.getElem?_map, List.getElem?_eq_getElem hl, List.getElem_idxOf hl]
  rfl
theorem idx_eq (x : Int) : eqV (V.int x) (V.int x) = true := by simp [eqV]
theorem idx_no {r : List Int} {x : Int} : ∀ (m : Nat) (z' : V), m < r.idxOf x → (r.map V.int)[m]? = some z' → eqV z' (V.int x) = false := by
  intro m z' hm hz
  rw [List.getElem?_map] at hz
  cases e : r[m]? with
  | none => rw [e] at hz; cases hz
  | some y =>
    rw [e] at hz
    cases hz
    have ne : y ≠ x := fun z => by
      subst z
      obtain ⟨h1, h2⟩ := List.getElem?_eq_some_iff.mp e
      have := List.not_of_lt_findIdx (p := (· == y)) (xs := r) (i := m) (by exact hm)
      rw [h2] at this
      simp at this
    simp [eqV, ne]
end LH
namespace LH
open PySem PySem.Spec PyProof.Rows L2
theorem bmK {X : Cx} (K : PySem.W.Frag) {o e : Expr} {es : List Expr} {to : TE} {t : TA} {name : Str} {apos cpos : Pos} {T id : String} {r : V → List V → Hp → VK → Prop} (pa : PlainAttrs T) (slot : Slot T name id) (hty : typeOf (.builtin id) = pure (.type "method_descriptor")) (hm : MtR X id r) (ho : PE X o to) (ha : PA X (e :: es) t)
    (hK : X.K = K := by rfl) (hbase : attributeBase o name X.env (eval o X.env) = eval o X.env := by rfl)
    (hfew : ((backTo cpos (starEach (e :: es) X.env)).all (fun x => !x.1) && (backToKw cpos (keywordEach [] X.env)).all (fun x => x.1.isSome)
      && decide ((e :: es).length + ([] : List Keyword).length + (if ([] : List Keyword).isEmpty then 0 else 1) < 30)) = true := by rfl)
    (hline : (apos.endLine == cpos.line) = true := by rfl) (hs : starEach (e :: es) X.env = (false, eval e X.env) :: starEach es X.env := by rfl) (hplain : (backTo cpos (starEach es X.env)).any (·.1) = false := by rfl) :
    PE X (.Call (.Attribute o name apos) (e :: es) [] cpos) (tBM K T r to t) := by
  subst hK
  exact pe_bm pa slot hty hm ho ha hbase hfew hline hs hplain
end LH
namespace LH
open PySem PySem.Spec PyProof.Rows L2
theorem inVI (x : Int) (ns : List Int) : inV (V.int x) (ns.map V.int) = decide (x ∈ ns) := by
  unfold inV
  rw [List.any_map, Bool.eq_iff_iff]
  simp only [List.any_eq_true, decide_eq_true_eq, Function.comp, eqV, beq_iff_eq]
  exact ⟨fun ⟨y, h1, h2⟩ => h2 ▸ h1, fun h => ⟨x, h, rfl⟩⟩
end LH

set_option Elab.async false
set_option linter.all false
set_option maxRecDepth 100000
set_option maxHeartbeats 4000000
/-! a tie more; who may hold: the mathematics -/
namespace LH
theorem feas_app {n : Nat} {ts us : List Tie} {φ : Nat → Int} : Feas n (ts ++ us) φ ↔ Feas n ts φ ∧ ∀ t ∈ us, t.2.2 ≤ φ (nd n t.1) - φ (nd n t.2.1) :=
  ⟨fun f => ⟨⟨f.z, f.lo, f.hi, fun t ht => f.ke t (List.mem_append_left _ ht)⟩, fun t ht => f.ke t (List.mem_append_right _ ht)⟩,
   fun ⟨f, h⟩ => ⟨f.z, f.lo, f.hi, fun t ht => (List.mem_append.mp ht).elim (f.ke t) (h t)⟩⟩
theorem can_one {n : Nat} {ts : List Tie} {t : Tie} (hok : ∀ t ∈ ts, TieIx (n : Int) t) (ix : TieIx (n : Int) t) (c : Can n ts) : Can n (ts ++ [t]) ↔ gapsG n ts (nd n t.2.1) (nd n t.1) + t.2.2 ≤ 0 := by
  have hd := (can_iff hok).mp c
  have n1 := nd_le (n := n) ix.2.1
  have n2 := nd_le (n := n) ix.2.2.2.1
  constructor
  · rintro ⟨φ, f⟩
    obtain ⟨f1, f2⟩ := feas_app.mp f
    have a := gap_le f1 n2 n1
    have b := f2 t (List.mem_singleton.mpr rfl)
    omega
  · intro h
    have f := feas_gap hok hd n1
    refine ⟨_, feas_app.mpr ⟨f, fun u hu => ?_⟩⟩
    rw [List.mem_singleton.mp hu]
    have := hd _ n1
    show t.2.2 ≤ gapsG n ts (nd n t.1) (nd n t.1) - gapsG n ts n (nd n t.1) - (gapsG n ts (nd n t.2.1) (nd n t.1) - gapsG n ts n (nd n t.1))
    omega
def moreG (n : Nat) (g : Nat → Nat → Int) (t : Tie) : Nat → Nat → Int := fun i j => max (g i j) (g i (nd n t.1) + (t.2.2 + g (nd n t.2.1) j))
theorem gaps_one {n : Nat} {ts : List Tie} {t : Tie} (hok : ∀ t ∈ ts, TieIx (n : Int) t) (ix : TieIx (n : Int) t) (c : Can n (ts ++ [t])) {i j : Nat} (hi : i ≤ n) (hj : j ≤ n) : gapsG n (ts ++ [t]) i j = moreG n (gapsG n ts) t i j := by
  have ok2 : ∀ u ∈ ts ++ [t], TieIx (n : Int) u := fun u hu => (List.mem_append.mp hu).elim (hok u) (fun h => by rw [List.mem_singleton.mp h]; exact ix)
  have c0 : Can n ts := by
    obtain ⟨φ, f⟩ := c
    exact ⟨φ, (feas_app.mp f).1⟩
  have hd := (can_iff hok).mp c0
  have hd2 := (can_iff ok2).mp c
  have cl := (can_one hok ix c0).mp c
  have n1 := nd_le (n := n) ix.2.1
  have n2 := nd_le (n := n) ix.2.2.2.1
  have close := fun (a b c : Nat) (hb : b ≤ n) => gap_close (n := n) (ts := ts) hd hb a c
  have mjj : moreG n (gapsG n ts) t j j = 0 := by
    have h1 := hd j hj
    have h2 := close (nd n t.2.1) j (nd n t.1) hj
    unfold moreG
    omega
  have F : Feas n (ts ++ [t]) (fun a => moreG n (gapsG n ts) t a j - moreG n (gapsG n ts) t n j) := by
    refine feas_app.mpr ⟨⟨?_, fun a ha => ?_, fun a ha => ?_, fun u hu => ?_⟩, fun u hu => ?_⟩
    · show moreG n (gapsG n ts) t n j - moreG n (gapsG n ts) t n j = 0
      omega
    · have h1 := close a n j (Nat.le_refl n)
      have h2 := gap_lo (n := n) (ts := ts) a
      have h3 := close a n (nd n t.1) (Nat.le_refl n)
      show 0 ≤ moreG n (gapsG n ts) t a j - moreG n (gapsG n ts) t n j
      unfold moreG
      omega
    · have h1 := close n a j (Nat.le_of_lt ha)
      have h2 := gap_hi (n := n) (ts := ts) n a
      have h3 := close n a (nd n t.1) (Nat.le_of_lt ha)
      show moreG n (gapsG n ts) t a j - moreG n (gapsG n ts) t n j ≤ 9999
      unfold moreG
      omega
    · have ok := hok u hu
      have h0 := gap_tie (n := n) hu
      have h1 := close (nd n u.1) (nd n u.2.1) j (nd_le ok.2.2.2.1)
      have h3 := close (nd n u.1) (nd n u.2.1) (nd n t.1) (nd_le ok.2.2.2.1)
      show u.2.2 ≤ moreG n (gapsG n ts) t (nd n u.1) j - moreG n (gapsG n ts) t n j - (moreG n (gapsG n ts) t (nd n u.2.1) j - moreG n (gapsG n ts) t n j)
      unfold moreG
      omega
    · rw [List.mem_singleton.mp hu]
      have h0 := hd _ n1
      show t.2.2 ≤ moreG n (gapsG n ts) t (nd n t.1) j - moreG n (gapsG n ts) t n j - (moreG n (gapsG n ts) t (nd n t.2.1) j - moreG n (gapsG n ts) t n j)
      unfold moreG
      omega
  have up := gap_le F hi hj
  have mono : ∀ a b, a ≤ n → b ≤ n → gapsG n ts a b ≤ gapsG n (ts ++ [t]) a b := fun a b ha hb => by
    have f := feas_gap ok2 hd2 hb
    have h1 := gap_le (feas_app.mp f).1 ha hb
    have h2 := hd2 b hb
    try dsimp only at h1
    omega
  have lo1 := mono i j hi hj
  have lo2 := mono i (nd n t.1) hi n1
  have lo3 := mono (nd n t.2.1) j n2 hj
  have tt := gap_tie (n := n) (ts := ts ++ [t]) (t := t) (List.mem_append_right _ (List.mem_singleton.mpr rfl))
  have c1 := gap_close hd2 n1 i j
  have c2 := gap_close hd2 n2 (nd n t.1) j
  try dsimp only at up
  have e : moreG n (gapsG n ts) t i j ≤ gapsG n (ts ++ [t]) i j := by
    unfold moreG
    omega
  omega
theorem can_left {n : Nat} {ts us : List Tie} (c : Can n (ts ++ us)) : Can n ts := by
  obtain ⟨φ, f⟩ := c
  exact ⟨φ, (feas_app.mp f).1⟩
theorem app_ix {n : Nat} {ts us : List Tie} (h1 : ∀ t ∈ ts, TieIx (n : Int) t) (h2 : ∀ t ∈ us, TieIx (n : Int) t) : ∀ t ∈ ts ++ us, TieIx (n : Int) t := fun t ht => (List.mem_append.mp ht).elim (h1 t) (h2 t)
/-! who holds -/
def holdT (r : List Int) (d x : Int) : List Tie := if x = -1 then r.map fun e => (-1, e, -d) else ((r.take (r.idxOf x)).map fun e => (-1, e, -d)) ++ [(x, -1, d + 1)]
theorem holdT_ix {m : Int} {r : List Int} {d x : Int} (hr : ∀ y ∈ r, 0 ≤ y ∧ y < m) (hx : x = -1 ∨ x ∈ r) (h0 : 0 < m) : ∀ t ∈ holdT r d x, TieIx m t := by
  intro t ht
  unfold holdT at ht
  split at ht
  · obtain ⟨e, he, rfl⟩ := List.mem_map.mp ht
    have := hr e he
    exact ⟨by show (-1 : Int) ≤ -1; omega, by show (-1 : Int) < m; omega, by show -1 ≤ e; omega, by show e < m; omega, trivial⟩
  · rename_i c
    rcases List.mem_append.mp ht with ht | ht
    · obtain ⟨e, he, rfl⟩ := List.mem_map.mp ht
      have := hr e (List.mem_of_mem_take he)
      exact ⟨by show (-1 : Int) ≤ -1; omega, by show (-1 : Int) < m; omega, by show -1 ≤ e; omega, by show e < m; omega, trivial⟩
    · rw [List.mem_singleton.mp ht]
      have := hr x (hx.elim (fun z => absurd z c) id)
      exact ⟨by show -1 ≤ x; omega, by show x < m; omega, by show (-1 : Int) ≤ -1; omega, by show (-1 : Int) < m; omega, trivial⟩
theorem holdT_len (r : List Int) (d x : Int) : (holdT r d x).length ≤ r.length + 1 := by
  unfold holdT
  split
  · simp
  · simp
    omega
theorem find_split {p : Int → Bool} : ∀ {r : List Int} {x : Int}, x ∈ r → r.Nodup → ((r.find? p) = some x ↔ (∀ e ∈ r.take (r.idxOf x), p e = false) ∧ p x = true)
  | [], x, h, _ => by cases h
  | y :: r, x, h, nd => by
    by_cases e : y = x
    · subst e
      rw [List.idxOf_cons_self, List.take_zero]
      cases hp : p y with
      | true => simp [List.find?_cons, hp]
      | false =>
        simp only [List.find?_cons, hp]
        constructor
        · intro z
          have := List.find?_some z
          rw [hp] at this
          cases this
        · rintro ⟨_, z⟩
          cases z
    · have hx : x ∈ r := (List.mem_cons.mp h).elim (fun z => absurd z.symm e) id
      have ih := find_split (p := p) hx (List.nodup_cons.mp nd).2
      rw [show (y :: r).idxOf x = r.idxOf x + 1 by rw [List.idxOf_cons, show (y == x) = false from beq_eq_false_iff_ne.mpr e]; rfl, List.take_succ_cons]
      cases hp : p y with
      | true =>
        simp only [List.find?_cons, hp]
        constructor
        · intro z
          exact absurd (Option.some.inj z) e
        · rintro ⟨z, _⟩
          have := z y List.mem_cons_self
          rw [hp] at this
          cases this
      | false =>
        simp only [List.find?_cons, hp]
        rw [ih]
        constructor
        · rintro ⟨z1, z2⟩
          exact ⟨fun e he => (List.mem_cons.mp he).elim (fun q => by rw [q]; exact hp) (z1 e), z2⟩
        · rintro ⟨z1, z2⟩
          exact ⟨fun e he => z1 e (List.mem_cons_of_mem _ he), z2⟩
/-- the ties of who holds, kept -/
theorem hold_iff {n : Nat} {r ds : List Int} {d x : Int} (hr : RowOk (n : Int) r) (hx : x = -1 ∨ x ∈ r) : (∀ t ∈ holdT r d x, KeptW ds t) ↔ holderOf r ds d = x := by
  have pos : ∀ y ∈ r, ¬ y = -1 := fun y hy z => by have := (hr.2 y hy).1; omega
  have k1 : ∀ e ∈ r, (KeptW ds (-1, e, -d) ↔ ¬ d < dayOf ds e) := fun e he => by
    unfold KeptW
    rw [dayOf_neg (by show (-1 : Int) < 0; omega)]
    show -d ≤ 0 - dayOf ds e ↔ _
    omega
  rcases hx with rfl | hx
  · unfold holdT
    rw [if_pos rfl]
    constructor
    · intro h
      refine holder_none fun j y hy => ?_
      have hy := List.mem_of_getElem? hy
      exact (k1 y hy).mp (h _ (List.mem_map.mpr ⟨y, hy, rfl⟩))
    · intro h t ht
      obtain ⟨e, he, rfl⟩ := List.mem_map.mp ht
      refine (k1 e he).mpr fun z => ?_
      unfold holderOf at h
      cases q : r.find? fun l => decide (d < dayOf ds l) with
      | none =>
        have := List.find?_eq_none.mp q e he
        exact this (decide_eq_true z)
      | some y =>
        rw [q] at h
        exact pos y (List.mem_of_find?_eq_some q) h
  · have c := pos x hx
    unfold holdT
    rw [if_neg c]
    have kx : KeptW ds (x, -1, d + 1) ↔ d < dayOf ds x := by
      unfold KeptW
      rw [show dayOf ds (x, (-1 : Int), d + 1).2.1 = 0 from dayOf_neg (by show (-1 : Int) < 0; omega)]
      show d + 1 ≤ dayOf ds x - 0 ↔ _
      omega
    have fs := find_split (p := fun l => decide (d < dayOf ds l)) hx hr.1.2.2
    have hh : holderOf r ds d = x ↔ (r.find? fun l => decide (d < dayOf ds l)) = some x := by
      unfold holderOf
      cases q : r.find? fun l => decide (d < dayOf ds l) with
      | none =>
        constructor
        · intro z
          exact absurd z.symm c
        · intro z
          cases z
      | some y =>
        constructor
        · intro z
          exact congrArg some z
        · intro z
          exact Option.some.inj z
    rw [hh, fs]
    constructor
    · intro h
      refine ⟨fun e he => ?_, ?_⟩
      · have := (k1 e (List.mem_of_mem_take he)).mp (h _ (List.mem_append_left _ (List.mem_map.mpr ⟨e, he, rfl⟩)))
        exact decide_eq_false this
      · exact decide_eq_true (kx.mp (h _ (List.mem_append_right _ (List.mem_singleton.mpr rfl))))
    · rintro ⟨h1, h2⟩ t ht
      rcases List.mem_append.mp ht with ht | ht
      · obtain ⟨e, he, rfl⟩ := List.mem_map.mp ht
        exact (k1 e (List.mem_of_mem_take he)).mpr (of_decide_eq_false (h1 e he))
      · rw [List.mem_singleton.mp ht]
        exact kx.mpr (of_decide_eq_true h2)
/-- some way has this holder -/
theorem may_iff {n : Nat} {ts : List Tie} {r : List Int} {d x : Int} (hok : ∀ t ∈ ts, TieIx (n : Int) t) (hr : RowOk (n : Int) r) (hx : x = -1 ∨ x ∈ r) (h0 : 0 < n) : Can n (ts ++ holdT r d x) ↔ ∃ ds, Way n ts ds ∧ holderOf r ds d = x := by
  have hi := holdT_ix (d := d) hr.2 hx (by omega)
  constructor
  · rintro ⟨φ, f⟩
    have w := f.way (app_ix hok hi)
    exact ⟨_, ⟨w.len, w.rg, fun t ht => w.kp t (List.mem_append_left _ ht)⟩, (hold_iff hr hx).mp fun t ht => w.kp t (List.mem_append_right _ ht)⟩
  · rintro ⟨ds, w, e⟩
    have k := (hold_iff (ds := ds) (d := d) hr hx).mpr e
    exact ⟨_, Way.feas (ts := ts ++ holdT r d x) (app_ix hok hi) ⟨w.len, w.rg, fun t ht => (List.mem_append.mp ht).elim (w.kp t) (k t)⟩⟩
theorem holder_mem (r ds : List Int) (d : Int) : holderOf r ds d = -1 ∨ holderOf r ds d ∈ r := by
  unfold holderOf
  cases q : r.find? fun l => decide (d < dayOf ds l) with
  | none => exact .inl rfl
  | some y => exact .inr (List.mem_of_find?_eq_some q)
open Classical in
noncomputable def mayOf (n : Nat) (ts : List Tie) (r : List Int) (d : Int) : List Int := (r ++ [-1]).filter fun x => decide (Can n (ts ++ holdT r d x))
theorem mem_row1 {r : List Int} {x : Int} : x ∈ r ++ [-1] ↔ x = -1 ∨ x ∈ r := by
  rw [List.mem_append, List.mem_singleton]
  exact Or.comm
theorem mem_may {n : Nat} {ts : List Tie} {r : List Int} {d x : Int} : x ∈ mayOf n ts r d ↔ (x = -1 ∨ x ∈ r) ∧ Can n (ts ++ holdT r d x) := by
  unfold mayOf
  rw [List.mem_filter, mem_row1]
  simp
theorem may_ne {n : Nat} {ts : List Tie} {r : List Int} {d : Int} (hok : ∀ t ∈ ts, TieIx (n : Int) t) (hr : RowOk (n : Int) r) (h0 : 0 < n) (c : Can n ts) : mayOf n ts r d ≠ [] := by
  obtain ⟨φ, f⟩ := c
  have w := f.way hok
  have m := holder_mem r ((List.range n).map φ) d
  have : holderOf r ((List.range n).map φ) d ∈ mayOf n ts r d := mem_may.mpr ⟨m, (may_iff hok hr m h0).mpr ⟨_, w, rfl⟩⟩
  intro z
  rw [z] at this
  cases this
theorem may_len {n : Nat} {ts : List Tie} {r : List Int} {d : Int} : (mayOf n ts r d).length ≤ r.length + 1 := by
  unfold mayOf
  refine Nat.le_trans (List.length_filter_le _ _) ?_
  simp
end LH
namespace LH
open PySem PySem.Spec PyProof.Rows L2
/-- one that may hold, and the gaps of its ways -/
def HoldsAt (K : PySem.W.Frag) (n : Nat) (ts : List Tie) (r : List Int) (d : Int) (H : Hp) (v : V) (x : Int) : Prop :=
  ∃ (p q : Addr) (as : List Addr), v = .ref p ∧ H p = some (.tup [.int x, .ref q]) ∧ SqL K H q (as.map V.ref) ∧ MatAt H as (gapsG n (ts ++ holdT r d x)) n
theorem HoldsAt.mono {K : PySem.W.Frag} {n : Nat} {ts : List Tie} {r : List Int} {d : Int} {H H' : Hp} {v : V} {x : Int} (e : Same H H') (h : HoldsAt K n ts r d H v x) : HoldsAt K n ts r d H' v x := by
  obtain ⟨p, q, as, h1, h2, h3, h4⟩ := h
  exact ⟨p, q, as, h1, e _ _ h2, e.seq h3, h4.mono e⟩
abbrev HoldersAt (K : PySem.W.Frag) (n : Nat) (ts : List Tie) (r : List Int) (d : Int) (H : Hp) : List V → List Int → Prop := AllAt (HoldsAt K n ts r d H)
theorem holders_mono {K : PySem.W.Frag} {n : Nat} {ts : List Tie} {r : List Int} {d : Int} {H H' : Hp} {vs : List V} {xs : List Int} (e : Same H H') (h : HoldersAt K n ts r d H vs xs) : HoldersAt K n ts r d H' vs xs := AllAt.imp (fun _ _ => HoldsAt.mono e) h
end LH
namespace LH
open PySem PySem.Spec PyProof.Rows L2
def HoldsN (K : PySem.W.Frag) (n : Nat) (ts : List Tie) (r : List Int) (d : Int) (D : Addr) (H : Hp) (v : V) (x : Int) : Prop :=
  ∃ (p q : Addr) (as : List Addr), v = .ref p ∧ p ≠ D ∧ q ≠ D ∧ (∀ a ∈ as, a ≠ D) ∧ H p = some (.tup [.int x, .ref q]) ∧ SqL K H q (as.map V.ref) ∧ MatAt H as (gapsG n (ts ++ holdT r d x)) n
theorem holdsN_mono {K : PySem.W.Frag} {n : Nat} {ts : List Tie} {r : List Int} {d : Int} {D : Addr} {H H' : Hp} {vs : List V} {xs : List Int} (e : Same H H') (h : AllAt (HoldsN K n ts r d D H) vs xs) : AllAt (HoldsN K n ts r d D H') vs xs :=
  AllAt.imp (fun _ _ ⟨p, q, as, h1, n1, n2, n3, h2, h3, h4⟩ => ⟨p, q, as, h1, n1, n2, n3, e _ _ h2, e.seq h3, h4.mono e⟩) h
theorem sqL_upd {K : PySem.W.Frag} {H : Hp} {a D : Addr} {o : HO} {xs : List V} (n : a ≠ D) (h : SqL K H a xs) : SqL K (upd H D o) a xs := by
  rcases h with (h | ⟨u, h⟩) | h
  · exact .inl (.inl (by rw [upd_ne n]; exact h))
  · exact .inl (.inr ⟨u, by rw [upd_ne n]; exact h⟩)
  · exact .inr h
theorem holdsN_upd {K : PySem.W.Frag} {n : Nat} {ts : List Tie} {r : List Int} {d : Int} {D : Addr} {H : Hp} {o : HO} {vs : List V} {xs : List Int} (h : AllAt (HoldsN K n ts r d D H) vs xs) : AllAt (HoldsN K n ts r d D (upd H D o)) vs xs :=
  AllAt.imp (fun _ _ ⟨p, q, as, h1, n1, n2, n3, h2, h3, h4⟩ => ⟨p, q, as, h1, n1, n2, n3, by rw [upd_ne n1]; exact h2, sqL_upd n2 h3, ⟨h4.len, h4.nd, fun i a ha => by rw [upd_ne (n3 a (List.mem_of_getElem? ha))]; exact h4.row i a ha⟩⟩) h
theorem holdsN_at {K : PySem.W.Frag} {n : Nat} {ts : List Tie} {r : List Int} {d : Int} {D : Addr} {H : Hp} {vs : List V} {xs : List Int} (h : AllAt (HoldsN K n ts r d D H) vs xs) : HoldersAt K n ts r d H vs xs :=
  AllAt.imp (fun _ _ ⟨p, q, as, h1, _, _, _, h2, h3, h4⟩ => ⟨p, q, as, h1, h2, h3, h4⟩) h
open Classical in
noncomputable def mayTake (n : Nat) (ts : List Tie) (r : List Int) (d : Int) (i : Nat) : List Int := ((r ++ [-1]).take i).filter fun x => decide (Can n (ts ++ holdT r d x))
theorem mayTake_len (n : Nat) (ts : List Tie) (r : List Int) (d : Int) (i : Nat) : (mayTake n ts r d i).length ≤ r.length + 1 := by
  unfold mayTake
  refine Nat.le_trans (List.length_filter_le _ _) ?_
  rw [List.length_take, List.length_append]
  simp
  omega
open Classical in
theorem mayTake_succ {n : Nat} {ts : List Tie} {r : List Int} {d x : Int} {i : Nat} (h : (r ++ [-1])[i]? = some x) : mayTake n ts r d (i + 1) = mayTake n ts r d i ++ if Can n (ts ++ holdT r d x) then [x] else [] := by
  unfold mayTake
  rw [filt_take _ h]
  simp
theorem mayTake_all (n : Nat) (ts : List Tie) (r : List Int) (d : Int) : mayTake n ts r d (r ++ [-1]).length = mayOf n ts r d := by
  unfold mayTake mayOf
  rw [List.take_length]
end LH
namespace LH
open PySem PySem.Spec PyProof.Rows L2
theorem early_can {n : Nat} {ts : List Tie} {H H' : Hp} {v : V} (hok : ∀ t ∈ ts, TieIx (n : Int) t) (h : EarlyIs n ts H H' v) : v = .non ↔ ¬ Can n ts := by
  rcases h with ⟨rfl, no⟩ | ⟨p, ds, rfl, _, _, w, _⟩
  · exact ⟨fun _ => no, fun _ => rfl⟩
  · exact ⟨(fun z => by cases z), fun z => absurd (w.can hok) z⟩
open Classical in
theorem mayOf_app (n : Nat) (ts : List Tie) (r : List Int) (d : Int) : mayOf n ts r d = (r.filter fun x => decide (Can n (ts ++ holdT r d x))) ++ if Can n (ts ++ holdT r d (-1)) then [-1] else [] := by
  unfold mayOf
  rw [List.filter_append]
  simp [List.filter_cons]
end LH

set_option Elab.async false
set_option linter.all false
set_option maxRecDepth 100000
set_option maxHeartbeats 4000000
/-! windows that are apart; sorted of pairs -/
namespace LH
open PySem PySem.Spec PyProof.Rows L2
theorem srtP {X : Cx} (K : PySem.W.Frag) (h : X.K = K := by rfl) : CallR X (.builtin "sorted") (rSortedPO K) := by subst h; exact cr_sortedPO
def kOf (H : Hp) : V → Int × Int
  | .ref t => match H t with
    | some (.tup [.int a, .int b]) => (a, b)
    | _ => (0, 0)
  | _ => (0, 0)
theorem kOf_at {H : Hp} {v : V} {w : Int × Int} (h : PairAt H v w) : kOf H v = w ∧ ∃ t, v = V.ref t ∧ H t = some (.tup [.int (kOf H v).1, .int (kOf H v).2]) := by
  obtain ⟨t, rfl, ht⟩ := h
  have e : kOf H (.ref t) = w := by
    show (match H t with
      | some (HO.tup [V.int a, V.int b]) => (a, b)
      | _ => (0, 0)) = w
    rw [ht]
  exact ⟨e, t, rfl, by rw [e]; exact ht⟩
theorem kOf_all {H : Hp} : ∀ {xs : List V} {ws : List (Int × Int)}, PairsAt H xs ws → (∀ x ∈ xs, ∃ t, x = V.ref t ∧ H t = some (.tup [.int (kOf H x).1, .int (kOf H x).2])) ∧ xs.map (kOf H) = ws
  | [], [], _ => ⟨(fun x hx => by cases hx), rfl⟩
  | v :: vs, w :: ws, h => by
    obtain ⟨h1, h2⟩ := kOf_all h.2
    obtain ⟨e, g⟩ := kOf_at h.1
    refine ⟨fun x hx => ?_, by rw [List.map_cons, e, h2]⟩
    rcases List.mem_cons.mp hx with rfl | hx
    · exact g
    · exact h1 x hx
theorem pairs_of {H : Hp} {ys : List V} (h : ∀ x ∈ ys, ∃ t, x = V.ref t ∧ H t = some (.tup [.int (kOf H x).1, .int (kOf H x).2])) : PairsAt H ys (ys.map (kOf H)) := by
  induction ys with
  | nil => exact trivial
  | cons y ys ih =>
    refine ⟨?_, ih fun x hx => h x (List.mem_cons_of_mem _ hx)⟩
    obtain ⟨t, e1, e2⟩ := h y List.mem_cons_self
    exact ⟨t, e1, e2⟩
/-- two windows without a common day -/
def Off (a b : Int × Int) : Prop := a.2 < b.1 ∨ b.2 < a.1
def Apart (ws : List (Int × Int)) : Prop := ws.Pairwise Off
theorem apart_perm {ws vs : List (Int × Int)} (h : ws.Perm vs) : Apart ws ↔ Apart vs := h.pairwise_iff (fun {a b} h => h.symm)
/-- sorted by first and last -/
def Rising (ws : List (Int × Int)) : Prop := ws.Pairwise fun a b => a.1 < b.1 ∨ (a.1 = b.1 ∧ a.2 ≤ b.2)
theorem rising_of {H : Hp} {ys : List V} (h : SrtO.Srtd (ltP (kOf H)) ys) : Rising (ys.map (kOf H)) := by
  refine List.pairwise_map.mpr (h.imp fun {a b} h => ?_)
  have := SrtO.lexB_no.mp h
  omega
theorem apart_iff {ws : List (Int × Int)} (hr : Rising ws) (hw : ∀ w ∈ ws, w.1 ≤ w.2) : (∀ (k : Nat) a b, ws[k]? = some a → ws[k + 1]? = some b → a.2 < b.1) ↔ Apart ws := by
  induction ws with
  | nil => exact ⟨fun _ => List.Pairwise.nil, fun _ k a b h => by simp at h⟩
  | cons w ws ih =>
    have ih := ih (List.pairwise_cons.mp hr).2 fun x hx => hw x (List.mem_cons_of_mem _ hx)
    have r1 := (List.pairwise_cons.mp hr).1
    have w0 := hw w List.mem_cons_self
    constructor
    · intro h
      refine List.pairwise_cons.mpr ⟨fun b hb => ?_, ih.mp fun k a b h1 h2 => h (k + 1) a b h1 h2⟩
      cases ws with
      | nil => cases hb
      | cons v vs =>
        have h0 := h 0 w v rfl rfl
        have rv := (List.pairwise_cons.mp (List.pairwise_cons.mp hr).2).1
        refine .inl ?_
        rcases List.mem_cons.mp hb with rfl | hb
        · exact h0
        · have := rv b hb
          omega
    · intro h k a b h1 h2
      have p := List.pairwise_cons.mp h
      cases k with
      | zero =>
        cases ws with
        | nil => simp at h2
        | cons v vs =>
          have e1 : w = a := Option.some.inj h1
          have e2 : v = b := Option.some.inj h2
          subst e1 e2
          have q := p.1 v List.mem_cons_self
          have s := r1 v List.mem_cons_self
          have v0 := hw v (List.mem_cons_of_mem _ List.mem_cons_self)
          unfold Off at q
          omega
      | succ k => exact ih.mpr p.2 k a b h1 h2
/-- the windows of a life, a window for each one that may hold -/
noncomputable def winsOf (n : Nat) (ts : List Tie) (r : List Int) (d : Int) (i : Nat) : List (Int × Int) := (mayOf n ts r d).map fun x => (gapsG n (ts ++ holdT r d x) i n, - gapsG n (ts ++ holdT r d x) n i)
open Classical in
noncomputable def endsB (n : Nat) (ts : List Tie) (r : List Int) (d : Int) (i : Nat) : Bool := decide (Apart (winsOf n ts r d i))
noncomputable def endersOf (n : Nat) (ts : List Tie) (r : List Int) (d : Int) : List Int := places (endsB n ts r d) n
theorem win_le {n : Nat} {us : List Tie} (hok : ∀ t ∈ us, TieIx (n : Int) t) (c : Can n us) {i : Nat} (hi : i < n) : gapsG n us i n ≤ - gapsG n us n i := by
  obtain ⟨φ, f⟩ := c
  have h1 := gap_le f (Nat.le_of_lt hi) (Nat.le_refl n)
  have h2 := gap_le f (Nat.le_refl n) (Nat.le_of_lt hi)
  omega
theorem wins_le {n : Nat} {ts : List Tie} {r : List Int} {d : Int} (hok : ∀ t ∈ ts, TieIx (n : Int) t) (hr : RowOk (n : Int) r) (h0 : 0 < n) {i : Nat} (hi : i < n) : ∀ w ∈ winsOf n ts r d i, w.1 ≤ w.2 := by
  intro w hw
  obtain ⟨x, hx, rfl⟩ := List.mem_map.mp hw
  have m := mem_may.mp hx
  exact win_le (app_ix hok (holdT_ix hr.2 m.1 (by omega))) m.2 hi
end LH
namespace LH
open PySem PySem.Spec PyProof.Rows L2
def SpreadAt (n : Nat) (ts : List Tie) (r : List Int) (d : Int) (H : Hp) (v : V) (x : Int) : Prop := ∃ p e l : Addr, v = .ref p ∧ H p = some (.tup [.ref e, .ref l]) ∧ H e = some (.lst (((List.range n).map fun i => gapsG n (ts ++ holdT r d x) i n).map V.int)) ∧ H l = some (.lst (((List.range n).map fun i => - gapsG n (ts ++ holdT r d x) n i).map V.int))
theorem SpreadAt.mono {n : Nat} {ts : List Tie} {r : List Int} {d : Int} {H H' : Hp} {v : V} {x : Int} (e : Same H H') (h : SpreadAt n ts r d H v x) : SpreadAt n ts r d H' v x := by
  obtain ⟨p, q, l, h1, h2, h3, h4⟩ := h
  exact ⟨p, q, l, h1, e _ _ h2, e _ _ h3, e _ _ h4⟩
def SpreadN (n : Nat) (ts : List Tie) (r : List Int) (d : Int) (D : Addr) (H : Hp) (v : V) (x : Int) : Prop := ∃ p e l : Addr, v = .ref p ∧ p ≠ D ∧ e ≠ D ∧ l ≠ D ∧ H p = some (.tup [.ref e, .ref l]) ∧ H e = some (.lst (((List.range n).map fun i => gapsG n (ts ++ holdT r d x) i n).map V.int)) ∧ H l = some (.lst (((List.range n).map fun i => - gapsG n (ts ++ holdT r d x) n i).map V.int))
theorem spreadN_mono {n : Nat} {ts : List Tie} {r : List Int} {d : Int} {D : Addr} {H H' : Hp} {vs : List V} {xs : List Int} (e : Same H H') (h : AllAt (SpreadN n ts r d D H) vs xs) : AllAt (SpreadN n ts r d D H') vs xs :=
  AllAt.imp (fun _ _ ⟨p, q, l, h1, n1, n2, n3, h2, h3, h4⟩ => ⟨p, q, l, h1, n1, n2, n3, e _ _ h2, e _ _ h3, e _ _ h4⟩) h
theorem spreadN_upd {n : Nat} {ts : List Tie} {r : List Int} {d : Int} {D : Addr} {H : Hp} {o : HO} {vs : List V} {xs : List Int} (h : AllAt (SpreadN n ts r d D H) vs xs) : AllAt (SpreadN n ts r d D (upd H D o)) vs xs :=
  AllAt.imp (fun _ _ ⟨p, q, l, h1, n1, n2, n3, h2, h3, h4⟩ => ⟨p, q, l, h1, n1, n2, n3, by rw [upd_ne n1]; exact h2, by rw [upd_ne n2]; exact h3, by rw [upd_ne n3]; exact h4⟩) h
theorem spreadN_at {n : Nat} {ts : List Tie} {r : List Int} {d : Int} {D : Addr} {H : Hp} {vs : List V} {xs : List Int} (h : AllAt (SpreadN n ts r d D H) vs xs) : AllAt (SpreadAt n ts r d H) vs xs :=
  AllAt.imp (fun _ _ ⟨p, q, l, h1, _, _, _, h2, h3, h4⟩ => ⟨p, q, l, h1, h2, h3, h4⟩) h
theorem range_at {n : Nat} {f : Nat → Int} {o : Int} (h0 : 0 ≤ o) (h1 : o < n) : atI (((List.range n).map f).map V.int) o = some (V.int (f o.toNat)) := at_ints_nat (i := o.toNat) (by omega) (by rw [List.getElem?_map, List.getElem?_range (by omega)]; rfl)
end LH
namespace LH
theorem holder_dayM {r ds : List Int} {d x : Int} (h : holderOf r ds d = x) (h0 : 0 ≤ x) : d < dayOf ds x := by
  unfold holderOf at h
  cases e : r.find? fun l => decide (d < dayOf ds l) with
  | none =>
    rw [e] at h
    have h : (-1 : Int) = x := h
    omega
  | some y =>
    rw [e] at h
    have h : y = x := h
    subst h
    have := List.find?_some e
    simpa using this
end LH
namespace LH
theorem endsB_iff {n : Nat} {ts : List Tie} {r : List Int} {d : Int} {q : Nat} : endsB n ts r d q = true ↔ Apart (winsOf n ts r d q) := by
  unfold endsB
  simp
end LH
namespace LH
open PySem PySem.Spec PyProof.Rows L2
theorem may_nodup {n : Nat} {ts : List Tie} {r : List Int} {d : Int} (hr : RowOk (n : Int) r) : (mayOf n ts r d).Nodup := by
  unfold mayOf
  refine List.Pairwise.filter _ ?_
  rw [← List.nodup_iff_pairwise_ne, List.nodup_append]
  refine ⟨hr.1.2.2, by simp, fun a ha b hb => ?_⟩
  rw [List.mem_singleton.mp hb]
  have := (hr.2 a ha).1
  omega
/-- each day of a window is one's -/
theorem win_day {n : Nat} {us : List Tie} (hok : ∀ t ∈ us, TieIx (n : Int) t) (c : Can n us) {i : Nat} (hi : i < n) {v : Int} (h1 : gapsG n us i n ≤ v) (h2 : v ≤ - gapsG n us n i) : ∃ ds, Way n us ds ∧ dayOf ds (i : Int) = v := by
  have ndi : nd n (i : Int) = i := by rw [nd_nat (by omega)]; omega
  have ndm : nd n (-1) = n := nd_neg (by decide)
  have hd := (can_iff hok).mp c
  have ix1 : TieIx (n : Int) ((i : Int), -1, v) := ⟨by show -1 ≤ (i : Int); omega, by show (i : Int) < n; omega, by show (-1 : Int) ≤ -1; omega, by show (-1 : Int) < n; omega, trivial⟩
  have ix2 : TieIx (n : Int) (-1, (i : Int), -v) := ⟨by show (-1 : Int) ≤ -1; omega, by show (-1 : Int) < n; omega, by show -1 ≤ (i : Int); omega, by show (i : Int) < n; omega, trivial⟩
  have c1 : Can n (us ++ [((i : Int), -1, v)]) := (can_one hok ix1 c).mpr (by
    show gapsG n us (nd n (-1)) (nd n (i : Int)) + v ≤ 0
    rw [ndi, ndm]
    omega)
  have ok1 : ∀ t ∈ us ++ [((i : Int), (-1 : Int), v)], TieIx (n : Int) t := app_ix hok fun t ht => by rw [List.mem_singleton.mp ht]; exact ix1
  have g1 := gaps_one hok ix1 c1 (Nat.le_of_lt hi) (Nat.le_refl n)
  have c2 : Can n (us ++ [((i : Int), (-1 : Int), v)] ++ [(-1, (i : Int), -v)]) := (can_one ok1 ix2 c1).mpr (by
    show gapsG n (us ++ [((i : Int), (-1 : Int), v)]) (nd n (i : Int)) (nd n (-1)) + -v ≤ 0
    rw [ndi, ndm, g1]
    unfold moreG
    show max (gapsG n us i n) (gapsG n us i (nd n (i : Int)) + (v + gapsG n us (nd n (-1)) n)) + -v ≤ 0
    rw [ndi, ndm, hd i (Nat.le_of_lt hi), hd n (Nat.le_refl n)]
    omega)
  obtain ⟨φ, f⟩ := c2
  obtain ⟨f1, f2⟩ := feas_app.mp f
  obtain ⟨f3, f4⟩ := feas_app.mp f1
  have w := f3.way hok
  refine ⟨_, w, ?_⟩
  have a1 := f4 _ (List.mem_singleton.mpr rfl)
  have a2 := f2 _ (List.mem_singleton.mpr rfl)
  have e : dayOf ((List.range n).map φ) (i : Int) = φ i := dayOf_get (by omega) (by rw [show ((i : Int)).toNat = i by omega, List.getElem?_map, List.getElem?_range hi]; rfl)
  rw [e]
  have a1 : v ≤ φ (nd n (i : Int)) - φ (nd n (-1)) := a1
  have a2 : -v ≤ φ (nd n (-1)) - φ (nd n (i : Int)) := a2
  rw [ndi, ndm, f.z] at a1 a2
  omega
theorem way_win {n : Nat} {us : List Tie} {ds : List Int} (hok : ∀ t ∈ us, TieIx (n : Int) t) (w : Way n us ds) {i : Nat} (hi : i < n) : gapsG n us i n ≤ dayOf ds (i : Int) ∧ dayOf ds (i : Int) ≤ - gapsG n us n i := by
  have f := w.feas hok
  have h1 := gap_le f (Nat.le_of_lt hi) (Nat.le_refl n)
  have h2 := gap_le f (Nat.le_refl n) (Nat.le_of_lt hi)
  have e : dayOf ds (i : Int) = wayF n ds i := by
    rw [dayOf_nd (n := n) (by omega), nd_nat (by omega)]
    congr 1
  rw [f.z] at h1 h2
  omega
/-- who ends the doubt, by ways -/
theorem ends_ways {n : Nat} {ts : List Tie} {r : List Int} {d : Int} (hok : ∀ t ∈ ts, TieIx (n : Int) t) (hr : RowOk (n : Int) r) (h0 : 0 < n) {i : Nat} (hi : i < n) :
    (∀ ds es, Way n ts ds → Way n ts es → dayOf ds (i : Int) = dayOf es (i : Int) → holderOf r ds d = holderOf r es d) ↔ Apart (winsOf n ts r d i) := by
  have wx : ∀ ds, Way n ts ds → holderOf r ds d ∈ mayOf n ts r d ∧ Way n (ts ++ holdT r d (holderOf r ds d)) ds := fun ds w => by
    have m := holder_mem r ds d
    refine ⟨mem_may.mpr ⟨m, (may_iff hok hr m h0).mpr ⟨ds, w, rfl⟩⟩, w.len, w.rg, fun t ht => (List.mem_append.mp ht).elim (w.kp t) ((hold_iff hr m).mpr rfl t)⟩
  have ixx : ∀ x, x ∈ mayOf n ts r d → ∀ t ∈ ts ++ holdT r d x, TieIx (n : Int) t := fun x hx => app_ix hok (holdT_ix hr.2 (mem_may.mp hx).1 (by omega))
  constructor
  · intro h
    unfold winsOf
    refine List.pairwise_map.mpr ((may_nodup hr).imp_of_mem fun {x y} hx hy ne => ?_)
    apply Classical.byContradiction
    intro no
    unfold Off at no
    dsimp only at no
    have lx := win_le (ixx x hx) (mem_may.mp hx).2 hi
    have ly := win_le (ixx y hy) (mem_may.mp hy).2 hi
    obtain ⟨ds, w1, e1⟩ := win_day (ixx x hx) (mem_may.mp hx).2 hi (v := max (gapsG n (ts ++ holdT r d x) i n) (gapsG n (ts ++ holdT r d y) i n)) (by omega) (by omega)
    obtain ⟨es, w2, e2⟩ := win_day (ixx y hy) (mem_may.mp hy).2 hi (v := max (gapsG n (ts ++ holdT r d x) i n) (gapsG n (ts ++ holdT r d y) i n)) (by omega) (by omega)
    have q := h ds es ⟨w1.len, w1.rg, fun t ht => w1.kp t (List.mem_append_left _ ht)⟩ ⟨w2.len, w2.rg, fun t ht => w2.kp t (List.mem_append_left _ ht)⟩ (by rw [e1, e2])
    rw [(hold_iff hr (mem_may.mp hx).1).mp fun t ht => w1.kp t (List.mem_append_right _ ht), (hold_iff hr (mem_may.mp hy).1).mp fun t ht => w2.kp t (List.mem_append_right _ ht)] at q
    exact ne q
  · intro h ds es w1 w2 e
    obtain ⟨m1, v1⟩ := wx ds w1
    obtain ⟨m2, v2⟩ := wx es w2
    apply Classical.byContradiction
    intro ne
    have a1 := way_win (ixx _ m1) v1 hi
    have a2 := way_win (ixx _ m2) v2 hi
    obtain ⟨j, hj, e1⟩ := List.mem_iff_getElem.mp m1
    obtain ⟨k, hk, e2⟩ := List.mem_iff_getElem.mp m2
    have p := List.pairwise_iff_getElem.mp h
    have wl : (winsOf n ts r d i).length = (mayOf n ts r d).length := List.length_map ..
    have wj : ∀ (q : Nat) (hq : q < (mayOf n ts r d).length), (winsOf n ts r d i)[q]'(by omega) = (gapsG n (ts ++ holdT r d (mayOf n ts r d)[q]) i n, - gapsG n (ts ++ holdT r d (mayOf n ts r d)[q]) n i) := fun q hq => by
      unfold winsOf
      rw [List.getElem_map]
    rcases Nat.lt_trichotomy j k with z | z | z
    · have q := p j k (by omega) (by omega) z
      rw [wj j hj, wj k hk, e1, e2] at q
      unfold Off at q
      dsimp only at q
      omega
    · subst z
      rw [e1] at e2
      exact ne e2
    · have q := p k j (by omega) (by omega) z
      rw [wj j hj, wj k hk, e1, e2] at q
      unfold Off at q
      dsimp only at q
      omega
theorem putK_len {κ : Type} [DecidableEq κ] (kvs : List (κ × V)) (k : κ) (v : V) : (putK kvs k v).length ≤ kvs.length + 1 := by
  unfold putK
  split
  · rw [List.length_map]
    omega
  · rw [List.length_append]
    exact Nat.le_refl _
end LH
namespace LH
open PySem PySem.Spec PyProof.Rows L2
open Classical in
noncomputable def dueA (n : Nat) (r : List Int) (d x : Int) (door : Int) : Str :=
  if ¬ RowOk (n : Int) r then "BadRow" else if ¬ DayOk d then "BadDay" else if door = 2 ∧ ¬ (x = -1 ∨ x ∈ r) then "NoLife" else ""
end LH

set_option Elab.async false
set_option linter.all false
set_option maxRecDepth 100000
set_option maxHeartbeats 4000000
/-! min of a list of triples of ints -/
namespace LH
open PySem PySem.Spec PyProof.Rows L2
/-- u stands before t -/
def BeforeT (u t : Tie) : Prop := u.1 < t.1 ∨ (u.1 = t.1 ∧ (u.2.1 < t.2.1 ∨ (u.2.1 = t.2.1 ∧ u.2.2 < t.2.2)))
def tupT (t : Tie) : PySem.W.Tup Int := ⟨[t.1, t.2.1, t.2.2]⟩
theorem tupT_inj {t u : Tie} (h : tupT t = tupT u) : t = u := by
  obtain ⟨a, b, c⟩ := t
  obtain ⟨a', b', c'⟩ := u
  unfold tupT at h
  injection h with h
  injection h with h1 h
  injection h with h2 h
  injection h with h3 h
  dsimp only at h1 h2 h3
  rw [h1, h2, h3]
theorem lt_tupT {u t : Tie} : PySem.W.DatumOrd.lt (tupT u) (tupT t) = true ↔ BeforeT u t := by
  show PySem.W.listLt [u.1, u.2.1, u.2.2] [t.1, t.2.1, t.2.2] = true ↔ _
  unfold BeforeT
  simp only [PySem.W.listLt]
  have e : ∀ a b : Int, PySem.W.DatumOrd.lt a b = decide (a < b) := fun _ _ => rfl
  split
  · split
    · split
      · simp; omega
      · rw [e]; simp; omega
    · rw [e]; simp; omega
  · rw [e]; simp; omega
theorem minOf_least : ∀ (ts : List Tie) (t : Tie), ∃ m, PySem.W.minOf (tupT t) (ts.map tupT) = tupT m ∧ m ∈ t :: ts ∧ ∀ u ∈ t :: ts, ¬ BeforeT u m
  | [], t => ⟨t, rfl, List.mem_cons_self, fun u hu => by rw [List.mem_singleton.mp hu]; unfold BeforeT; omega⟩
  | s :: ts, t => by
    have step : PySem.W.minOf (tupT t) ((s :: ts).map tupT) = PySem.W.minOf (if PySem.W.DatumOrd.lt (tupT s) (tupT t) = true then tupT s else tupT t) (ts.map tupT) := rfl
    by_cases c : BeforeT s t
    · rw [if_pos (lt_tupT.mpr c)] at step
      obtain ⟨m, h1, h2, h3⟩ := minOf_least ts s
      refine ⟨m, step.trans h1, List.mem_cons_of_mem _ h2, fun u hu => ?_⟩
      rcases List.mem_cons.mp hu with rfl | hu
      · have := h3 s List.mem_cons_self
        unfold BeforeT at *
        omega
      · exact h3 u hu
    · rw [if_neg (fun z => c (lt_tupT.mp z))] at step
      obtain ⟨m, h1, h2, h3⟩ := minOf_least ts t
      refine ⟨m, step.trans h1, ?_, fun u hu => ?_⟩
      · rcases List.mem_cons.mp h2 with z | z
        · exact List.mem_cons.mpr (.inl z)
        · exact List.mem_cons_of_mem _ (List.mem_cons_of_mem _ z)
      · rcases List.mem_cons.mp hu with rfl | hu
        · exact h3 u List.mem_cons_self
        · rcases List.mem_cons.mp hu with rfl | hu
          · have := h3 t List.mem_cons_self
            unfold BeforeT at *
            omega
          · exact h3 u (List.mem_cons_of_mem _ hu)
def rMinT (K : PySem.W.Frag) : List V → Hp → VK → Prop := fun vs H Q => ∃ (a : Addr) (xs : List V) (ts : List Tie), vs = [V.ref a] ∧ SqL K H a xs ∧ TiesAt H xs ts ∧ ts ≠ [] ∧
  ∀ v t, t ∈ ts → (∀ u ∈ ts, ¬ BeforeT u t) → TieAt H v t → Q v H
section
variable {X : Cx}
theorem holds_ties {pins : List (Addr × Obj)} {σ : L2.St} {H : Hp} {s : Shared} (I : Inv X pins σ H s) : ∀ {xs : List V} {ts : List Tie} {its : List Value}, TiesAt H xs ts → Vals xs its → PySem.W.HoldAll s.heap its (ts.map tupT)
  | [], [], _, _, r => by
    cases r
    exact PySem.W.HoldAll.nil
  | x :: xs, t :: ts, _, h, r => by
    cases r with
    | @cons _ u _ _ r1 r2 =>
      refine PySem.W.HoldAll.cons ?_ (holds_ties I h.2 r2)
      obtain ⟨p, rfl, hp⟩ := h.1
      obtain ⟨its2, rv2, hT, _⟩ := I.tuple (SqT.of hp)
      obtain rfl : u = Value.ref p := r1
      refine PySem.W.holds_tup hT ?_
      cases rv2 with
      | cons q1 q =>
        cases q with
        | cons q2 q =>
          cases q with
          | cons q3 q =>
            cases q
            obtain ⟨t1, rfl⟩ := q1
            obtain ⟨t2, rfl⟩ := q2
            obtain ⟨t3, rfl⟩ := q3
            exact PySem.W.HoldAll.cons (PySem.W.holds_int _ _) (PySem.W.HoldAll.cons (PySem.W.holds_int _ _) (PySem.W.HoldAll.cons (PySem.W.holds_int _ _) PySem.W.HoldAll.nil))
theorem holds_unique {α : Type} [DecidableEq α] [PySem.W.Datum α] {h : Heap} {v : Value} {x y : α} (h1 : PySem.W.Holds h v x) (h2 : PySem.W.Holds h v y) : x = y := by
  obtain ⟨as, r1⟩ := h1
  obtain ⟨bs, r2⟩ := h2
  have e := PySem.SeqAt.plain_unique _ _ _ _ _ (PySem.W.Datum.plain x) r1 r2
  have a := PySem.W.Datum.eqv x x
  rw [decide_eq_true rfl] at a
  have b := PySem.W.Datum.eqv x y
  rw [← e, a] at b
  exact of_decide_eq_true b.symm
theorem cr_minT (hc : X.calm = true) (hu : X.A.units + 64 < cLine) : CallR X (.builtin "min") (rMinT X.K) := by
  intro pins s σ H vs us Q I r h
  obtain ⟨a, xs, ts, rfl, hs, hT, hne, q⟩ := h
  obtain ⟨its, rv, hl, _⟩ := I.list hs
  rw [Vals.ref1 r]
  have HA := holds_ties I hT rv
  cases ts with
  | nil => exact absurd rfl hne
  | cons t ts =>
    rw [List.map_cons] at HA
    obtain ⟨m, e, hm, hl2⟩ := minOf_least ts t
    refine PySem.W.min_list_datum (I.ok.hd hc) hl.isList HA (by show X.A.units + 1 + (0 + 1) < cLine; omega) fun i v h' tk hi hh hk => ?_
    have hi2 : its[i]? = some v := by simpa using hi
    obtain ⟨y, hy, hv⟩ := PySem.W.HoldAll.at HA hi2
    have e2 := holds_unique (PySem.W.Holds.keeps hk hv) hh
    rw [← List.map_cons, List.getElem?_map] at hy
    obtain ⟨z, hz, ez⟩ := Option.map_eq_some_iff.mp hy
    have e3 : z = m := tupT_inj (ez.trans (e2.trans e))
    obtain ⟨x, hx, hxt⟩ := hT.get' hz
    have rx : RelV x v := by
      obtain ⟨u, hu2, ru⟩ := Vals.get rv hx
      rw [hi2] at hu2
      rw [Option.some.inj hu2]
      exact ru
    subst e3
    exact ⟨x, H, I.kept hk, rx, q x z hm hl2 hxt⟩
end
end LH
namespace LH
open PySem PySem.Spec PyProof.Rows L2
theorem minT {X : Cx} (K : PySem.W.Frag) (hc : X.calm = true) (hu : X.A.units + 64 < cLine) (h : X.K = K := by rfl) : CallR X (.builtin "min") (rMinT K) := by subst h; exact cr_minT hc hu
end LH

set_option Elab.async false
set_option linter.all false
set_option maxRecDepth 100000
set_option maxHeartbeats 4000000
/-! on how many days a life holds: margins, fewest, most -/
namespace LH
def aheadOf (r : List Int) (x : Int) : List Int := r.take (r.idxOf x)
def firstsOf (es : List Int) (s : Int) : List (Int × Int) := (-1, s) :: es.map fun e => (e, 0)
def lastsOf (x b : Int) : List (Int × Int) := [(x, 0), (-1, b)]
def marT (es : List Int) (x s b : Int) : List Tie := (lastsOf x b).flatMap fun l => (firstsOf es s).map fun f => (l.1, f.1, l.2 - f.2)
def cntOf (r ds : List Int) (x s b : Int) : Int := (((turnsOf r ds s b).filter fun t => decide (t.1 = x)).map fun t => t.2.2 - t.2.1).sum
def marOf (ds : List Int) (t : Tie) : Int := dayOf ds t.1 - dayOf ds t.2.1 + t.2.2
theorem mem_mar {es : List Int} {x s b : Int} {t : Tie} : t ∈ marT es x s b ↔ ∃ l ∈ lastsOf x b, ∃ f ∈ firstsOf es s, t = (l.1, f.1, l.2 - f.2) := by
  unfold marT
  rw [List.mem_flatMap]
  constructor
  · rintro ⟨l, hl, ht⟩
    obtain ⟨f, hf, e⟩ := List.mem_map.mp ht
    exact ⟨l, hl, f, hf, e.symm⟩
  · rintro ⟨l, hl, f, hf, e⟩
    exact ⟨l, hl, List.mem_map.mpr ⟨f, hf, e.symm⟩⟩
theorem mem_lasts {x b : Int} {l : Int × Int} : l ∈ lastsOf x b ↔ l = (x, 0) ∨ l = (-1, b) := by
  unfold lastsOf
  simp
theorem mem_firsts {es : List Int} {s : Int} {f : Int × Int} : f ∈ firstsOf es s ↔ f = (-1, s) ∨ ∃ e ∈ es, f = (e, 0) := by
  unfold firstsOf
  rw [List.mem_cons, List.mem_map]
  constructor
  · rintro (h | ⟨e, he, h⟩)
    · exact .inl h
    · exact .inr ⟨e, he, h.symm⟩
  · rintro (h | ⟨e, he, h⟩)
    · exact .inl h
    · exact .inr ⟨e, he, h.symm⟩
theorem mar_ne {es : List Int} {x s b : Int} : marT es x s b ≠ [] := by
  intro z
  have : ((x, -1, 0 - s) : Tie) ∈ marT es x s b := mem_mar.mpr ⟨(x, 0), mem_lasts.mpr (.inl rfl), (-1, s), mem_firsts.mpr (.inl rfl), rfl⟩
  rw [z] at this
  cases this
theorem mar_len {es : List Int} {x s b : Int} : (marT es x s b).length = 2 * (es.length + 1) := by
  unfold marT lastsOf firstsOf
  simp
  omega
theorem mar_ix {n : Nat} {es : List Int} {x s b : Int} (hx : 0 ≤ x ∧ x < n) (he : ∀ e ∈ es, 0 ≤ e ∧ e < (n : Int)) : ∀ t ∈ marT es x s b, TieIx (n : Int) t := by
  intro t ht
  obtain ⟨l, hl, f, hf, rfl⟩ := mem_mar.mp ht
  have h1 : -1 ≤ l.1 ∧ l.1 < (n : Int) := by
    rcases mem_lasts.mp hl with rfl | rfl
    · exact ⟨by show -1 ≤ x; omega, hx.2⟩
    · exact ⟨by show (-1 : Int) ≤ -1; omega, by show (-1 : Int) < n; omega⟩
  have h2 : -1 ≤ f.1 ∧ f.1 < (n : Int) := by
    rcases mem_firsts.mp hf with rfl | ⟨e, h, rfl⟩
    · exact ⟨by show (-1 : Int) ≤ -1; omega, by show (-1 : Int) < n; omega⟩
    · have := he e h
      exact ⟨by show -1 ≤ e; omega, this.2⟩
  exact ⟨h1.1, h1.2, h2.1, h2.2, trivial⟩
/-! the count in one way -/
theorem fold_no {ds : List Int} {b x : Int} : ∀ (l : List Int) (st : List (Int × Int × Int) × Int), x ∉ l → ((l.foldl (stepT ds b) st).1.filter fun t => decide (t.1 = x)) = st.1.filter fun t => decide (t.1 = x)
  | [], _, _ => rfl
  | y :: l, st, h => by
    rw [List.foldl_cons, fold_no l _ fun z => h (List.mem_cons_of_mem _ z)]
    unfold stepT
    split
    · show (st.1 ++ [_]).filter _ = _
      rw [List.filter_append, List.filter_cons_of_neg (by
        simp only [decide_eq_true_eq]
        intro z
        exact h (by rw [← z]; exact List.mem_cons_self))]
      simp
    · rfl
theorem ahead_split {r : List Int} {x : Int} (hx : x ∈ r) (nd : r.Nodup) : ∃ q, r = aheadOf r x ++ x :: q ∧ x ∉ aheadOf r x ∧ x ∉ q := by
  have hl := List.idxOf_lt_length_iff.mpr hx
  refine ⟨r.drop (r.idxOf x + 1), ?_, ?_, ?_⟩
  · have e : r.drop (r.idxOf x) = x :: r.drop (r.idxOf x + 1) := by
      rw [List.drop_eq_getElem_cons hl, List.getElem_idxOf hl]
    unfold aheadOf
    rw [← e, List.take_append_drop]
  all_goals
    have e : r.drop (r.idxOf x) = x :: r.drop (r.idxOf x + 1) := by
      rw [List.drop_eq_getElem_cons hl, List.getElem_idxOf hl]
    rw [show r = r.take (r.idxOf x) ++ (x :: r.drop (r.idxOf x + 1)) by rw [← e, List.take_append_drop]] at nd
    have nd := List.nodup_append.mp nd
  · intro z
    exact nd.2.2 x z x List.mem_cons_self rfl
  · intro z
    exact (List.nodup_cons.mp nd.2.1).1 z
theorem cnt_eq {r ds : List Int} {x s b : Int} (hx : x ∈ r) (nd : r.Nodup) : cntOf r ds x s b = max 0 (min (dayOf ds x) b - (turnsS (aheadOf r x) ds s b).2) := by
  obtain ⟨q, e, h1, h2⟩ := ahead_split hx nd
  have f0 : ((turnsS (aheadOf r x) ds s b).1.filter fun t => decide (t.1 = x)) = [] := fold_no _ _ h1
  unfold cntOf turnsOf
  have e2 : turnsS r ds s b = q.foldl (stepT ds b) (stepT ds b (turnsS (aheadOf r x) ds s b) x) := by
    unfold turnsS
    conv => lhs; rw [e]
    rw [List.foldl_append, List.foldl_cons]
  rw [e2, fold_no _ _ h2]
  generalize turnsS (aheadOf r x) ds s b = st at *
  unfold stepT
  split
  · rename_i c
    show ((List.filter _ (st.1 ++ [_])).map _).sum = _
    rw [List.filter_append, f0, List.filter_cons_of_pos (by simp)]
    simp
    omega
  · rename_i c
    rw [f0]
    show (0 : Int) = _
    omega
theorem here_is {ds : List Int} {s b : Int} (l : List Int) : (turnsS l ds s b).2 = s ∨ ∃ e ∈ l, (turnsS l ds s b).2 = min (dayOf ds e) b := by
  refine snoc_ind (P := fun l => (turnsS l ds s b).2 = s ∨ ∃ e ∈ l, (turnsS l ds s b).2 = min (dayOf ds e) b) (.inl rfl) (fun l x ih => ?_) l
  rw [turnsS_snoc]
  unfold stepT
  split
  · exact .inr ⟨x, List.mem_append_right _ (List.mem_singleton.mpr rfl), rfl⟩
  · rcases ih with h | ⟨e, he, h⟩
    · exact .inl h
    · exact .inr ⟨e, List.mem_append_left _ he, h⟩
theorem day_m1 (ds : List Int) : dayOf ds (-1) = 0 := dayOf_neg (by omega)
theorem cnt_le {r ds : List Int} {x s b : Int} (hx : x ∈ r) (nd : r.Nodup) {t : Tie} (ht : t ∈ marT (aheadOf r x) x s b) : cntOf r ds x s b ≤ max 0 (marOf ds t) := by
  rw [cnt_eq hx nd]
  obtain ⟨l, hl, f, hf, rfl⟩ := mem_mar.mp ht
  have g := turnsS_ge ds s b (aheadOf r x)
  have sn := turns_seen (ds := ds) (s := s) (b := b) (aheadOf r x)
  generalize (turnsS (aheadOf r x) ds s b).2 = T at *
  unfold marOf
  show _ ≤ max 0 (dayOf ds l.1 - dayOf ds f.1 + (l.2 - f.2))
  have hl2 : min (dayOf ds x) b ≤ dayOf ds l.1 + l.2 := by
    rcases mem_lasts.mp hl with rfl | rfl
    · show _ ≤ dayOf ds x + 0
      omega
    · show _ ≤ dayOf ds (-1) + b
      rw [day_m1]
      omega
  by_cases c : T < b
  · have hf2 : dayOf ds f.1 + f.2 ≤ T := by
      rcases mem_firsts.mp hf with rfl | ⟨e, he, rfl⟩
      · show dayOf ds (-1) + s ≤ T
        rw [day_m1]
        omega
      · have := sn e he
        show dayOf ds e + 0 ≤ T
        omega
    omega
  · omega
theorem cnt_ge {r ds : List Int} {x s b c : Int} (hx : x ∈ r) (nd : r.Nodup) (h : ∀ t ∈ marT (aheadOf r x) x s b, c ≤ marOf ds t) : c ≤ cntOf r ds x s b := by
  rw [cnt_eq hx nd]
  have hh := here_is (ds := ds) (s := s) (b := b) (aheadOf r x)
  generalize (turnsS (aheadOf r x) ds s b).2 = T at *
  have key : ∀ f ∈ firstsOf (aheadOf r x) s, c ≤ min (dayOf ds x) b - (dayOf ds f.1 + f.2) := fun f hf => by
    have h1 := h _ (mem_mar.mpr ⟨(x, 0), mem_lasts.mpr (.inl rfl), f, hf, rfl⟩)
    have h2 := h _ (mem_mar.mpr ⟨(-1, b), mem_lasts.mpr (.inr rfl), f, hf, rfl⟩)
    unfold marOf at h1 h2
    have h1 : c ≤ dayOf ds x - dayOf ds f.1 + (0 - f.2) := h1
    have h2 : c ≤ dayOf ds (-1) - dayOf ds f.1 + (b - f.2) := h2
    rw [day_m1] at h2
    omega
  rcases hh with h0 | ⟨e, he, h0⟩
  · have := key (-1, s) (mem_firsts.mpr (.inl rfl))
    have this : c ≤ min (dayOf ds x) b - (dayOf ds (-1) + s) := this
    rw [day_m1] at this
    omega
  · have := key (e, 0) (mem_firsts.mpr (.inr ⟨e, he, rfl⟩))
    have this : c ≤ min (dayOf ds x) b - (dayOf ds e + 0) := this
    omega
theorem cnt_nn (r ds : List Int) (x s b : Int) (hx : x ∈ r) (nd : r.Nodup) : 0 ≤ cntOf r ds x s b := by
  rw [cnt_eq hx nd]
  omega
/-! of all ways -/
theorem mar_feas {n : Nat} {ds : List Int} {t : Tie} (ix : TieIx (n : Int) t) : marOf ds t = wayF n ds (nd n t.1) - wayF n ds (nd n t.2.1) + t.2.2 := by
  unfold marOf
  rw [dayOf_nd (n := n) ix.2.1, dayOf_nd (n := n) ix.2.2.2.1]
theorem mar_low {n : Nat} {ts : List Tie} {ds : List Int} {t : Tie} (hok : ∀ t ∈ ts, TieIx (n : Int) t) (w : Way n ts ds) (ix : TieIx (n : Int) t) : gapsG n ts (nd n t.1) (nd n t.2.1) + t.2.2 ≤ marOf ds t := by
  rw [mar_feas ix]
  have := gap_le (w.feas hok) (nd_le (n := n) ix.2.1) (nd_le (n := n) ix.2.2.2.1)
  omega
theorem mar_high {n : Nat} {ts : List Tie} {ds : List Int} {t : Tie} (hok : ∀ t ∈ ts, TieIx (n : Int) t) (w : Way n ts ds) (ix : TieIx (n : Int) t) : marOf ds t ≤ t.2.2 - gapsG n ts (nd n t.2.1) (nd n t.1) := by
  rw [mar_feas ix]
  have := gap_le (w.feas hok) (nd_le (n := n) ix.2.2.2.1) (nd_le (n := n) ix.2.1)
  omega
/-- as many days, in each margin -/
def holdC (us : List Tie) (c : Int) : List Tie := us.map fun t => (t.1, t.2.1, c - t.2.2)
theorem holdC_ix {m : Int} {us : List Tie} {c : Int} (h : ∀ t ∈ us, TieIx m t) : ∀ t ∈ holdC us c, TieIx m t := by
  intro t ht
  obtain ⟨u, hu, rfl⟩ := List.mem_map.mp ht
  exact h u hu
theorem holdC_way {n : Nat} {ts us : List Tie} {c : Int} {ds : List Int} (w : Way n (ts ++ holdC us c) ds) : Way n ts ds ∧ ∀ t ∈ us, c ≤ marOf ds t := by
  refine ⟨⟨w.len, w.rg, fun t ht => w.kp t (List.mem_append_left _ ht)⟩, fun t ht => ?_⟩
  have := w.kp (t.1, t.2.1, c - t.2.2) (List.mem_append_right _ (List.mem_map.mpr ⟨t, ht, rfl⟩))
  unfold KeptW at this
  unfold marOf
  have this : c - t.2.2 ≤ dayOf ds t.1 - dayOf ds t.2.1 := this
  omega
theorem way_holdC {n : Nat} {ts us : List Tie} {c : Int} {ds : List Int} (w : Way n ts ds) (h : ∀ t ∈ us, c ≤ marOf ds t) : Way n (ts ++ holdC us c) ds := by
  refine ⟨w.len, w.rg, fun t ht => ?_⟩
  rcases List.mem_append.mp ht with ht | ht
  · exact w.kp t ht
  · obtain ⟨u, hu, rfl⟩ := List.mem_map.mp ht
    have := h u hu
    unfold marOf at this
    unfold KeptW
    show c - u.2.2 ≤ dayOf ds u.1 - dayOf ds u.2.1
    omega
theorem ex_max {α : Type} (f : α → Int) : ∀ (l : List α), l ≠ [] → ∃ x ∈ l, ∀ y ∈ l, f y ≤ f x
  | [], h => absurd rfl h
  | [x], _ => ⟨x, List.mem_cons_self, fun y hy => by rw [List.mem_singleton.mp hy]; exact Int.le_refl _⟩
  | x :: y :: l, _ => by
    obtain ⟨z, hz, h⟩ := ex_max f (y :: l) (by simp)
    by_cases c : f z ≤ f x
    · refine ⟨x, List.mem_cons_self, fun u hu => ?_⟩
      rcases List.mem_cons.mp hu with rfl | hu
      · exact Int.le_refl _
      · exact Int.le_trans (h u hu) c
    · refine ⟨z, List.mem_cons_of_mem _ hz, fun u hu => ?_⟩
      rcases List.mem_cons.mp hu with rfl | hu
      · omega
      · exact h u hu
/-- each margin alone, and so all at once -/
theorem can_mar {n : Nat} {ts : List Tie} {es : List Int} {x s b c : Int} (hok : ∀ t ∈ ts, TieIx (n : Int) t) (can : Can n ts) (hx : 0 ≤ x ∧ x < n) (he : ∀ e ∈ es, 0 ≤ e ∧ e < (n : Int))
    (h : ∀ t ∈ marT es x s b, c ≤ t.2.2 - gapsG n ts (nd n t.2.1) (nd n t.1)) : Can n (ts ++ holdC (marT es x s b) c) := by
  have hd := (can_iff hok).mp can
  have close := fun (a b c : Nat) (hb : b ≤ n) => gap_close (n := n) (ts := ts) hd hb a c
  have nx := nd_le (n := n) hx.2
  have nn : nd n (-1) = n := nd_neg (by omega)
  have dn := hd n (Nat.le_refl n)
  obtain ⟨f0, hf0, hm⟩ := ex_max (fun f : Int × Int => f.2 + gapsG n ts (nd n f.1) n) (firstsOf es s) (by unfold firstsOf; simp)
  have nf : ∀ f ∈ firstsOf es s, nd n f.1 ≤ n := fun f hf => by
    rcases mem_firsts.mp hf with rfl | ⟨e, h, rfl⟩
    · exact nd_le (by show (-1 : Int) < n; omega)
    · exact nd_le (he e h).2
  have hX : ∀ f ∈ firstsOf es s, c ≤ 0 - f.2 - gapsG n ts (nd n f.1) (nd n x) := fun f hf => h _ (mem_mar.mpr ⟨(x, 0), mem_lasts.mpr (.inl rfl), f, hf, rfl⟩)
  have hB : ∀ f ∈ firstsOf es s, c ≤ b - f.2 - gapsG n ts (nd n f.1) n := fun f hf => by
    have := h _ (mem_mar.mpr ⟨(-1, b), mem_lasts.mpr (.inr rfl), f, hf, rfl⟩)
    have this : c ≤ b - f.2 - gapsG n ts (nd n f.1) (nd n (-1)) := this
    rw [nn] at this
    exact this
  have a1 := hX f0 hf0
  have a2 := hB f0 hf0
  have a3 := close (nd n f0.1) n (nd n x) (Nat.le_refl n)
  obtain ⟨T, eT⟩ : ∃ T, T = f0.2 + gapsG n ts (nd n f0.1) n := ⟨_, rfl⟩
  have hm : ∀ f ∈ firstsOf es s, f.2 + gapsG n ts (nd n f.1) n ≤ T := fun f hf => by rw [eT]; exact hm f hf
  have b1 : gapsG n ts n (nd n x) + c + T ≤ 0 := by omega
  have b2 : c - b + T ≤ 0 := by omega
  obtain ⟨φ, ef⟩ : ∃ φ : Nat → Int, ∀ i, φ i = max (gapsG n ts i n) (max (gapsG n ts i (nd n x) + c + T) (gapsG n ts i n + c - b + T)) := ⟨_, fun _ => rfl⟩
  have z : φ n = 0 := by
    rw [ef]
    omega
  refine ⟨φ, feas_app.mpr ⟨⟨z, fun a ha => ?_, fun a ha => ?_, fun u hu => ?_⟩, fun u hu => ?_⟩⟩
  · have := gap_lo (n := n) (ts := ts) a
    rw [ef]
    omega
  · have h1 := close n a n (Nat.le_of_lt ha)
    have h2 := close n a (nd n x) (Nat.le_of_lt ha)
    have h3 := gap_hi (n := n) (ts := ts) n a
    rw [ef]
    omega
  · have ok := hok u hu
    have h0 := gap_tie (n := n) hu
    have h1 := close (nd n u.1) (nd n u.2.1) n (nd_le ok.2.2.2.1)
    have h2 := close (nd n u.1) (nd n u.2.1) (nd n x) (nd_le ok.2.2.2.1)
    rw [ef, ef]
    omega
  · obtain ⟨t, ht, rfl⟩ := List.mem_map.mp hu
    obtain ⟨l, hl, f, hf, rfl⟩ := mem_mar.mp ht
    have c1 := hX f hf
    have c2 := hB f hf
    have c3 := hm f hf
    show c - (l.2 - f.2) ≤ φ (nd n l.1) - φ (nd n f.1)
    have k1 : φ (nd n f.1) ≤ T - f.2 := by
      rw [ef]
      omega
    have k2 : T + c - l.2 ≤ φ (nd n l.1) := by
      rcases mem_lasts.mp hl with rfl | rfl
      · show T + c - 0 ≤ φ (nd n x)
        have := hd _ nx
        rw [ef]
        omega
      · show T + c - b ≤ φ (nd n (-1))
        rw [nn, ef]
        omega
    omega
def IsFew (n : Nat) (ts : List Tie) (r : List Int) (x s b k : Int) : Prop := (∃ ds, Way n ts ds ∧ cntOf r ds x s b = k) ∧ ∀ ds, Way n ts ds → k ≤ cntOf r ds x s b
def IsMost (n : Nat) (ts : List Tie) (r : List Int) (x s b k : Int) : Prop := (∃ ds, Way n ts ds ∧ cntOf r ds x s b = k) ∧ ∀ ds, Way n ts ds → cntOf r ds x s b ≤ k
theorem ahead_ok {n : Nat} {r : List Int} {x : Int} (hr : RowOk (n : Int) r) : ∀ e ∈ aheadOf r x, 0 ≤ e ∧ e < (n : Int) := fun e he => hr.2 e (List.mem_of_mem_take he)
theorem fewst_all {n : Nat} {ts : List Tie} {r : List Int} {x s b v : Int} (hok : ∀ t ∈ ts, TieIx (n : Int) t) (hr : RowOk (n : Int) r) (hx : x ∈ r)
    (hv : ∀ t ∈ marT (aheadOf r x) x s b, v ≤ gapsG n ts (nd n t.1) (nd n t.2.1) + t.2.2) : ∀ ds, Way n ts ds → max 0 v ≤ cntOf r ds x s b := by
  intro ds w
  have h1 := cnt_nn r ds x s b hx hr.1.2.2
  have h2 := cnt_ge (ds := ds) (s := s) (b := b) (c := v) hx hr.1.2.2 fun t ht => Int.le_trans (hv t ht) (mar_low hok w (mar_ix (hr.2 x hx) (ahead_ok hr) t ht))
  omega
theorem fewst_can {n : Nat} {ts : List Tie} (hok : ∀ t ∈ ts, TieIx (n : Int) t) (can : Can n ts) {t : Tie} (ix : TieIx (n : Int) t) : Can n (ts ++ [(t.2.1, t.1, - gapsG n ts (nd n t.1) (nd n t.2.1))]) := by
  refine (can_one (t := (t.2.1, t.1, - gapsG n ts (nd n t.1) (nd n t.2.1))) hok ⟨ix.2.2.1, ix.2.2.2.1, ix.1, ix.2.1, trivial⟩ can).mpr ?_
  show gapsG n ts (nd n t.1) (nd n t.2.1) + - gapsG n ts (nd n t.1) (nd n t.2.1) ≤ 0
  omega
theorem fewst_way {n : Nat} {ts : List Tie} {r : List Int} {x s b : Int} {t : Tie} (hok : ∀ t ∈ ts, TieIx (n : Int) t) (hr : RowOk (n : Int) r) (hx : x ∈ r) (ht : t ∈ marT (aheadOf r x) x s b)
    {ds : List Int} (w : Way n (ts ++ [(t.2.1, t.1, - gapsG n ts (nd n t.1) (nd n t.2.1))]) ds) : Way n ts ds ∧ cntOf r ds x s b ≤ max 0 (gapsG n ts (nd n t.1) (nd n t.2.1) + t.2.2) := by
  have w0 : Way n ts ds := ⟨w.len, w.rg, fun u hu => w.kp u (List.mem_append_left _ hu)⟩
  refine ⟨w0, ?_⟩
  have k := w.kp _ (List.mem_append_right _ (List.mem_singleton.mpr rfl))
  unfold KeptW at k
  have k : - gapsG n ts (nd n t.1) (nd n t.2.1) ≤ dayOf ds t.2.1 - dayOf ds t.1 := k
  have := cnt_le (ds := ds) hx hr.1.2.2 ht
  unfold marOf at this
  omega
theorem mostw_all {n : Nat} {ts : List Tie} {r : List Int} {x s b : Int} {t : Tie} (hok : ∀ t ∈ ts, TieIx (n : Int) t) (hr : RowOk (n : Int) r) (hx : x ∈ r) (ht : t ∈ marT (aheadOf r x) x s b) :
    ∀ ds, Way n ts ds → cntOf r ds x s b ≤ max 0 (t.2.2 - gapsG n ts (nd n t.2.1) (nd n t.1)) := by
  intro ds w
  have h1 := cnt_le (ds := ds) hx hr.1.2.2 ht
  have h2 := mar_high hok w (mar_ix (hr.2 x hx) (ahead_ok hr) t ht)
  omega
theorem mostw_can {n : Nat} {ts : List Tie} {r : List Int} {x s b v : Int} (hok : ∀ t ∈ ts, TieIx (n : Int) t) (can : Can n ts) (hr : RowOk (n : Int) r) (hx : x ∈ r)
    (hv : ∀ t ∈ marT (aheadOf r x) x s b, v ≤ t.2.2 - gapsG n ts (nd n t.2.1) (nd n t.1)) : Can n (ts ++ holdC (marT (aheadOf r x) x s b) v) := can_mar hok can (hr.2 x hx) (ahead_ok hr) hv
theorem mostw_way {n : Nat} {ts : List Tie} {r : List Int} {x s b v : Int} (hr : RowOk (n : Int) r) (hx : x ∈ r) {ds : List Int} (w : Way n (ts ++ holdC (marT (aheadOf r x) x s b) v) ds) : Way n ts ds ∧ v ≤ cntOf r ds x s b :=
  let z := holdC_way w
  ⟨z.1, cnt_ge hx hr.1.2.2 z.2⟩
theorem can_way {n : Nat} {ts : List Tie} (hok : ∀ t ∈ ts, TieIx (n : Int) t) (c : Can n ts) : Way n ts ((List.range n).map fun i => gapsG n ts i n) := (feas_least hok ((can_iff hok).mp c)).way hok
end LH
namespace LH
open PySem PySem.Spec PyProof.Rows L2
/-- a walk over a list, within a comprehension of two fors -/
theorem walk_in {K : PySem.W.Frag} {a : Addr} {xs : List V} {B : V → Hp → (Hp → Prop) → Prop} {H0 : Hp} {Qd : Hp → Prop} (Pv : Nat → Hp → Prop) (h0 : Pv 0 H0) (hl : ∀ i H, i ≤ xs.length → Pv i H → SqL K H a xs)
    (hs : ∀ i x H, xs[i]? = some x → Pv i H → B x H (Pv (i + 1))) (hd : ∀ H, Pv xs.length H → Qd H) :
    ∃ W : Nat → Nat → Hp → Prop, (∃ m, W 0 m H0) ∧ ∀ i m H, W i m H → ((Itl K a).stop i H ∧ Qd H) ∨ ((Itl K a).go i H ∧ ∃ Nx : Hp → Prop, (∀ H', Nx H' → ∃ m', m' < m ∧ W (i + 1) m' H') ∧ ∀ x H', (Itl K a).yld i H x H' → B x H' Nx) := by
  refine ⟨fun i m H => m = xs.length - i ∧ i ≤ xs.length ∧ Pv i H, ⟨xs.length, by simp, Nat.zero_le _, h0⟩, ?_⟩
  rintro i m H ⟨rfl, hi, p⟩
  have q := hl i H hi p
  by_cases hlt : i < xs.length
  · refine .inr ⟨⟨xs, xs[i], q, by simp [hlt]⟩, Pv (i + 1), fun H' p' => ⟨xs.length - (i + 1), by omega, rfl, hlt, p'⟩, fun x H' y => ?_⟩
    obtain ⟨e, y⟩ := y
    subst e
    exact hs i x _ (y xs q) p
  · obtain rfl : i = xs.length := by omega
    exact .inl ⟨⟨xs, q, by simp⟩, hd H p⟩
end LH
namespace LH
open PySem PySem.Spec PyProof.Rows L2
/-- what is asked of a life's days: G where all is well, else the errors in their order -/
def AskW (K : PySem.W.Frag) (H : Hp) (E : XK) (m : Int) (ts : List Tie) (r : List Int) (x s : Int) (o : Option Int) (G : Prop) : Prop :=
  Ways (CountOk m) (Ways (TiesOk m ts) (Ways (Can m.toNat ts) (Ways (RowOk m r) (Ways (RunOk s o) (Ways (x ∈ r) G
    (∀ H', Same H H' → E (.ref (He.ga K "NoLife")) none H')) (∀ H', Same H H' → E (.ref (He.ga K "BadDay")) none H')) (∀ H', Same H H' → E (.ref (He.ga K "BadRow")) none H'))
    (∀ H', Same H H' → E (.ref (He.ga K "CantBe")) none H')) (E (.ref (He.ga K "BadTie")) none H)) (E (.ref (He.ga K "BadCount")) none H)
theorem AskW.imp {K : PySem.W.Frag} {H : Hp} {E : XK} {m : Int} {ts : List Tie} {r : List Int} {x s : Int} {o : Option Int} {G G' : Prop} (h : AskW K H E m ts r x s o G) (f : CountOk m → TiesOk m ts → Can m.toNat ts → RowOk m r → RunOk s o → x ∈ r → G → G') : AskW K H E m ts r x s o G' :=
  .or (fun a => .or (fun b => .or (fun c => .or (fun d => .or (fun e => .or (fun g => f a b c d e g ((((((h.1 a).1 b).1 c).1 d).1 e).1 g)) (((((h.1 a).1 b).1 c).1 d).1 e).2) ((((h.1 a).1 b).1 c).1 d).2) (((h.1 a).1 b).1 c).2) ((h.1 a).1 b).2) (h.1 a).2) h.2
theorem AskW.good {K : PySem.W.Frag} {H : Hp} {E : XK} {m : Int} {ts : List Tie} {r : List Int} {x s : Int} {o : Option Int} {G : Prop} (a : CountOk m) (b : TiesOk m ts) (c : Can m.toNat ts) (d : RowOk m r) (e : RunOk s o) (g : x ∈ r) (h : G) : AskW K H E m ts r x s o G :=
  .or (fun _ => .or (fun _ => .or (fun _ => .or (fun _ => .or (fun _ => .or (fun _ => h) fun z => absurd g z) fun z => absurd e z) fun z => absurd d z) fun z => absurd c z) fun z => absurd b z) fun z => absurd a z
end LH
namespace LH
theorem isMost_of {n : Nat} {ts : List Tie} {r : List Int} {x s b : Int} {t : Tie} (hok : ∀ t ∈ ts, TieIx (n : Int) t) (can : Can n ts) (hr : RowOk (n : Int) r) (hx : x ∈ r) (ht : t ∈ marT (aheadOf r x) x s b)
    (hv : ∀ u ∈ marT (aheadOf r x) x s b, t.2.2 - gapsG n ts (nd n t.2.1) (nd n t.1) ≤ u.2.2 - gapsG n ts (nd n u.2.1) (nd n u.1)) : IsMost n ts r x s b (max 0 (t.2.2 - gapsG n ts (nd n t.2.1) (nd n t.1))) := by
  have all := mostw_all (s := s) (b := b) hok hr hx ht
  refine ⟨?_, all⟩
  by_cases c : t.2.2 - gapsG n ts (nd n t.2.1) (nd n t.1) ≤ 0
  · have w := can_way hok can
    have h1 := all _ w
    have h2 := cnt_nn r ((List.range n).map fun i => gapsG n ts i n) x s b hx hr.1.2.2
    exact ⟨_, w, by omega⟩
  · have c2 := mostw_can hok can hr hx hv
    have w := can_way (app_ix hok (holdC_ix (mar_ix (hr.2 x hx) (ahead_ok hr)))) c2
    obtain ⟨w1, h1⟩ := mostw_way hr hx w
    have h2 := all _ w1
    exact ⟨_, w1, by omega⟩
theorem isFew_of {n : Nat} {ts : List Tie} {r : List Int} {x s b : Int} {t : Tie} (hok : ∀ t ∈ ts, TieIx (n : Int) t) (can : Can n ts) (hr : RowOk (n : Int) r) (hx : x ∈ r) (ht : t ∈ marT (aheadOf r x) x s b)
    (hv : ∀ u ∈ marT (aheadOf r x) x s b, gapsG n ts (nd n t.1) (nd n t.2.1) + t.2.2 ≤ gapsG n ts (nd n u.1) (nd n u.2.1) + u.2.2) {ds : List Int} (w : Way n (ts ++ [(t.2.1, t.1, - gapsG n ts (nd n t.1) (nd n t.2.1))]) ds) :
    Way n ts ds ∧ IsFew n ts r x s b (cntOf r ds x s b) ∧ cntOf r ds x s b = max 0 (gapsG n ts (nd n t.1) (nd n t.2.1) + t.2.2) := by
  have all := fewst_all (s := s) (b := b) hok hr hx hv
  obtain ⟨w1, h1⟩ := fewst_way hok hr hx ht w
  have h2 := all _ w1
  have e : cntOf r ds x s b = max 0 (gapsG n ts (nd n t.1) (nd n t.2.1) + t.2.2) := by omega
  exact ⟨w1, ⟨⟨_, w1, rfl⟩, fun es we => by rw [e]; exact all es we⟩, e⟩
theorem swap_ixH {m : Int} {t : Tie} {v : Int} (ix : TieIx m t) : TieIx m (t.2.1, t.1, v) := ⟨ix.2.2.1, ix.2.2.2.1, ix.1, ix.2.1, trivial⟩
end LH

set_option Elab.async false
set_option linter.all false
set_option maxRecDepth 100000
set_option maxHeartbeats 4000000
/-! days counted from the end -/
namespace LH
open PySem PySem.Spec PyProof.Rows L2
def turnT (t : Tie) : Tie := if 0 ≤ t.1 ∧ 0 ≤ t.2.1 then (t.2.1, t.1, t.2.2) else if 0 ≤ t.1 then (-1, t.1, t.2.2 - 9999) else (t.2.1, -1, 9999 + t.2.2)
def revF (n : Nat) (φ : Nat → Int) (i : Nat) : Int := if i = n then 0 else 9999 - φ i
theorem turn_ix {n : Nat} {t : Tie} (h : TieOk (n : Int) t) (h1 : 1 ≤ n) : TieIx (n : Int) (turnT t) := by
  obtain ⟨a, b, c, d, _⟩ := h
  unfold turnT
  split
  · exact ⟨c, d, a, b, trivial⟩
  · split
    · exact ⟨by show (-1 : Int) ≤ -1; decide, by show (-1 : Int) < n; omega, a, b, trivial⟩
    · exact ⟨c, d, by show (-1 : Int) ≤ -1; decide, by show (-1 : Int) < n; omega, trivial⟩
theorem rev_at {n : Nat} {φ : Nat → Int} {o : Int} (h2 : o < n) : revF n φ (nd n o) = if o < 0 then 0 else 9999 - φ o.toNat := by
  unfold revF nd
  by_cases h : o < 0
  · rw [if_pos h, if_pos rfl, if_pos h]
  · rw [if_neg h, if_neg (by omega), if_neg h]
theorem val_at {n : Nat} {φ : Nat → Int} {o : Int} (hz : φ n = 0) : φ (nd n o) = if o < 0 then 0 else φ o.toNat := by
  unfold nd
  by_cases h : o < 0
  · rw [if_pos h, if_pos h, hz]
  · rw [if_neg h, if_neg h]
theorem turn_ke {n : Nat} {t : Tie} {φ : Nat → Int} (ok : TieOk (n : Int) t) (hz : φ n = 0) : ((turnT t).2.2 ≤ φ (nd n (turnT t).1) - φ (nd n (turnT t).2.1)) ↔ t.2.2 ≤ revF n φ (nd n t.1) - revF n φ (nd n t.2.1) := by
  obtain ⟨a, b, c, d, e, _⟩ := ok
  rw [rev_at b, rev_at d, val_at hz, val_at hz]
  unfold turnT
  split
  · dsimp only
    rw [if_neg (by omega), if_neg (by omega), if_neg (by omega), if_neg (by omega)]
    omega
  · split
    · dsimp only
      rw [if_pos (by decide), if_neg (by omega), if_neg (by omega), if_pos (by omega)]
      omega
    · dsimp only
      rw [if_neg (by omega), if_pos (by decide), if_pos (by omega), if_neg (by omega)]
      omega
theorem feas_rev {n : Nat} {ts : List Tie} {ψ : Nat → Int} (hok : ∀ t ∈ ts, TieOk (n : Int) t) (f : Feas n (ts.map turnT) ψ) : Feas n ts (revF n ψ) := by
  refine ⟨if_pos rfl, fun i hi => ?_, fun i hi => ?_, fun t ht => (turn_ke (hok t ht) f.z).mp (f.ke _ (List.mem_map.mpr ⟨t, ht, rfl⟩))⟩
  · unfold revF
    rw [if_neg (by omega)]
    have := f.hi i hi
    omega
  · unfold revF
    rw [if_neg (by omega)]
    have := f.lo i hi
    omega
theorem rev_rev {n : Nat} {φ : Nat → Int} (hz : φ n = 0) : revF n (revF n φ) = φ := by
  funext i
  unfold revF
  by_cases h : i = n
  · rw [if_pos h, h, hz]
  · rw [if_neg h, if_neg h]
    omega
theorem feas_turn {n : Nat} {ts : List Tie} {φ : Nat → Int} (hok : ∀ t ∈ ts, TieOk (n : Int) t) (f : Feas n ts φ) : Feas n (ts.map turnT) (revF n φ) := by
  refine ⟨if_pos rfl, fun i hi => ?_, fun i hi => ?_, fun u hu => ?_⟩
  · unfold revF
    rw [if_neg (by omega)]
    have := f.hi i hi
    omega
  · unfold revF
    rw [if_neg (by omega)]
    have := f.lo i hi
    omega
  · obtain ⟨t, ht, rfl⟩ := List.mem_map.mp hu
    refine (turn_ke (hok t ht) (if_pos rfl)).mpr ?_
    rw [rev_rev f.z]
    exact f.ke t ht
theorem late_is {n : Nat} {ts : List Tie} {ds : List Int} (n1 : 1 ≤ n) (hok : ∀ t ∈ ts, TieOk (n : Int) t) (w : Way n (ts.map turnT) ds) (l : ∀ φ, Feas n (ts.map turnT) φ → ∀ i, i < n → ds.getD i 0 ≤ φ i) : (ds.map fun d => 9999 - d) = (List.range n).map fun i => - gapsG n ts n i := by
  have ixT : ∀ t ∈ ts.map turnT, TieIx (n : Int) t := fun t ht => by
    obtain ⟨u, hu, rfl⟩ := List.mem_map.mp ht
    exact turn_ix (hok u hu) n1
  have ix : ∀ t ∈ ts, TieIx (n : Int) t := fun t ht => (hok t ht).ix
  have f := w.feas ixT
  have fr := feas_rev hok f
  have d := (can_iff ix).mp ⟨_, fr⟩
  apply List.ext_getElem?
  intro k
  rcases Nat.lt_or_ge k n with hk | hk
  · rw [List.getElem?_map, List.getElem?_map, List.getElem?_range hk, List.getElem?_eq_getElem (by rw [w.len]; exact hk)]
    show some (9999 - ds[k]'(by rw [w.len]; exact hk)) = some (- gapsG n ts n k)
    have ed : ds.getD k 0 = ds[k]'(by rw [w.len]; exact hk) := by
      rw [List.getD_eq_getElem?_getD, List.getElem?_eq_getElem (by rw [w.len]; exact hk)]
      rfl
    obtain ⟨⟨φ, g1, g2⟩, g3⟩ := greatest ix d hk
    have a := g3 _ fr
    have b := l _ (feas_turn hok g1) k hk
    unfold revF wayF at a
    unfold revF at b
    rw [if_neg (by omega), if_neg (by omega)] at a
    rw [if_neg (by omega)] at b
    congr 1
    omega
  · rw [List.getElem?_eq_none (by rw [List.length_map, w.len]; exact hk), List.getElem?_eq_none (by simpa using hk)]
theorem can_turn {n : Nat} {ts : List Tie} (hok : ∀ t ∈ ts, TieOk (n : Int) t) (c : Can n ts) : Can n (ts.map turnT) := by
  obtain ⟨φ, f⟩ := c
  exact ⟨_, feas_turn hok f⟩
theorem least_way {n : Nat} {ts : List Tie} (ix : ∀ t ∈ ts, TieIx (n : Int) t) (c : Can n ts) : Way n ts ((List.range n).map fun i => gapsG n ts i n) := (feas_least ix ((can_iff ix).mp c)).way ix
theorem most_way {n : Nat} {ts : List Tie} (ix : ∀ t ∈ ts, TieIx (n : Int) t) (c : Can n ts) : Way n ts ((List.range n).map fun i => - gapsG n ts n i) := by
  have d := (can_iff ix).mp c
  obtain ⟨φ, f⟩ := c
  refine Feas.way ix ⟨by rw [d n (Nat.le_refl n)]; rfl, fun i hi => ?_, fun i hi => ?_, fun t ht => ?_⟩
  · have := gap_le f (Nat.le_refl n) (Nat.le_of_lt hi)
    have := f.lo i hi
    have := f.z
    omega
  · have := gap_hi (n := n) (ts := ts) n i
    omega
  · have ok := ix t ht
    have := gap_tie (n := n) ht
    have := gap_close d (nd_le ok.2.1) n (nd n t.2.1)
    omega
theorem day_between {n : Nat} {ts : List Tie} {ds : List Int} (ix : ∀ t ∈ ts, TieIx (n : Int) t) (w : Way n ts ds) {i : Nat} (hi : i < n) : gapsG n ts i n ≤ ds.getD i 0 ∧ ds.getD i 0 ≤ - gapsG n ts n i := by
  have f := w.feas ix
  have a := gap_le f (Nat.le_of_lt hi) (Nat.le_refl n)
  have b := gap_le f (Nat.le_refl n) (Nat.le_of_lt hi)
  have e1 : wayF n ds i = ds.getD i 0 := if_neg (by omega)
  have e2 : wayF n ds n = 0 := if_pos rfl
  omega
end LH

set_option Elab.async false
set_option linter.all false
set_option maxRecDepth 100000
set_option maxHeartbeats 4000000
/-! on which days a life holds: in one way, in some way, in all ways -/
namespace LH
def hereT (r ds : List Int) (x s b : Int) : Int := (turnsS (aheadOf r x) ds s b).2
def spanIn (r ds : List Int) (x s b : Int) : Option (Int × Int) := if hereT r ds x s b < min (dayOf ds x) b then some (hereT r ds x s b, min (dayOf ds x) b) else none
def IsMaxL (l : List Int) (m : Int) : Prop := m ∈ l ∧ ∀ y ∈ l, y ≤ m
def IsMinL (l : List Int) (m : Int) : Prop := m ∈ l ∧ ∀ y ∈ l, m ≤ y
def topL (ds es : List Int) (s : Int) : List Int := s :: es.map (dayOf ds)
theorem ex_maxL {l : List Int} (h : l ≠ []) : ∃ m, IsMaxL l m := by
  obtain ⟨x, hx, h⟩ := ex_max (fun x : Int => x) l h
  exact ⟨x, hx, h⟩
theorem here_top {r ds : List Int} {x s b f : Int} (sb : s ≤ b) (h : IsMaxL (topL ds (aheadOf r x) s) f) : hereT r ds x s b = min f b := by
  obtain ⟨h1, h2⟩ := h
  have g := turnsS_ge ds s b (aheadOf r x)
  have sn := turns_seen (ds := ds) (s := s) (b := b) (aheadOf r x)
  have hi := here_is (ds := ds) (s := s) (b := b) (aheadOf r x)
  unfold hereT
  have fs := h2 s List.mem_cons_self
  have fe : ∀ e ∈ aheadOf r x, dayOf ds e ≤ f := fun e he => h2 _ (List.mem_cons_of_mem _ (List.mem_map.mpr ⟨e, he, rfl⟩))
  generalize (turnsS (aheadOf r x) ds s b).2 = T at *
  have up : T ≤ min f b := by
    rcases hi with h | ⟨e, he, h⟩
    · omega
    · have := fe e he
      omega
  have lo : min f b ≤ T := by
    rcases List.mem_cons.mp h1 with h | h
    · omega
    · obtain ⟨e, he, rfl⟩ := List.mem_map.mp h
      exact sn e he
  omega
theorem span_top {r ds : List Int} {x s b f : Int} (sb : s ≤ b) (h : IsMaxL (topL ds (aheadOf r x) s) f) : spanIn r ds x s b = if f < min (dayOf ds x) b then some (f, min (dayOf ds x) b) else none := by
  unfold spanIn
  rw [here_top sb h]
  by_cases c : f < min (dayOf ds x) b
  · rw [if_pos (by omega), if_pos c, show min f b = f by omega]
  · rw [if_neg (by omega), if_neg c]
theorem topL_ne (ds es : List Int) (s : Int) : topL ds es s ≠ [] := by unfold topL; simp
theorem top_mono {ds ds' es : List Int} {s f f' : Int} (h : ∀ e ∈ es, dayOf ds e ≤ dayOf ds' e) (h1 : IsMaxL (topL ds es s) f) (h2 : IsMaxL (topL ds' es s) f') : f ≤ f' := by
  rcases List.mem_cons.mp h1.1 with e | e
  · rw [e]
    exact h2.2 s List.mem_cons_self
  · obtain ⟨y, he, rfl⟩ := List.mem_map.mp e
    exact Int.le_trans (h y he) (h2.2 _ (List.mem_cons_of_mem _ (List.mem_map.mpr ⟨y, he, rfl⟩)))
/-- a life holds on a day just where all margins are one at least -/
theorem span_cnt {r ds : List Int} {x s b : Int} (hx : x ∈ r) (nd : r.Nodup) : spanIn r ds x s b = none ↔ cntOf r ds x s b = 0 := by
  rw [cnt_eq hx nd]
  unfold spanIn hereT
  constructor
  · intro h
    split at h
    · cases h
    · omega
  · intro h
    exact if_neg (by omega)
theorem cnt_span {r ds : List Int} {x s b : Int} (hx : x ∈ r) (nd : r.Nodup) : cntOf r ds x s b = match spanIn r ds x s b with | none => 0 | some p => p.2 - p.1 := by
  rw [cnt_eq hx nd]
  unfold spanIn hereT
  by_cases c : (turnsS (aheadOf r x) ds s b).2 < min (dayOf ds x) b
  · rw [if_pos c]
    show _ = min (dayOf ds x) b - (turnsS (aheadOf r x) ds s b).2
    omega
  · rw [if_neg c]
    show _ = (0 : Int)
    omega
theorem mar_of_hold {r ds : List Int} {x s b : Int} (hx : x ∈ r) (nd : r.Nodup) (h : spanIn r ds x s b ≠ none) : ∀ t ∈ marT (aheadOf r x) x s b, 1 ≤ marOf ds t := by
  intro t ht
  have h1 := cnt_le (ds := ds) hx nd ht
  have h2 := cnt_nn r ds x s b hx nd
  have h3 : cntOf r ds x s b ≠ 0 := fun z => h ((span_cnt hx nd).mpr z)
  omega
def IsDays (n : Nat) (ts : List Tie) (r : List Int) (x s b : Int) : Option (Int × Int) → Prop
  | none => ∀ ds, Way n ts ds → spanIn r ds x s b = none
  | some p => (∃ ds u, Way n ts ds ∧ spanIn r ds x s b = some (p.1, u)) ∧ (∃ ds f, Way n ts ds ∧ spanIn r ds x s b = some (f, p.2)) ∧ ∀ ds q, Way n ts ds → spanIn r ds x s b = some q → p.1 ≤ q.1 ∧ q.2 ≤ p.2
def IsSure (n : Nat) (ts : List Tie) (r : List Int) (x s b : Int) : Option (Int × Int) → Prop
  | none => (∃ ds, Way n ts ds ∧ spanIn r ds x s b = none) ∨ ∃ ds es p q, Way n ts ds ∧ Way n ts es ∧ spanIn r ds x s b = some p ∧ spanIn r es x s b = some q ∧ q.2 ≤ p.1
  | some p => (∀ ds, Way n ts ds → ∃ q, spanIn r ds x s b = some q ∧ q.1 ≤ p.1 ∧ p.2 ≤ q.2) ∧ (∃ ds u, Way n ts ds ∧ spanIn r ds x s b = some (p.1, u)) ∧ (∃ ds f, Way n ts ds ∧ spanIn r ds x s b = some (f, p.2)) ∧ p.1 < p.2
def earlyL (n : Nat) (ts : List Tie) : List Int := (List.range n).map fun i => gapsG n ts i n
def lateL (n : Nat) (ts : List Tie) : List Int := (List.range n).map fun i => - gapsG n ts n i
theorem early_day {n : Nat} {ts : List Tie} {o : Int} (h0 : 0 ≤ o) (h : o < n) : dayOf (earlyL n ts) o = gapsG n ts o.toNat n := by
  unfold dayOf earlyL
  rw [if_neg (by omega), List.getD_eq_getElem?_getD, List.getElem?_map, List.getElem?_range (by omega)]
  rfl
theorem late_day {n : Nat} {ts : List Tie} {o : Int} (h0 : 0 ≤ o) (h : o < n) : dayOf (lateL n ts) o = - gapsG n ts n o.toNat := by
  unfold dayOf lateL
  rw [if_neg (by omega), List.getD_eq_getElem?_getD, List.getElem?_map, List.getElem?_range (by omega)]
  rfl
theorem day_in {n : Nat} {ts : List Tie} {ds : List Int} (ix : ∀ t ∈ ts, TieIx (n : Int) t) (w : Way n ts ds) {o : Int} (h0 : 0 ≤ o) (h : o < n) : dayOf (earlyL n ts) o ≤ dayOf ds o ∧ dayOf ds o ≤ dayOf (lateL n ts) o := by
  rw [early_day h0 h, late_day h0 h]
  have := day_between ix w (i := o.toNat) (by omega)
  unfold dayOf
  rw [if_neg (by omega)]
  exact this
section
variable {n : Nat} {ts : List Tie} {r : List Int} {x s b f u : Int}
theorem days_none (hr : RowOk (n : Int) r) (hx : x ∈ r) (hok : ∀ t ∈ ts, TieIx (n : Int) t) (no : ¬ Can n (ts ++ holdC (marT (aheadOf r x) x s b) 1)) : IsDays n ts r x s b none := by
  intro ds w
  refine Classical.byContradiction fun h => no ?_
  have w2 := way_holdC w (mar_of_hold hx hr.1.2.2 h)
  exact ⟨_, w2.feas (app_ix hok (holdC_ix (mar_ix (hr.2 x hx) (ahead_ok hr))))⟩
theorem days_some (hr : RowOk (n : Int) r) (hx : x ∈ r) (sb : s ≤ b) (hok : ∀ t ∈ ts, TieIx (n : Int) t) (can : Can n (ts ++ holdC (marT (aheadOf r x) x s b) 1))
    (hf : IsMaxL (topL (earlyL n (ts ++ holdC (marT (aheadOf r x) x s b) 1)) (aheadOf r x) s) f) (hu : IsMinL [dayOf (lateL n (ts ++ holdC (marT (aheadOf r x) x s b) 1)) x, b] u) : f < u ∧ IsDays n ts r x s b (some (f, u)) := by
  have hok2 := app_ix hok (holdC_ix (c := 1) (mar_ix (s := s) (b := b) (hr.2 x hx) (ahead_ok hr (x := x))))
  have we := can_way hok2 can
  have wl := most_way hok2 can
  generalize ets : ts ++ holdC (marT (aheadOf r x) x s b) 1 = ts2 at *
  have h0x := hr.2 x hx
  have eu : u = min (dayOf (lateL n ts2) x) b := by
    obtain ⟨u1, u2⟩ := hu
    have a1 := u2 _ List.mem_cons_self
    have a2 := u2 b (List.mem_cons_of_mem _ List.mem_cons_self)
    simp only [List.mem_cons, List.not_mem_nil, or_false] at u1
    omega
  have holds : ∀ ds, Way n ts2 ds → Way n ts ds ∧ spanIn r ds x s b ≠ none := fun ds w => by
    rw [← ets] at w
    obtain ⟨w1, h1⟩ := holdC_way w
    refine ⟨w1, fun z => ?_⟩
    have := cnt_ge hx hr.1.2.2 h1
    have := (span_cnt hx hr.1.2.2).mp z
    omega
  have se := span_top (b := b) (x := x) sb hf
  obtain ⟨we1, ne⟩ := holds (earlyL n ts2) we
  have c1 : f < min (dayOf (earlyL n ts2) x) b := Classical.byContradiction fun z => ne (by rw [se, if_neg z])
  rw [if_pos c1] at se
  obtain ⟨fl, hfl⟩ := ex_maxL (topL_ne (lateL n ts2) (aheadOf r x) s)
  have sl := span_top (b := b) (x := x) sb hfl
  obtain ⟨wl1, nl⟩ := holds (lateL n ts2) wl
  have c2 : fl < min (dayOf (lateL n ts2) x) b := Classical.byContradiction fun z => nl (by rw [sl, if_neg z])
  rw [if_pos c2, ← eu] at sl
  have bt := fun ds (w : Way n ts2 ds) (o : Int) h0 h => day_in hok2 w (o := o) h0 h
  refine ⟨?_, ⟨_, _, we1, se⟩, ⟨_, _, wl1, sl⟩, fun ds q w e => ?_⟩
  · have := (bt _ we x h0x.1 h0x.2).2
    have this : dayOf (earlyL n ts2) x ≤ dayOf (lateL n ts2) x := this
    omega
  · have w2 : Way n ts2 ds := by
      rw [← ets]
      exact way_holdC w (mar_of_hold hx hr.1.2.2 (by rw [e]; simp))
    obtain ⟨fd, hfd⟩ := ex_maxL (topL_ne ds (aheadOf r x) s)
    rw [span_top (b := b) (x := x) sb hfd] at e
    split at e
    · cases e
      have b1 := top_mono (fun e he => (bt ds w2 e (ahead_ok hr e he).1 (ahead_ok hr e he).2).1) hf hfd
      have b2 := (bt ds w2 x h0x.1 h0x.2).2
      exact ⟨b1, by show min (dayOf ds x) b ≤ u; omega⟩
    · cases e
theorem sure_is (hr : RowOk (n : Int) r) (hx : x ∈ r) (sb : s ≤ b) (hok : ∀ t ∈ ts, TieIx (n : Int) t) (can : Can n ts)
    (hf : IsMaxL (topL (lateL n ts) (aheadOf r x) s) f) (hu : IsMinL [dayOf (earlyL n ts) x, b] u) : IsSure n ts r x s b (if f < u then some (f, u) else none) := by
  have we := can_way hok can
  have wl := most_way hok can
  have h0x := hr.2 x hx
  have eu : u = min (dayOf (earlyL n ts) x) b := by
    obtain ⟨u1, u2⟩ := hu
    have a1 := u2 _ List.mem_cons_self
    have a2 := u2 b (List.mem_cons_of_mem _ List.mem_cons_self)
    simp only [List.mem_cons, List.not_mem_nil, or_false] at u1
    omega
  have sl := span_top (b := b) (x := x) sb hf
  obtain ⟨fe, hfe⟩ := ex_maxL (topL_ne (earlyL n ts) (aheadOf r x) s)
  have se := span_top (b := b) (x := x) sb hfe
  rw [← eu] at se
  have bt := fun ds (w : Way n ts ds) (o : Int) h0 h => day_in hok w (o := o) h0 h
  have ffe : fe ≤ f := top_mono (fun e he => (bt _ we e (ahead_ok hr e he).1 (ahead_ok hr e he).2).2) hfe hf
  have xle := (bt _ wl x h0x.1 h0x.2).1
  have xle : dayOf (earlyL n ts) x ≤ dayOf (lateL n ts) x := xle
  by_cases c : f < u
  · rw [if_pos c]
    rw [if_pos (show f < min (dayOf (lateL n ts) x) b by omega)] at sl
    rw [if_pos (show fe < u by omega)] at se
    refine ⟨fun ds w => ?_, ⟨_, _, wl, sl⟩, ⟨_, _, we, se⟩, c⟩
    obtain ⟨fd, hfd⟩ := ex_maxL (topL_ne ds (aheadOf r x) s)
    have b1 := top_mono (fun e he => (bt ds w e (ahead_ok hr e he).1 (ahead_ok hr e he).2).2) hfd hf
    have b2 := (bt ds w x h0x.1 h0x.2).1
    refine ⟨_, (span_top (b := b) (x := x) sb hfd).trans (if_pos (by omega)), b1, by show u ≤ min (dayOf ds x) b; omega⟩
  · rw [if_neg c]
    by_cases c1 : f < min (dayOf (lateL n ts) x) b
    · rw [if_pos c1] at sl
      by_cases c2 : fe < u
      · rw [if_pos c2] at se
        exact .inr ⟨_, _, _, _, wl, we, sl, se, Int.not_lt.mp c⟩
      · rw [if_neg c2] at se
        exact .inl ⟨_, we, se⟩
    · rw [if_neg c1] at sl
      exact .inl ⟨_, wl, sl⟩
end
end LH

set_option Elab.async false
set_option linter.all false
set_option maxRecDepth 100000
set_option maxHeartbeats 4000000
/-! the days met in each of all ways -/
namespace LH
open PySem PySem.Spec PyProof.Rows L2
theorem turns_one {r ds : List Int} {x s b : Int} (hx : x ∈ r) (nd : r.Nodup) : (((turnsOf r ds s b).filter fun t => decide (t.1 = x)).map fun t => t.2) = (spanIn r ds x s b).toList := by
  obtain ⟨q, e, h1, h2⟩ := ahead_split hx nd
  have f0 : ((turnsS (aheadOf r x) ds s b).1.filter fun t => decide (t.1 = x)) = [] := fold_no _ _ h1
  unfold turnsOf spanIn hereT
  have e2 : turnsS r ds s b = q.foldl (stepT ds b) (stepT ds b (turnsS (aheadOf r x) ds s b) x) := by
    unfold turnsS
    conv => lhs; rw [e]
    rw [List.foldl_append, List.foldl_cons]
  rw [e2, fold_no _ _ h2]
  generalize turnsS (aheadOf r x) ds s b = st at *
  unfold stepT
  by_cases c : st.2 < min (dayOf ds x) b
  · rw [if_pos c, if_pos c]
    show (List.filter _ (st.1 ++ [_])).map _ = _
    rw [List.filter_append, f0, List.filter_cons_of_pos (by simp)]
    rfl
  · rw [if_neg c, if_neg c, f0]
    rfl
abbrev OptsAt (H : Hp) : List V → List (Option (Int × Int)) → Prop := AllAt (PairOpt H)
theorem opts_mono {H H' : Hp} {vs : List V} {os : List (Option (Int × Int))} (e : Same H H') (h : OptsAt H vs os) : OptsAt H' vs os := AllAt.imp (fun _ _ => PairOpt.mono e) h
theorem opt_updL {H : Hp} {l : Addr} {o : HO} {zs : List V} (hl : H l = some (.lst zs)) {v : V} : ∀ {z : Option (Int × Int)}, PairOpt H v z → PairOpt (upd H l o) v z
  | none, h => h
  | some _, ⟨a, h1, h2⟩ => ⟨a, h1, by rw [upd_ne (ne_of h2 hl (by intro z; cases z))]; exact h2⟩
theorem opts_updL {H : Hp} {l : Addr} {o : HO} {zs : List V} (hl : H l = some (.lst zs)) {vs : List V} {os : List (Option (Int × Int))} (h : OptsAt H vs os) : OptsAt (upd H l o) vs os := AllAt.imp (fun _ _ => opt_updL hl) h
def OneN (D : Addr) (H : Hp) (v : V) (o : Option (Int × Int)) : Prop := ∃ a zs, v = .ref a ∧ a ≠ D ∧ H a = some (.lst zs) ∧ PairsAt H zs o.toList
theorem oneN_mono {D : Addr} {H H' : Hp} {vs : List V} {os : List (Option (Int × Int))} (e : Same H H') (h : AllAt (OneN D H) vs os) : AllAt (OneN D H') vs os := AllAt.imp (fun _ _ ⟨a, zs, h1, h2, h3, h4⟩ => ⟨a, zs, h1, h2, e _ _ h3, pairs_mono e h4⟩) h
theorem oneN_upd {D : Addr} {H : Hp} {o : HO} {zs : List V} (hl : H D = some (.lst zs)) {vs : List V} {os : List (Option (Int × Int))} (h : AllAt (OneN D H) vs os) : AllAt (OneN D (upd H D o)) vs os :=
  AllAt.imp (fun _ _ ⟨a, zs, h1, h2, h3, h4⟩ => ⟨a, zs, h1, h2, by rw [upd_ne h2]; exact h3, pairs_updL hl h4⟩) h
def prD (w : Int × Int) : PyData := .tuple [.int w.1, .int w.2]
def prsD (ws : List (Int × Int)) : PyData := .list (ws.map prD)
theorem dpAll_prs {K : PySem.W.Frag} {H : Hp} : ∀ {vs : List V} {ws : List (Int × Int)}, PairsAt H vs ws → DpAll K H vs (ws.map prD)
  | [], [], _ => .nil
  | _ :: _, _ :: _, h => by
    obtain ⟨⟨a, rfl, ha⟩, h2⟩ := h
    exact .cons (.tup (SqT.of ha) (.cons (.int _) (.cons (.int _) .nil))) (dpAll_prs h2)
theorem dp_prs {K : PySem.W.Frag} {H : Hp} {a : Addr} {vs : List V} {ws : List (Int × Int)} (h : SqL K H a vs) (h2 : PairsAt H vs ws) : Dp K H (.ref a) (prsD ws) := .lst h (dpAll_prs h2)
theorem shaped_prs (ws : List (Int × Int)) : SeqAt.shaped (prsD ws) = true := by
  have key : ∀ ws : List (Int × Int), PyData.canLayAll0 (ws.map prD) = true ∧ PyData.depthAll (ws.map prD) ≤ 1 := fun ws => by
    induction ws with
    | nil => exact ⟨rfl, Nat.zero_le _⟩
    | cons r ws ih =>
      have e1 : PyData.canLay0 (prD r) = true := by simp [prD, PyData.canLay0, PyData.canLayAll0]
      have e2 : PyData.depth (prD r) ≤ 1 := by simp [prD, PyData.depth, PyData.depthAll]
      constructor
      · simp only [List.map_cons, PyData.canLayAll0, ih.1, e1, Bool.and_self]
      · simp only [List.map_cons, PyData.depthAll]
        omega
  refine shaped_mk ?_ ?_
  · unfold prsD
    simp only [PyData.canLay0, (key ws).1]
  · unfold prsD
    simp only [PyData.depth]
    have := (key ws).2
    omega
theorem eqv_prs_nil (ws : List (Int × Int)) : PyData.eqv (prsD ws) (.list []) = decide (ws = []) := by
  cases ws with
  | nil => rfl
  | cons w ws => simp [prsD, PyData.eqv, PyData.eqvAll]
def optD : Option (Int × Int) → PyData
  | none => .none
  | some w => prD w
theorem dpAll_opts {K : PySem.W.Frag} {H : Hp} : ∀ {vs : List V} {os : List (Option (Int × Int))}, OptsAt H vs os → DpAll K H vs (os.map optD)
  | [], [], _ => .nil
  | _ :: _, none :: _, h => by
    obtain ⟨h1, h2⟩ := h
    cases (show _ = V.non from h1)
    exact .cons .non (dpAll_opts h2)
  | _ :: _, some _ :: _, h => by
    obtain ⟨⟨a, rfl, ha⟩, h2⟩ := h
    exact .cons (.tup (SqT.of ha) (.cons (.int _) (.cons (.int _) .nil))) (dpAll_opts h2)
theorem shaped_opts (os : List (Option (Int × Int))) : SeqAt.shaped (.list (os.map optD)) = true := by
  have key : ∀ os : List (Option (Int × Int)), PyData.canLayAll0 (os.map optD) = true ∧ PyData.depthAll (os.map optD) ≤ 1 := fun os => by
    induction os with
    | nil => exact ⟨rfl, Nat.zero_le _⟩
    | cons r os ih =>
      have e1 : PyData.canLay0 (optD r) = true := by cases r <;> simp [optD, prD, PyData.canLay0, PyData.canLayAll0]
      have e2 : PyData.depth (optD r) ≤ 1 := by cases r <;> simp [optD, prD, PyData.depth, PyData.depthAll]
      constructor
      · simp only [List.map_cons, PyData.canLayAll0, ih.1, e1, Bool.and_self]
      · simp only [List.map_cons, PyData.depthAll]
        omega
  refine shaped_mk ?_ ?_
  · simp only [PyData.canLay0, (key os).1]
  · simp only [PyData.depth]
    have := (key os).2
    omega
theorem any_none (os : List (Option (Int × Int))) : ((os.map optD).any fun z => PyData.eqv z .none) = decide (none ∈ os) := by
  induction os with
  | nil => rfl
  | cons o os ih =>
    rw [List.map_cons, List.any_cons, ih]
    cases o with
    | none => simp [optD, PyData.eqv]
    | some w => simp [optD, prD, PyData.eqv]
/-! what is told of the days met -/
def MetSpan (os : List (Option (Int × Int))) : Option (Int × Int) → Prop
  | none => ∀ o ∈ os, o = none
  | some p => (∃ u, some (p.1, u) ∈ os) ∧ (∃ f, some (f, p.2) ∈ os) ∧ ∀ q, some q ∈ os → p.1 ≤ q.1 ∧ q.2 ≤ p.2
def MetSure (os : List (Option (Int × Int))) : Option (Int × Int) → Prop
  | none => none ∈ os ∨ ∃ p q, some p ∈ os ∧ some q ∈ os ∧ q.2 ≤ p.1
  | some p => (∀ o ∈ os, ∃ q, o = some q ∧ q.1 ≤ p.1 ∧ p.2 ≤ q.2) ∧ (∃ u, some (p.1, u) ∈ os) ∧ (∃ f, some (f, p.2) ∈ os) ∧ p.1 < p.2
theorem MetSpan.uniq {os : List (Option (Int × Int))} : ∀ {z z' : Option (Int × Int)}, MetSpan os z → MetSpan os z' → z = z'
  | none, none, _, _ => rfl
  | none, some _, h, ⟨⟨_, h1⟩, _⟩ => by cases h _ h1
  | some _, none, ⟨⟨_, h1⟩, _⟩, h => by cases h _ h1
  | some (a, b), some (c, d), ⟨⟨u, h1⟩, ⟨f, h2⟩, h3⟩, ⟨⟨u', g1⟩, ⟨f', g2⟩, g3⟩ => by
    have a1 : c ≤ a := (g3 _ h1).1
    have a2 : b ≤ d := (g3 _ h2).2
    have a3 : a ≤ c := (h3 _ g1).1
    have a4 : d ≤ b := (h3 _ g2).2
    rw [show a = c by omega, show b = d by omega]
theorem MetSure.uniq {os : List (Option (Int × Int))} : ∀ {z z' : Option (Int × Int)}, MetSure os z → MetSure os z' → z = z'
  | none, none, _, _ => rfl
  | none, some (a, b), h, ⟨h1, _, _, h4⟩ => by
    rcases h with h | ⟨p, q, hp, hq, hle⟩
    · obtain ⟨q, e, _⟩ := h1 _ h
      cases e
    · obtain ⟨_, e, x1, _⟩ := h1 _ hp
      cases e
      obtain ⟨_, e, _, x2⟩ := h1 _ hq
      cases e
      have h4 : a < b := h4
      have x1 : p.1 ≤ a := x1
      have x2 : b ≤ q.2 := x2
      omega
  | some (a, b), none, ⟨h1, _, _, h4⟩, h => by
    rcases h with h | ⟨p, q, hp, hq, hle⟩
    · obtain ⟨q, e, _⟩ := h1 _ h
      cases e
    · obtain ⟨_, e, x1, _⟩ := h1 _ hp
      cases e
      obtain ⟨_, e, _, x2⟩ := h1 _ hq
      cases e
      have h4 : a < b := h4
      have x1 : p.1 ≤ a := x1
      have x2 : b ≤ q.2 := x2
      omega
  | some (a, b), some (c, d), ⟨h0, ⟨u, h1⟩, ⟨f, h2⟩, h3⟩, ⟨g0, ⟨u', g1⟩, ⟨f', g2⟩, g3⟩ => by
    obtain ⟨_, e, a1, _⟩ := g0 _ h1
    cases e
    obtain ⟨_, e, _, a2⟩ := g0 _ h2
    cases e
    obtain ⟨_, e, a3, _⟩ := h0 _ g1
    cases e
    obtain ⟨_, e, _, a4⟩ := h0 _ g2
    cases e
    have a1 : a ≤ c := a1
    have a2 : d ≤ b := a2
    have a3 : c ≤ a := a3
    have a4 : b ≤ d := a4
    rw [show a = c by omega, show b = d by omega]
section
variable {n : Nat} {ts : List Tie} {r : List Int} {x s b : Int} {W : List (List Int)}
theorem met_days (hW : ∀ ds, ds ∈ W ↔ Way n ts ds) : ∀ {z : Option (Int × Int)}, IsDays n ts r x s b z → MetSpan (W.map fun ds => spanIn r ds x s b) z
  | none, h => fun o ho => by
    obtain ⟨ds, hd, rfl⟩ := List.mem_map.mp ho
    exact h ds ((hW ds).mp hd)
  | some p, ⟨⟨d1, u, w1, e1⟩, ⟨d2, f, w2, e2⟩, h⟩ => ⟨⟨u, List.mem_map.mpr ⟨d1, (hW d1).mpr w1, e1⟩⟩, ⟨f, List.mem_map.mpr ⟨d2, (hW d2).mpr w2, e2⟩⟩, fun q hq => by
    obtain ⟨ds, hd, e⟩ := List.mem_map.mp hq
    exact h ds q ((hW ds).mp hd) e⟩
theorem met_surely (hW : ∀ ds, ds ∈ W ↔ Way n ts ds) : ∀ {z : Option (Int × Int)}, IsSure n ts r x s b z → MetSure (W.map fun ds => spanIn r ds x s b) z
  | none, h => by
    rcases h with ⟨ds, w, e⟩ | ⟨ds, es, p, q, w1, w2, e1, e2, hle⟩
    · exact .inl (List.mem_map.mpr ⟨ds, (hW ds).mpr w, e⟩)
    · exact .inr ⟨p, q, List.mem_map.mpr ⟨ds, (hW ds).mpr w1, e1⟩, List.mem_map.mpr ⟨es, (hW es).mpr w2, e2⟩, hle⟩
  | some p, ⟨h, ⟨d1, u, w1, e1⟩, ⟨d2, f, w2, e2⟩, hlt⟩ => ⟨fun o ho => by
    obtain ⟨ds, hd, rfl⟩ := List.mem_map.mp ho
    exact h ds ((hW ds).mp hd), ⟨u, List.mem_map.mpr ⟨d1, (hW d1).mpr w1, e1⟩⟩, ⟨f, List.mem_map.mpr ⟨d2, (hW d2).mpr w2, e2⟩⟩, hlt⟩
theorem met_few (hW : ∀ ds, ds ∈ W ↔ Way n ts ds) {k m : Int} (h : IsFew n ts r x s b k) (h1 : m ∈ W.map fun ds => cntOf r ds x s b) (h2 : ∀ y ∈ W.map fun ds => cntOf r ds x s b, m ≤ y) : k = m := by
  obtain ⟨⟨ds, w, e⟩, h⟩ := h
  obtain ⟨es, hs, e2⟩ := List.mem_map.mp h1
  have a := h es ((hW es).mp hs)
  have c := h2 _ (List.mem_map.mpr ⟨ds, (hW ds).mpr w, rfl⟩)
  have e2 : cntOf r es x s b = m := e2
  have c : m ≤ cntOf r ds x s b := c
  omega
theorem met_most (hW : ∀ ds, ds ∈ W ↔ Way n ts ds) {k m : Int} (h : IsMost n ts r x s b k) (h1 : m ∈ W.map fun ds => cntOf r ds x s b) (h2 : ∀ y ∈ W.map fun ds => cntOf r ds x s b, y ≤ m) : k = m := by
  obtain ⟨⟨ds, w, e⟩, h⟩ := h
  obtain ⟨es, hs, e2⟩ := List.mem_map.mp h1
  have a := h es ((hW es).mp hs)
  have c := h2 _ (List.mem_map.mpr ⟨ds, (hW ds).mpr w, rfl⟩)
  have e2 : cntOf r es x s b = m := e2
  have c : cntOf r ds x s b ≤ m := c
  omega
end
/-- the days met, without those that are none -/
def somes (os : List (Option (Int × Int))) : List (Int × Int) := os.filterMap id
theorem mem_somes {os : List (Option (Int × Int))} {p : Int × Int} : p ∈ somes os ↔ some p ∈ os := by
  unfold somes
  rw [List.mem_filterMap]
  constructor
  · rintro ⟨o, h, e⟩
    have e : o = some p := e
    rw [← e]
    exact h
  · intro h
    exact ⟨_, h, rfl⟩
theorem somes_take {os : List (Option (Int × Int))} {i : Nat} {o : Option (Int × Int)} (h : os[i]? = some o) : somes (os.take (i + 1)) = somes (os.take i) ++ o.toList := by
  unfold somes
  rw [List.take_succ, h, List.filterMap_append]
  cases o <;> rfl
theorem somes_len (os : List (Option (Int × Int))) : (somes os).length ≤ os.length := List.length_filterMap_le _ _
theorem somes_nil {os : List (Option (Int × Int))} (h : somes os = []) : MetSpan os none := fun o ho => by
  cases o with
  | none => rfl
  | some p =>
    have := mem_somes.mpr ho
    rw [h] at this
    cases this
theorem somes_span {os : List (Option (Int × Int))} {f u : Int} (h1 : IsMinL ((somes os).map fun p => p.1) f) (h2 : IsMaxL ((somes os).map fun p => p.2) u) : MetSpan os (some (f, u)) := by
  obtain ⟨p, hp, e1⟩ := List.mem_map.mp h1.1
  obtain ⟨q, hq, e2⟩ := List.mem_map.mp h2.1
  refine ⟨⟨p.2, ?_⟩, ⟨q.1, ?_⟩, fun y hy => ⟨h1.2 _ (List.mem_map.mpr ⟨y, mem_somes.mpr hy, rfl⟩), h2.2 _ (List.mem_map.mpr ⟨y, mem_somes.mpr hy, rfl⟩)⟩⟩
  · show some (f, p.2) ∈ os
    rw [← e1]
    exact mem_somes.mp hp
  · show some (q.1, u) ∈ os
    rw [← e2]
    exact mem_somes.mp hq
theorem somes_all {os : List (Option (Int × Int))} : (somes os).length = os.length ↔ none ∉ os := by
  unfold somes
  induction os with
  | nil => simp
  | cons o os ih =>
    cases o with
    | none =>
      have := List.length_filterMap_le id os
      simp
      omega
    | some p => simp [ih]
theorem somes_sure {os : List (Option (Int × Int))} {f u : Int} (hn : none ∉ os) (h1 : IsMaxL ((somes os).map fun p => p.1) f) (h2 : IsMinL ((somes os).map fun p => p.2) u) : MetSure os (if f < u then some (f, u) else none) := by
  obtain ⟨p, hp, e1⟩ := List.mem_map.mp h1.1
  obtain ⟨q, hq, e2⟩ := List.mem_map.mp h2.1
  have hp := mem_somes.mp hp
  have hq := mem_somes.mp hq
  have e1 : p.1 = f := e1
  have e2 : q.2 = u := e2
  by_cases c : f < u
  · rw [if_pos c]
    refine ⟨fun o ho => ?_, ⟨p.2, ?_⟩, ⟨q.1, ?_⟩, c⟩
    · cases o with
      | none => exact absurd ho hn
      | some y => exact ⟨y, rfl, h1.2 _ (List.mem_map.mpr ⟨y, mem_somes.mpr ho, rfl⟩), h2.2 _ (List.mem_map.mpr ⟨y, mem_somes.mpr ho, rfl⟩)⟩
    · show some (f, p.2) ∈ os
      rw [← e1]
      exact hp
    · show some (q.1, u) ∈ os
      rw [← e2]
      exact hq
  · rw [if_neg c]
    exact .inr ⟨p, q, hp, hq, by omega⟩
theorem somes_id {os : List (Option (Int × Int))} (hn : none ∉ os) : os = (somes os).map some := by
  unfold somes
  induction os with
  | nil => rfl
  | cons o os ih =>
    cases o with
    | none => exact absurd List.mem_cons_self hn
    | some p =>
      have := ih fun z => hn (List.mem_cons_of_mem _ z)
      simp
      exact this
theorem opts_pairs {H : Hp} : ∀ {vs : List V} {ws : List (Int × Int)}, OptsAt H vs (ws.map some) → PairsAt H vs ws
  | [], [], _ => trivial
  | _ :: _, _ :: _, h => ⟨h.1, opts_pairs h.2⟩
end LH
namespace LH
open PySem PySem.Spec PyProof.Rows L2
theorem ties_all {H : Hp} : ∀ {vs : List V} {ts : List Tie}, TiesAt H vs ts → AllAt (TieAt H) vs ts
  | [], [], _ => trivial
  | _ :: _, _ :: _, h => ⟨h.1, ties_all h.2⟩
def ownF (x : Int) (t : Tie) : Option (Int × Int) := if t.1 = x then some t.2 else none
theorem ownF_is {r ds : List Int} {x s b : Int} (hx : x ∈ r) (nd : r.Nodup) : (turnsOf r ds s b).filterMap (ownF x) = (spanIn r ds x s b).toList := by
  rw [← turns_one hx nd]
  generalize turnsOf r ds s b = us
  induction us with
  | nil => rfl
  | cons u us ih =>
    unfold ownF at *
    by_cases c : u.1 = x
    · simp [c, ih]
    · simp [c, ih]
end LH
namespace LH
open PySem PySem.Spec PyProof.Rows L2
theorem any_row {W : List (List Int)} {d : List Int} (h : d ∈ W) : ((W.map intsD).any fun z => PyData.eqv z (intsD d)) = true := List.any_eq_true.mpr ⟨intsD d, List.mem_map.mpr ⟨d, h, rfl⟩, eqv_self (shaped_ints d)⟩
theorem spanIn_some {r ds : List Int} {x s b : Int} {p : Int × Int} (h : spanIn r ds x s b = some p) : s ≤ p.1 ∧ p.1 < p.2 ∧ p.2 ≤ b := by
  have g := turnsS_ge ds s b (aheadOf r x)
  unfold spanIn hereT at h
  split at h
  · cases h
    refine ⟨g, by assumption, ?_⟩
    show min (dayOf ds x) b ≤ b
    omega
  · cases h
section
variable {n : Nat} {ts : List Tie} {r : List Int} {x s : Int} {o : Option Int}
theorem days_ok (run : RunOk s o) {z : Option (Int × Int)} (h : IsDays n ts r x s (belowOf o) z) : ∀ p, z = some p → SpanOk p := by
  rintro p rfl
  obtain ⟨⟨ds, u, w, e⟩, ⟨es, f, w2, e2⟩, h⟩ := h
  have h1 := spanIn_some e
  have h2 := spanIn_some e2
  have h3 := (h ds _ w e).2
  have bw := run.below
  have s0 := run.1.1
  have h1 : s ≤ p.1 ∧ p.1 < u ∧ u ≤ belowOf o := h1
  have h2 : s ≤ f ∧ f < p.2 ∧ p.2 ≤ belowOf o := h2
  have h3 : u ≤ p.2 := h3
  exact ⟨by omega, by omega, by omega⟩
theorem sure_ok (run : RunOk s o) {z : Option (Int × Int)} (h : IsSure n ts r x s (belowOf o) z) : ∀ p, z = some p → SpanOk p := by
  rintro p rfl
  obtain ⟨_, ⟨ds, u, w, e⟩, ⟨es, f, w2, e2⟩, h⟩ := h
  have h1 := spanIn_some e
  have h2 := spanIn_some e2
  have bw := run.below
  have s0 := run.1.1
  have h1 : s ≤ p.1 ∧ p.1 < u ∧ u ≤ belowOf o := h1
  have h2 : s ≤ f ∧ f < p.2 ∧ p.2 ≤ belowOf o := h2
  exact ⟨by omega, h, by omega⟩
end
def lenO' : Option (Int × Int) → Int
  | none => 0
  | some p => p.2 - p.1
theorem met_cnt {r : List Int} {x s b : Int} (hx : x ∈ r) (nd : r.Nodup) (W : List (List Int)) : (W.map fun ds => spanIn r ds x s b).map lenO' = W.map fun ds => cntOf r ds x s b := by
  rw [List.map_map]
  refine List.map_congr_left fun ds _ => ?_
  rw [cnt_span hx nd]
  show lenO' (spanIn r ds x s b) = _
  cases spanIn r ds x s b <;> rfl
def AnsD (K : PySem.W.Frag) (n : Nat) (ts : List Tie) (r : List Int) (x : Int) (H : Hp) (v : V) (q : Int × Option Int) : Prop := ∃ z, SpanOpt K H v z ∧ IsDays n ts r x q.1 (belowOf q.2) z
def AnsS (K : PySem.W.Frag) (n : Nat) (ts : List Tie) (r : List Int) (x : Int) (H : Hp) (v : V) (q : Int × Option Int) : Prop := ∃ z, SpanOpt K H v z ∧ IsSure n ts r x q.1 (belowOf q.2) z
def AnsF (n : Nat) (ts : List Tie) (r : List Int) (x : Int) (v : V) (q : Int × Option Int) : Prop := ∃ k, v = .int k ∧ IsFew n ts r x q.1 (belowOf q.2) k
def AnsM (n : Nat) (ts : List Tie) (r : List Int) (x : Int) (v : V) (q : Int × Option Int) : Prop := ∃ k, v = .int k ∧ IsMost n ts r x q.1 (belowOf q.2) k
theorem ansD_mono {K : PySem.W.Frag} {n : Nat} {ts : List Tie} {r : List Int} {x : Int} {H H' : Hp} {vs : List V} {qs : List (Int × Option Int)} (e : Same H H') (h : AllAt (AnsD K n ts r x H) vs qs) : AllAt (AnsD K n ts r x H') vs qs := AllAt.imp (fun _ _ ⟨z, h1, h2⟩ => ⟨z, h1.mono e, h2⟩) h
theorem ansS_mono {K : PySem.W.Frag} {n : Nat} {ts : List Tie} {r : List Int} {x : Int} {H H' : Hp} {vs : List V} {qs : List (Int × Option Int)} (e : Same H H') (h : AllAt (AnsS K n ts r x H) vs qs) : AllAt (AnsS K n ts r x H') vs qs := AllAt.imp (fun _ _ ⟨z, h1, h2⟩ => ⟨z, h1.mono e, h2⟩) h
theorem spanOpt_updL {K : PySem.W.Frag} {H : Hp} {l : Addr} {o : HO} {zs : List V} (hl : H l = some (.lst zs)) {v : V} : ∀ {z : Option (Int × Int)}, SpanOpt K H v z → SpanOpt K (upd H l o) v z
  | none, h => h
  | some _, ⟨a, dx, h1, h2⟩ => ⟨a, dx, h1, by rw [upd_ne (ne_of h2 hl (by intro z; cases z))]; exact h2⟩
theorem AllAt.at3 {α : Type} {P : V → α → Prop} {vs : List V} {xs : List α} {i : Nat} {x : α} (h : AllAt P vs xs) (hx : xs[i]? = some x) : ∃ v, vs[i]? = some v ∧ P v x := by
  have il := (List.getElem?_eq_some_iff.mp hx).1
  rw [← AllAt.length h] at il
  obtain ⟨y, hy, hp⟩ := AllAt.get h (List.getElem?_eq_getElem il)
  rw [hx] at hy
  cases hy
  exact ⟨_, List.getElem?_eq_getElem il, hp⟩
end LH
namespace LH
open PySem PySem.Spec PyProof.Rows L2
section
variable {K : PySem.W.Frag} {n : Nat} {ts : List Tie} {r : List Int} {x : Int} {H H' : Hp} {v : V} {q : Int × Option Int}
theorem AnsD.mono (e : Same H H') (h : AnsD K n ts r x H v q) : AnsD K n ts r x H' v q := by
  obtain ⟨z, h1, h2⟩ := h
  exact ⟨z, h1.mono e, h2⟩
theorem AnsS.mono (e : Same H H') (h : AnsS K n ts r x H v q) : AnsS K n ts r x H' v q := by
  obtain ⟨z, h1, h2⟩ := h
  exact ⟨z, h1.mono e, h2⟩
theorem AnsD.upd {l : Addr} {o : HO} {zs : List V} (hl : H l = some (.lst zs)) (h : AnsD K n ts r x H v q) : AnsD K n ts r x (upd H l o) v q := by
  obtain ⟨z, h1, h2⟩ := h
  exact ⟨z, spanOpt_updL hl h1, h2⟩
theorem AnsS.upd {l : Addr} {o : HO} {zs : List V} (hl : H l = some (.lst zs)) (h : AnsS K n ts r x H v q) : AnsS K n ts r x (upd H l o) v q := by
  obtain ⟨z, h1, h2⟩ := h
  exact ⟨z, spanOpt_updL hl h1, h2⟩
end
end LH

set_option Elab.async false
set_option linter.all false
set_option maxRecDepth 100000
set_option maxHeartbeats 4000000
/-! who may hold on a day, and the days on which one may; function values -/
namespace LH
def MayH (n : Nat) (ts : List Tie) (r : List Int) (d x : Int) : Prop := ∃ ds, Way n ts ds ∧ holderOf r ds d = x
def OnlyH (n : Nat) (ts : List Tie) (r : List Int) (d x : Int) : Prop := ∀ ds, Way n ts ds → holderOf r ds d = x
theorem holder_is {n : Nat} {r ds : List Int} {d x : Int} (hr : RowOk (n : Int) r) (hx : x ∈ r) : holderOf r ds d = x ↔ (∀ e ∈ aheadOf r x, dayOf ds e ≤ d) ∧ d < dayOf ds x := by
  rw [← hold_iff hr (.inr hx)]
  have x0 := (hr.2 x hx).1
  unfold holdT
  rw [if_neg (by omega)]
  constructor
  · intro h
    constructor
    · intro e he
      have := h (-1, e, -d) (List.mem_append_left _ (List.mem_map.mpr ⟨e, he, rfl⟩))
      unfold KeptW at this
      have this : -d ≤ dayOf ds (-1) - dayOf ds e := this
      rw [day_m1] at this
      omega
    · have := h (x, -1, d + 1) (List.mem_append_right _ (List.mem_singleton.mpr rfl))
      unfold KeptW at this
      have this : d + 1 ≤ dayOf ds x - dayOf ds (-1) := this
      rw [day_m1] at this
      omega
  · rintro ⟨h1, h2⟩ t ht
    rcases List.mem_append.mp ht with ht | ht
    · obtain ⟨e, he, rfl⟩ := List.mem_map.mp ht
      have := h1 e he
      unfold KeptW
      show -d ≤ dayOf ds (-1) - dayOf ds e
      rw [day_m1]
      omega
    · rw [List.mem_singleton.mp ht]
      unfold KeptW
      show d + 1 ≤ dayOf ds x - dayOf ds (-1)
      rw [day_m1]
      omega
theorem span_hold {n : Nat} {r ds : List Int} {d x s b : Int} (hr : RowOk (n : Int) r) (hx : x ∈ r) (h1 : s ≤ d) (h2 : d < b) : holderOf r ds d = x ↔ ∃ p, spanIn r ds x s b = some p ∧ p.1 ≤ d ∧ d < p.2 := by
  rw [holder_is hr hx]
  obtain ⟨f, hf⟩ := ex_maxL (topL_ne ds (aheadOf r x) s)
  rw [span_top (by omega) hf]
  constructor
  · rintro ⟨a1, a2⟩
    have : f ≤ d := by
      rcases List.mem_cons.mp hf.1 with h | h
      · omega
      · obtain ⟨e, he, rfl⟩ := List.mem_map.mp h
        exact a1 e he
    exact ⟨_, if_pos (by omega), this, by show d < min (dayOf ds x) b; omega⟩
  · rintro ⟨p, e, a1, a2⟩
    split at e
    · cases e
      have a1 : f ≤ d := a1
      have a2 : d < min (dayOf ds x) b := a2
      exact ⟨fun e he => Int.le_trans (hf.2 _ (List.mem_cons_of_mem _ (List.mem_map.mpr ⟨e, he, rfl⟩))) a1, by omega⟩
    · cases e
section
variable {n : Nat} {ts : List Tie} {r : List Int} {d x s b : Int}
/-- of a life's days, as told -/
structure LookP (L : Int → Prop) (s b : Int) (z : Option (Int × Int)) : Prop where
  no : z = none → ∀ d, s ≤ d → d < b → ¬ L d
  yes : ∀ p, z = some p → s ≤ p.1 ∧ p.1 < p.2 ∧ p.2 ≤ b ∧ L p.1 ∧ L (p.2 - 1) ∧ (s ≤ p.1 - 1 → ¬ L (p.1 - 1)) ∧ (p.2 < b → ¬ L p.2)
theorem look_days (hr : RowOk (n : Int) r) (hx : x ∈ r) {z : Option (Int × Int)} (h : IsDays n ts r x s b z) : LookP (fun d => MayH n ts r d x) s b z := by
  refine ⟨?_, ?_⟩
  · rintro rfl d h1 h2 ⟨ds, w, e⟩
    obtain ⟨p, ep, _⟩ := (span_hold hr hx h1 h2).mp e
    rw [h ds w] at ep
    cases ep
  · rintro p rfl
    obtain ⟨⟨d1, u, w1, e1⟩, ⟨d2, f, w2, e2⟩, h3⟩ := h
    have a1 := spanIn_some e1
    have a2 := spanIn_some e2
    have a3 := (h3 d1 _ w1 e1).2
    have a1 : s ≤ p.1 ∧ p.1 < u ∧ u ≤ b := a1
    have a2 : s ≤ f ∧ f < p.2 ∧ p.2 ≤ b := a2
    have a3 : u ≤ p.2 := a3
    refine ⟨a1.1, by omega, a2.2.2, ⟨d1, w1, (span_hold hr hx a1.1 (by omega)).mpr ⟨_, e1, Int.le_refl _, a1.2.1⟩⟩, ⟨d2, w2, (span_hold (s := s) (b := b) hr hx (by omega) (by omega)).mpr ⟨_, e2, by show f ≤ p.2 - 1; omega, by show p.2 - 1 < p.2; omega⟩⟩, ?_, ?_⟩
    · rintro h1 ⟨ds, w, e⟩
      obtain ⟨q, eq, q1, q2⟩ := (span_hold (b := b) hr hx h1 (by omega)).mp e
      have := (h3 ds q w eq).1
      omega
    · rintro h1 ⟨ds, w, e⟩
      obtain ⟨q, eq, q1, q2⟩ := (span_hold (s := s) hr hx (by omega) h1).mp e
      have := (h3 ds q w eq).2
      omega
theorem look_sure (hr : RowOk (n : Int) r) (hx : x ∈ r) {z : Option (Int × Int)} (h : IsSure n ts r x s b z) : LookP (fun d => OnlyH n ts r d x) s b z := by
  refine ⟨?_, ?_⟩
  · rintro rfl d h1 h2 all
    rcases h with ⟨ds, w, e⟩ | ⟨ds, es, p, q, w1, w2, e1, e2, hle⟩
    · obtain ⟨p, ep, _⟩ := (span_hold hr hx h1 h2).mp (all ds w)
      rw [e] at ep
      cases ep
    · obtain ⟨p', ep, p1, p2⟩ := (span_hold hr hx h1 h2).mp (all ds w1)
      obtain ⟨q', eq, q1, q2⟩ := (span_hold hr hx h1 h2).mp (all es w2)
      rw [e1] at ep
      cases ep
      rw [e2] at eq
      cases eq
      omega
  · rintro p rfl
    obtain ⟨h0, ⟨d1, u, w1, e1⟩, ⟨d2, f, w2, e2⟩, h3⟩ := h
    have a1 := spanIn_some e1
    have a2 := spanIn_some e2
    have a1 : s ≤ p.1 ∧ p.1 < u ∧ u ≤ b := a1
    have a2 : s ≤ f ∧ f < p.2 ∧ p.2 ≤ b := a2
    refine ⟨a1.1, h3, a2.2.2, fun ds w => ?_, fun ds w => ?_, ?_, ?_⟩
    · obtain ⟨q, e, q1, q2⟩ := h0 ds w
      exact (span_hold hr hx a1.1 (by omega)).mpr ⟨q, e, q1, by omega⟩
    · obtain ⟨q, e, q1, q2⟩ := h0 ds w
      exact (span_hold (s := s) (b := b) hr hx (by omega) (by omega)).mpr ⟨q, e, by omega, by omega⟩
    · intro h1 all
      obtain ⟨q, eq, q1, q2⟩ := (span_hold (b := b) hr hx h1 (by omega)).mp (all d1 w1)
      rw [e1] at eq
      cases eq
      have q1 : p.1 ≤ p.1 - 1 := q1
      omega
    · intro h1 all
      obtain ⟨q, eq, q1, q2⟩ := (span_hold (s := s) hr hx (by omega) h1).mp (all d2 w2)
      rw [e2] at eq
      cases eq
      have q2 : p.2 < p.2 := q2
      omega
end
end LH
namespace LH
open PySem PySem.Spec PyProof.Rows L2
theorem AllAt.to_bools {vs : List V} {bs : List Bool} (h : AllAt (fun v i => v = V.bl i) vs bs) : vs = bs.map V.bl := by
  induction bs generalizing vs with
  | nil => cases vs with
    | nil => rfl
    | cons v vs => exact h.elim
  | cons n ns ih => cases vs with
    | nil => exact h.elim
    | cons v vs =>
      obtain ⟨h1, h2⟩ := h
      rw [List.map_cons, ← ih h2, h1]
section
variable {P : Program} {w : World} {K : PySem.W.Frag} {mg : Str → Option Value} {base : Heap}
/-- a def that lets nothing out, at its address -/
structure OwnA (P : Program) (w : World) (K : PySem.W.Frag) (mg : Str → Option Value) (base : Heap) (f : Addr) (ps : List Str) (k : Nat) (sp : Sp) : Prop where
  ex : ∃ fd : FuncData, FnOk P w K mg base CX0 k f fd ps sp ∧ PySem.W.keepIn K (.ref f) = true ∧ Binds K fd ps []
theorem Own.addr {x : Str} {ps : List Str} {k : Nat} {sp : Sp} (C : Own P w K mg base x ps k sp) : ∃ f, OwnA P w K mg base f ps k sp ∧ mg x = some (.ref f) := by
  obtain ⟨f, fd, F, hm, hk, hb⟩ := C.ex
  exact ⟨f, ⟨fd, F, hk, hb⟩, hm⟩
end
/-- a call through a name that holds one of two defs -/
def tVia2 (i : Nat) (f1 f2 : Addr) (sp1 sp2 : Sp) (t : TA) : TE := fun σ H Q => (σ[i]? = some (some (.ref f1)) ∧ tCall sp1 [] E0 t σ H Q) ∨ (σ[i]? = some (some (.ref f2)) ∧ tCall sp2 [] E0 t σ H Q)
section
variable {X : Cx}
theorem pe_fn {x : Str} {f : Addr} {pos : Pos} (hm : X.mg x = some (.ref f)) (hg : Gl X x := by rfl) (hd : (x == ("__debug__" : Str)) = false := by decide) : PE X (.Name x pos) (tC (.ref f)) := pe_glob hg hm rfl hd
theorem via1 {i : Nat} {f : Addr} {x : Str} {ps : List Str} {k : Nat} {sp : Sp} {e : Expr} {es : List Expr} {p pos : Pos} {t : TA} (C : OwnA X.prog X.w X.K X.mg X.base f ps k sp) (hr : Room k X.A) (hv : PE X (.Name x p) (tVar i)) (ha : PA X (e :: es) t)
    (he : starEach (e :: es) X.env = (false, eval e X.env) :: starEach es X.env) (hpl : (backTo pos (starEach es X.env)).any (·.1) = false)
    {pins : List (Addr × Obj)} {s : Shared} {σ : L2.St} {H : Hp} {Q : VK} (I : L2.Inv X pins σ H s) (hσ : σ[i]? = some (some (.ref f))) (h : tCall sp [] E0 t σ H Q) :
    wpAny (model X.prog X.w) X.A (eval (.Call (.Name x p) (e :: es) [] pos) X.env) (EP X pins σ Q) X.xe s := by
  obtain ⟨fd, F, hk, hb⟩ := C.ex
  refine wpAny_Call_Name_kw (thn (hv.run pins s σ H (fun v H' => v = V.ref f ∧ H' = H) I ⟨_, hσ, rfl, rfl⟩) fun u s1 ⟨v, H1, I1, rv, ev, eH⟩ => ?_)
  subst ev
  subst eH
  obtain rfl : u = Value.ref f := rv
  refine PySem.W.callWith_K (h₀ := X.base) I1.ok.mod.kin hk (thn (ha.run pos pins s1 σ H1 _ I1 h) fun us s2 ⟨vs, H2, I2, r, q⟩ => ⟨I2.kIn, ?_⟩) he hpl
  exact run_fn F hr hb .nil pass0 I2 r q
theorem pe_via2 {i : Nat} {f1 f2 : Addr} {x : Str} {ps1 ps2 : List Str} {k1 k2 : Nat} {sp1 sp2 : Sp} {e : Expr} {es : List Expr} {p pos : Pos} {t : TA} (C1 : OwnA X.prog X.w X.K X.mg X.base f1 ps1 k1 sp1) (C2 : OwnA X.prog X.w X.K X.mg X.base f2 ps2 k2 sp2) (h1 : Room k1 X.A) (h2 : Room k2 X.A)
    (hv : PE X (.Name x p) (tVar i)) (ha : PA X (e :: es) t) (he : starEach (e :: es) X.env = (false, eval e X.env) :: starEach es X.env := by rfl) (hpl : (backTo pos (starEach es X.env)).any (·.1) = false := by rfl) :
    PE X (.Call (.Name x p) (e :: es) [] pos) (tVia2 i f1 f2 sp1 sp2 t) := by
  refine ⟨fun pins s σ H Q I h => ?_⟩
  rcases h with ⟨hσ, h⟩ | ⟨hσ, h⟩
  · exact via1 C1 h1 hv ha he hpl I hσ h
  · exact via1 C2 h2 hv ha he hpl I hσ h
end
end LH

set_option Elab.async false
set_option linter.all false
set_option maxRecDepth 100000
set_option maxHeartbeats 4000000
/-! min and max of a list of objects by an own def as key -/
namespace LH
open PySem PySem.Spec PyProof.Rows L2
section
variable {X : Cx} {pins : List (Addr × Obj)} {σ : L2.St} {H : Hp} {s s0 : Shared}
/-- an address that was free at some time of the def -/
structure Lone (X : Cx) (pins : List (Addr × Obj)) (H : Hp) (q : Addr) : Prop where
  hn : H q = none
  lo : q ≠ X.env.locals
  fs : q ∉ X.fs
  ex : q ∈ X.ex ∨ X.s_0.heap.objs.size ≤ q
  ce : ∀ y b, X.env.cells.lookup y = some b → b ≠ q
  pi : ∀ e ∈ X.pn ++ pins, e.1 ≠ q
theorem lone_of (I : L2.Inv X pins σ H s) {q : Addr} (hc : s.heap.objs.size ≤ q) : Lone X pins H q := by
  refine ⟨I.hok.fresh hc, fun z => ?_, I.nofs hc, .inr (Nat.le_trans I.sz hc), fun y b e z => ?_, fun e he z => ?_⟩
  · rw [z] at hc
    exact absurd I.lt (Nat.not_lt.mpr hc)
  · obtain ⟨v, hv⟩ := I.cell y b e
    obtain ⟨ob, ho, _⟩ := hv
    rw [z] at ho
    exact absurd (Heap.lt_size ho) (Nat.not_lt.mpr hc)
  · have y := (I.pin e he).1
    rw [z] at y
    exact absurd (Heap.lt_size y) (Nat.not_lt.mpr hc)
theorem Lone.stack {q : Addr} (L : Lone X pins H q) (I : L2.Inv X pins σ H s) : q ∉ frs X.stack := fun z => by
  rcases List.mem_cons.mp (I.stkSub q z) with e | e
  · exact L.lo e
  · exact L.fs e
/-- some of ours have changed -/
theorem inv_many {h' : Heap} {tk : Nat} {cs : List Addr} (I : L2.Inv X pins σ H s) (L : ∀ q ∈ cs, Lone X pins H q) (k : ∀ b o, b ∉ cs → s.heap.get? b = some o → h'.get? b = some o) : L2.Inv X pins σ H { s with heap := h', toks := tk } := by
  have far : ∀ b u, H b = some u → b ∉ cs := fun b u e z => by
    rw [(L b z).hn] at e
    cases e
  have hok : HOk X.prog X.w H h' := by
    intro b u e
    refine (I.hok b u e).stay (fun c v hc q => k c v (fun z => ?_) q) (fun _ q => q) (fun _ _ q => q)
    rcases hc with y | y
    · rw [y] at z
      exact far b u e z
    · exact far c _ y z
  refine I.step (g' := s.gens) (d' := s.drawn) (ch := cs) (fun b hb => ⟨(L b hb).ex, (L b hb).lo, (L b hb).ce, (L b hb).pi⟩) ?_ ?_ ?_ ?_ ?_ ?_ ?_ ?_ hok I.bare
  · intro b o _ _ hc e _
    exact k b o hc e
  · intro b o _ _ hc e _
    exact ⟨o.slots, k b o hc e⟩
  · intro b o _ _ hn
    exact hn
  · intro b o hc e
    exact ⟨o, k b o hc e⟩
  · intro b xs e
    exact e
  · intro b o u e
    exact e
  · intro b ps e
    exact ⟨#[], by rw [e]; simp⟩
  · rintro m ⟨o, es, ep, ho, r⟩
    exact ⟨o, es, ep, k _ o (fun z => (L _ z).lo rfl) ho, r⟩
theorem vals_refs {ps : List Addr} {us : List Value} (r : Vals (ps.map V.ref) us) : us = ps.map Value.ref := by
  induction ps generalizing us with
  | nil => cases r; rfl
  | cons p ps ih =>
    cases r with
    | cons r1 r2 =>
      have e : _ = Value.ref p := r1
      rw [List.map_cons, e, ih r2]
end
/-- min (or max) by key: the list's items are objects; the key def tells an int and leaves all as it stands -/
def rBest (K : PySem.W.Frag) (f : Addr) (sp : Sp) (le : Int → Int → Prop) : List V → List V → Hp → VK → Prop := fun vs zs H Q => ∃ (a : Addr) (ps : List Addr) (key : Nat → Int), vs = [V.ref a] ∧ zs = [V.ref f] ∧ SqL K H a (ps.map V.ref) ∧ 0 < ps.length ∧
  (∀ i p, ps[i]? = some p → ∀ Q2 : VK, Q2 (.int (key i)) H → sp [V.ref p] H Q2 E0) ∧ ∀ i p, ps[i]? = some p → (∀ j, j < ps.length → le (key i) (key j)) → Q (.ref p) H
section
variable {X : Cx} {f : Addr} {pn : List Str} {k : Nat} {sp : Sp}
theorem key_run {op : CmpOp} {bt : Int → Int → Bool} (C : OwnA X.prog X.w X.K X.mg X.base f pn k sp) (hr : Room (k + 1) X.A) {pins : List (Addr × Obj)} {σ : L2.St} {H : Hp} {s : Shared} (I : L2.Inv X pins σ H s) {a : Addr} {ps : List Addr} {key : Nat → Int} (hs : SqL X.K H a (ps.map V.ref))
    (hk : ∀ i p, ps[i]? = some p → ∀ Q2 : VK, Q2 (.int (key i)) H → sp [V.ref p] H Q2 E0) (hcmp : ∀ (i j : Int) t u (s : Shared) (Q : Value → Shared → Prop) (E : Value → Shared → Prop), Q (.bool (bt i j)) s → wpAny (model X.prog X.w) X.A.in1 (richCompare op (.int i t) (.int j u)) Q E s)
    {S : Addr} (hS : s.heap.objs.size ≤ S) :
    KeyRun X.prog X.w X.A.in1 (.ref f) op S [s.heap.objs.size] (fun a b => b = a) (ps.map Value.ref).toArray.size (fun i v => (ps.map Value.ref).toArray[i]? = some v) (fun i s' => s'.heap.IsListIter s.heap.objs.size a i ∧ s'.heap.IsList a (ps.map Value.ref).toArray)
      (fun s' => L2.Inv X pins σ H s') (fun i v _ => ∃ t, v = .int (key i) t) (fun i j => bt (key i) (key j)) := by
  have L1 := lone_of I (q := s.heap.objs.size) (Nat.le_refl _)
  have L2' := lone_of I hS
  obtain ⟨fd, F, hkp, hb⟩ := C.ex
  refine ⟨fun s1 s2 J m => ?_, fun i v s1 s2 h _ => h, fun i v s1 o Q E hi hP J st ho cont => ?_, fun i j vi vj s1 Q E _ h1 h2 q => ?_⟩
  · obtain ⟨hp, g, dr, tk, os⟩ := s2
    have e1 : g = s1.gens := m.gens
    have e2 : dr = s1.drawn := m.drawn
    have e3 : os = s1.os := m.os
    subst e1
    subst e2
    subst e3
    exact inv_many (cs := [S, s.heap.objs.size]) J (fun q hq => by
      rcases List.mem_cons.mp hq with rfl | hq
      · exact L2'
      · rw [List.mem_singleton.mp hq]
        exact L1) m.heap
  · obtain ⟨p, hp, rfl⟩ : ∃ p, ps[i]? = some p ∧ v = Value.ref p := by
      have hP : (ps.map Value.ref)[i]? = some v := by simpa using hP
      rw [List.getElem?_map] at hP
      obtain ⟨p, h1, h2⟩ := Option.map_eq_some_iff.mp hP
      exact ⟨p, h1, h2.symm⟩
    have e0 : Env0 X.prog X.w X.K X.mg X.base X.A.in1 X.stack s1 H := by
      have e := J.env0
      exact ⟨e.frames, e.mod, e.bs, e.bsz, e.funs, e.frf, e.hok, e.bare⟩
    have h := hk i p hp (fun v H' => v = V.int (key i) ∧ H' = H) ⟨rfl, rfl⟩
    have hl := F.len _ _ _ _ h
    have r1 : Vals [V.ref p] [Value.ref p] := .cons rfl .nil
    refine wpAny_call (codeAny_mono (F.run X.A.in1 X.stack s1 H ⟨[.ref p], []⟩ [.ref p] [.ref p] _ E0 hr.in1 e0 (by
      have := hb s1 [.ref p] J.kIn (by simpa using hl)
      simpa using this) r1 h) fun r s' hq => ?_)
    cases r with
    | error e => exact False.elim hq
    | ok fl =>
      cases fl with
      | next => exact False.elim hq
      | brk => exact False.elim hq
      | cont => exact False.elim hq
      | ret u =>
        have hq2 := hq
        obtain ⟨v', H', _, _, un, _, rv, ev, eH⟩ := hq2
        obtain ⟨v2, H2, J2, rv2, ev2, eH2⟩ := J.after hq
        subst ev2
        subst eH2
        obtain ⟨t, rfl⟩ := rv2
        have it1 : s'.heap.IsListIter s.heap.objs.size a (i + 1) := by
          obtain ⟨o1, ho1, r1⟩ := st.1
          exact ⟨o1, un.keep _ _ ho1 L1.hn (L1.stack J) (by simp), r1⟩
        have li1 : s'.heap.IsList a (ps.map Value.ref).toArray := by
          obtain ⟨its, rv, hl, _⟩ := J2.list hs
          have := hl.isList
          rw [vals_refs rv] at this
          exact this
        exact cont _ s' J2 ⟨it1, li1⟩ (un.keep _ _ ho L2'.hn (L2'.stack J) (by simp)) ⟨t, rfl⟩ (fun _ _ z => z)
  · obtain ⟨t, rfl⟩ := h1
    obtain ⟨u, rfl⟩ := h2
    exact hcmp _ _ t u s1 Q E q
theorem min_key (hc : X.calm = true) (C : OwnA X.prog X.w X.K X.mg X.base f pn k sp) (hr : Room (k + 1) X.A) {pins : List (Addr × Obj)} {σ : L2.St} {H : Hp} {s : Shared} {Q : VK} (I : L2.Inv X pins σ H s) {a : Addr} {ps : List Addr} {key : Nat → Int} (hs : SqL X.K H a (ps.map V.ref)) (hpos : 0 < ps.length)
    (hk : ∀ i p, ps[i]? = some p → ∀ Q2 : VK, Q2 (.int (key i)) H → sp [V.ref p] H Q2 E0) (q : ∀ i p, ps[i]? = some p → (∀ j, j < ps.length → key i ≤ key j) → Q (.ref p) H) : wpAny (model X.prog X.w) X.A (call (.builtin "min") [.ref a] [(Str.ofString "key", .ref f)]) (EP X pins σ Q) X.xe s := by
  obtain ⟨its, rv, hl, _⟩ := I.list hs
  rw [vals_refs rv] at hl
  have hl := hl.isList
  refine call_min_walkK ?_
  refine PySem.W.iter_listW (A := X.A.in1) (I.ok.hd hc) hl ?_
  intro s2 e W st hfp hw hkeep
  have I2 : L2.Inv X pins σ H s2 := by
    rw [e]
    exact I.kept (t' := s.toks) (by rw [e] at hkeep; exact hkeep)
  have sz : s.heap.objs.size ≤ s2.heap.objs.size := Nat.le_of_lt (hfp s.heap.objs.size (by simp))
  have KR := key_run (op := .Lt) (bt := fun x y => decide (x < y)) C hr I hs hk (fun i j t u s Q E q => lt_int q) sz
  have hn : 0 < (ps.map Value.ref).toArray.size := by simpa using hpos
  refine ⟨_, _, _, _, _, _, _, _, _, _, rfl, W, st, hfp, hn, KR, I2, fun v s' hP J => ?_⟩
  have hb := argBest_lt key ((ps.map Value.ref).toArray.size - 1)
  generalize hg : argBest (fun i j => decide (key i < key j)) ((ps.map Value.ref).toArray.size - 1) = m at hb
  have hP : (ps.map Value.ref).toArray[m]? = some v := by rw [← hg]; exact hP
  have hP2 : (ps.map Value.ref)[m]? = some v := by simpa using hP
  rw [List.getElem?_map] at hP2
  obtain ⟨p, h1, h2⟩ := Option.map_eq_some_iff.mp hP2
  subst h2
  refine ⟨V.ref p, H, J, rfl, q _ p h1 fun j hj => hb.2 j ?_⟩
  have : (ps.map Value.ref).toArray.size = ps.length := by simp
  omega
theorem cr_minKey (hc : X.calm = true) (C : OwnA X.prog X.w X.K X.mg X.base f pn k sp) (hr : Room (k + 1) X.A) : CallRK X (.builtin "min") [Str.ofString "key"] (rBest X.K f sp (fun x y => x ≤ y)) := by
  intro pins s σ H vs zs us ws Q I r1 r2 h
  obtain ⟨a, ps, key, e1, e2, hs, hpos, hk, q⟩ := h
  subst e1
  subst e2
  have u1 := Vals.ref1 r1
  have u2 := Vals.ref1 r2
  subst u1
  subst u2
  exact min_key hc C hr I hs hpos hk q
theorem max_key (hc : X.calm = true) (C : OwnA X.prog X.w X.K X.mg X.base f pn k sp) (hr : Room (k + 1) X.A) {pins : List (Addr × Obj)} {σ : L2.St} {H : Hp} {s : Shared} {Q : VK} (I : L2.Inv X pins σ H s) {a : Addr} {ps : List Addr} {key : Nat → Int} (hs : SqL X.K H a (ps.map V.ref)) (hpos : 0 < ps.length)
    (hk : ∀ i p, ps[i]? = some p → ∀ Q2 : VK, Q2 (.int (key i)) H → sp [V.ref p] H Q2 E0) (q : ∀ i p, ps[i]? = some p → (∀ j, j < ps.length → key j ≤ key i) → Q (.ref p) H) : wpAny (model X.prog X.w) X.A (call (.builtin "max") [.ref a] [(Str.ofString "key", .ref f)]) (EP X pins σ Q) X.xe s := by
  obtain ⟨its, rv, hl, _⟩ := I.list hs
  rw [vals_refs rv] at hl
  have hl := hl.isList
  refine call_max_walkK ?_
  refine PySem.W.iter_listW (A := X.A.in1) (I.ok.hd hc) hl ?_
  intro s2 e W st hfp hw hkeep
  have I2 : L2.Inv X pins σ H s2 := by
    rw [e]
    exact I.kept (t' := s.toks) (by rw [e] at hkeep; exact hkeep)
  have sz : s.heap.objs.size ≤ s2.heap.objs.size := Nat.le_of_lt (hfp s.heap.objs.size (by simp))
  have KR := key_run (op := .Gt) (bt := fun x y => decide (x > y)) C hr I hs hk (fun i j t u s Q E q => gt_int q) sz
  have hn : 0 < (ps.map Value.ref).toArray.size := by simpa using hpos
  refine ⟨_, _, _, _, _, _, _, _, _, _, rfl, W, st, hfp, hn, KR, I2, fun v s' hP J => ?_⟩
  have hb := argBest_gt key ((ps.map Value.ref).toArray.size - 1)
  generalize hg : argBest (fun i j => decide (key i > key j)) ((ps.map Value.ref).toArray.size - 1) = m at hb
  have hP : (ps.map Value.ref).toArray[m]? = some v := by rw [← hg]; exact hP
  have hP2 : (ps.map Value.ref)[m]? = some v := by simpa using hP
  rw [List.getElem?_map] at hP2
  obtain ⟨p, h1, h2⟩ := Option.map_eq_some_iff.mp hP2
  subst h2
  refine ⟨V.ref p, H, J, rfl, q _ p h1 fun j hj => hb.2 j ?_⟩
  have : (ps.map Value.ref).toArray.size = ps.length := by simp
  omega
theorem cr_maxKey (hc : X.calm = true) (C : OwnA X.prog X.w X.K X.mg X.base f pn k sp) (hr : Room (k + 1) X.A) : CallRK X (.builtin "max") [Str.ofString "key"] (rBest X.K f sp (fun x y => y ≤ x)) := by
  intro pins s σ H vs zs us ws Q I r1 r2 h
  obtain ⟨a, ps, key, e1, e2, hs, hpos, hk, q⟩ := h
  subst e1
  subst e2
  have u1 := Vals.ref1 r1
  have u2 := Vals.ref1 r2
  subst u1
  subst u2
  exact max_key hc C hr I hs hpos hk q
theorem minKeyK (K : PySem.W.Frag) (hc : X.calm = true) (C : OwnA X.prog X.w X.K X.mg X.base f pn k sp) (hr : Room (k + 1) X.A) (h : X.K = K := by rfl) : CallRK X (.builtin "min") [Str.ofString "key"] (rBest K f sp (fun x y => x ≤ y)) := by subst h; exact cr_minKey hc C hr
theorem maxKeyK (K : PySem.W.Frag) (hc : X.calm = true) (C : OwnA X.prog X.w X.K X.mg X.base f pn k sp) (hr : Room (k + 1) X.A) (h : X.K = K := by rfl) : CallRK X (.builtin "max") [Str.ofString "key"] (rBest K f sp (fun x y => y ≤ x)) := by subst h; exact cr_maxKey hc C hr
end
end LH

set_option Elab.async false
set_option linter.all false
set_option maxRecDepth 100000
set_option maxHeartbeats 4000000
/-! deaths in holding, of all ways together: choices, states -/
namespace LH
abbrev Chs := List (Int × List Tie)
def dyC (r : List Int) (i : Nat) (s b : Int) : Chs := [(1, [(r.getD i 0, -1, s + 1), (-1, r.getD i 0, -b)] ++ (r.take i).map fun e => (r.getD i 0, e, 1)), (0, [])]
def nyC (r : List Int) (i : Nat) (s b : Int) : Chs := [(0, [(-1, r.getD i 0, -s)]), (0, [(r.getD i 0, -1, b + 1)])] ++ (r.take i).map (fun e => ((0 : Int), [(e, r.getD i 0, (0 : Int))])) ++ [(1, [])]
open Classical in
noncomputable def joinC (n : Nat) (ts : List Tie) (c m : Int × List Tie) : Option (Int × List Tie) := if Can n (ts ++ (c.2 ++ m.2)) then some (c.1 + m.1, c.2 ++ m.2) else none
noncomputable def withC (n : Nat) (ts : List Tie) (S C : Chs) : Chs := S.flatMap fun c => C.filterMap (joinC n ts c)
noncomputable def foldC (n : Nat) (ts : List Tie) (F : Nat → Chs) (k : Nat) : Chs := (List.range k).foldl (fun S i => withC n ts S (F i)) [(0, [])]
theorem foldC_succ (n : Nat) (ts : List Tie) (F : Nat → Chs) (k : Nat) : foldC n ts F (k + 1) = withC n ts (foldC n ts F k) (F k) := by
  unfold foldC
  rw [List.range_succ, List.foldl_append]
  rfl
theorem mem_with {n : Nat} {ts : List Tie} {S C : Chs} {x : Int × List Tie} : x ∈ withC n ts S C ↔ ∃ c ∈ S, ∃ m ∈ C, Can n (ts ++ (c.2 ++ m.2)) ∧ x = (c.1 + m.1, c.2 ++ m.2) := by
  unfold withC
  rw [List.mem_flatMap]
  constructor
  · rintro ⟨c, hc, h⟩
    obtain ⟨m, hm, e⟩ := List.mem_filterMap.mp h
    unfold joinC at e
    split at e
    · exact ⟨c, hc, m, hm, by assumption, (Option.some.inj e).symm⟩
    · cases e
  · rintro ⟨c, hc, m, hm, can, rfl⟩
    exact ⟨c, hc, List.mem_filterMap.mpr ⟨m, hm, if_pos can⟩⟩
theorem with_len (n : Nat) (ts : List Tie) (C : Chs) : ∀ S : Chs, (withC n ts S C).length ≤ S.length * C.length
  | [] => by simp [withC]
  | c :: S => by
    have := with_len n ts C S
    unfold withC at *
    rw [List.flatMap_cons, List.length_append, List.length_cons, Nat.add_mul]
    have h2 := List.length_filterMap_le (joinC n ts c) C
    omega
structure GoodC (n : Nat) (ts : List Tie) (c : Int × List Tie) : Prop where
  can : Can n (ts ++ c.2)
  ix : ∀ t ∈ c.2, TieIx (n : Int) t
theorem with_good {n : Nat} {ts : List Tie} {S C : Chs} (h : ∀ c ∈ S, GoodC n ts c) (hC : ∀ m ∈ C, ∀ t ∈ m.2, TieIx (n : Int) t) : ∀ c ∈ withC n ts S C, GoodC n ts c := by
  intro x hx
  obtain ⟨c, hc, m, hm, can, rfl⟩ := mem_with.mp hx
  exact ⟨can, fun t ht => (List.mem_append.mp ht).elim ((h c hc).ix t) (hC m hm t)⟩
theorem dy_ix {n : Nat} {r : List Int} {i : Nat} {s b : Int} (hr : RowOk (n : Int) r) (hi : i < r.length) : ∀ m ∈ dyC r i s b, ∀ t ∈ m.2, TieIx (n : Int) t := by
  have hx : r.getD i 0 ∈ r := by
    rw [List.getD_eq_getElem?_getD, List.getElem?_eq_getElem hi]
    exact List.getElem_mem hi
  have bx := hr.2 _ hx
  generalize hg : r.getD i 0 = x at *
  intro m hm t ht
  unfold dyC at hm
  rw [hg] at hm
  simp only [List.mem_cons, List.not_mem_nil, or_false] at hm
  rcases hm with rfl | rfl
  · rcases List.mem_append.mp ht with ht | ht
    · simp only [List.mem_cons, List.not_mem_nil, or_false] at ht
      rcases ht with rfl | rfl
      · exact ⟨by show -1 ≤ x; omega, bx.2, by show (-1 : Int) ≤ -1; omega, by show (-1 : Int) < n; omega, trivial⟩
      · exact ⟨by show (-1 : Int) ≤ -1; omega, by show (-1 : Int) < n; omega, by show -1 ≤ x; omega, bx.2, trivial⟩
    · obtain ⟨e, he, rfl⟩ := List.mem_map.mp ht
      have be := hr.2 e (List.mem_of_mem_take he)
      exact ⟨by show -1 ≤ x; omega, bx.2, by show -1 ≤ e; omega, be.2, trivial⟩
  · cases ht
theorem ny_ix {n : Nat} {r : List Int} {i : Nat} {s b : Int} (hr : RowOk (n : Int) r) (hi : i < r.length) : ∀ m ∈ nyC r i s b, ∀ t ∈ m.2, TieIx (n : Int) t := by
  have hx : r.getD i 0 ∈ r := by
    rw [List.getD_eq_getElem?_getD, List.getElem?_eq_getElem hi]
    exact List.getElem_mem hi
  have bx := hr.2 _ hx
  generalize hg : r.getD i 0 = x at *
  intro m hm t ht
  unfold nyC at hm
  rw [hg] at hm
  rcases List.mem_append.mp hm with hm | hm
  · rcases List.mem_append.mp hm with hm | hm
    · simp only [List.mem_cons, List.not_mem_nil, or_false] at hm
      rcases hm with rfl | rfl
      · rw [List.mem_singleton.mp ht]
        exact ⟨by show (-1 : Int) ≤ -1; omega, by show (-1 : Int) < n; omega, by show -1 ≤ x; omega, bx.2, trivial⟩
      · rw [List.mem_singleton.mp ht]
        exact ⟨by show -1 ≤ x; omega, bx.2, by show (-1 : Int) ≤ -1; omega, by show (-1 : Int) < n; omega, trivial⟩
    · obtain ⟨e, he, rfl⟩ := List.mem_map.mp hm
      have be := hr.2 e (List.mem_of_mem_take he)
      rw [List.mem_singleton.mp ht]
      exact ⟨by show -1 ≤ e; omega, be.2, by show -1 ≤ x; omega, bx.2, trivial⟩
  · rw [List.mem_singleton.mp hm] at ht
    cases ht
/-! a life dies in holding -/
def DiesAt (r ds : List Int) (i : Nat) (s b : Int) : Prop := s < dayOf ds (r.getD i 0) ∧ dayOf ds (r.getD i 0) ≤ b ∧ ∀ e ∈ r.take i, dayOf ds e < dayOf ds (r.getD i 0)
instance (r ds : List Int) (i : Nat) (s b : Int) : Decidable (DiesAt r ds i s b) := by unfold DiesAt; infer_instance
def deadN (r ds : List Int) (s b : Int) (k : Nat) : Int := (((List.range k).filter fun i => decide (DiesAt r ds i s b)).length : Int)
theorem deadN_succ (r ds : List Int) (s b : Int) (k : Nat) : deadN r ds s b (k + 1) = deadN r ds s b k + if DiesAt r ds k s b then 1 else 0 := by
  unfold deadN
  rw [List.range_succ, List.filter_append, List.length_append]
  by_cases c : DiesAt r ds k s b
  · rw [if_pos c, List.filter_cons_of_pos (by simpa using c)]
    simp
  · rw [if_neg c, List.filter_cons_of_neg (by simpa using c)]
    simp
theorem keptAll_app {ds : List Int} {us vs : List Tie} : (∀ t ∈ us ++ vs, KeptW ds t) ↔ (∀ t ∈ us, KeptW ds t) ∧ ∀ t ∈ vs, KeptW ds t :=
  ⟨fun h => ⟨fun t ht => h t (List.mem_append_left _ ht), fun t ht => h t (List.mem_append_right _ ht)⟩, fun h t ht => (List.mem_append.mp ht).elim (h.1 t) (h.2 t)⟩
theorem dy_dies {r ds : List Int} {i : Nat} {s b : Int} : (∀ t ∈ [(r.getD i 0, -1, s + 1), (-1, r.getD i 0, -b)] ++ (r.take i).map (fun e => (r.getD i 0, e, (1 : Int))), KeptW ds t) ↔ DiesAt r ds i s b := by
  rw [keptAll_app]
  unfold DiesAt
  generalize r.getD i 0 = x
  have m1 := day_m1 ds
  constructor
  · rintro ⟨h1, h2⟩
    have a1 := h1 (x, -1, s + 1) List.mem_cons_self
    have a2 := h1 (-1, x, -b) (List.mem_cons_of_mem _ List.mem_cons_self)
    unfold KeptW at a1 a2
    have a1 : s + 1 ≤ dayOf ds x - dayOf ds (-1) := a1
    have a2 : -b ≤ dayOf ds (-1) - dayOf ds x := a2
    refine ⟨by omega, by omega, fun e he => ?_⟩
    have a3 := h2 (x, e, 1) (List.mem_map.mpr ⟨e, he, rfl⟩)
    unfold KeptW at a3
    have a3 : 1 ≤ dayOf ds x - dayOf ds e := a3
    omega
  · rintro ⟨a1, a2, a3⟩
    refine ⟨fun t ht => ?_, fun t ht => ?_⟩
    · simp only [List.mem_cons, List.not_mem_nil, or_false] at ht
      rcases ht with rfl | rfl
      · unfold KeptW
        show s + 1 ≤ dayOf ds x - dayOf ds (-1)
        omega
      · unfold KeptW
        show -b ≤ dayOf ds (-1) - dayOf ds x
        omega
    · obtain ⟨e, he, rfl⟩ := List.mem_map.mp ht
      have := a3 e he
      unfold KeptW
      show 1 ≤ dayOf ds x - dayOf ds e
      omega
/-- a choice by which it does not die so -/
theorem ny_not {r ds : List Int} {i : Nat} {s b : Int} {m : Int × List Tie} (hm : m ∈ nyC r i s b) (h : ∀ t ∈ m.2, KeptW ds t) : (if DiesAt r ds i s b then (1 : Int) else 0) ≤ m.1 := by
  unfold nyC at hm
  have m1 := day_m1 ds
  have nn : 0 ≤ m.1 := by
    rcases List.mem_append.mp hm with hm | hm
    · rcases List.mem_append.mp hm with hm | hm
      · simp only [List.mem_cons, List.not_mem_nil, or_false] at hm
        rcases hm with rfl | rfl <;> exact Int.le_refl _
      · obtain ⟨e, he, rfl⟩ := List.mem_map.mp hm
        exact Int.le_refl _
    · rw [List.mem_singleton.mp hm]
      show (0 : Int) ≤ 1
      omega
  by_cases c : DiesAt r ds i s b
  · rw [if_pos c]
    unfold DiesAt at c
    obtain ⟨c1, c2, c3⟩ := c
    generalize r.getD i 0 = x at *
    rcases List.mem_append.mp hm with hm | hm
    · rcases List.mem_append.mp hm with hm | hm
      · simp only [List.mem_cons, List.not_mem_nil, or_false] at hm
        rcases hm with rfl | rfl
        · have := h _ List.mem_cons_self
          unfold KeptW at this
          have this : -s ≤ dayOf ds (-1) - dayOf ds x := this
          omega
        · have := h _ List.mem_cons_self
          unfold KeptW at this
          have this : b + 1 ≤ dayOf ds x - dayOf ds (-1) := this
          omega
      · obtain ⟨e, he, rfl⟩ := List.mem_map.mp hm
        have := h _ List.mem_cons_self
        unfold KeptW at this
        have this : 0 ≤ dayOf ds e - dayOf ds x := this
        have := c3 e he
        omega
    · rw [List.mem_singleton.mp hm]
      exact Int.le_refl _
  · rw [if_neg c]
    exact nn
theorem ny_ex (r ds : List Int) (i : Nat) (s b : Int) : ∃ m ∈ nyC r i s b, (∀ t ∈ m.2, KeptW ds t) ∧ m.1 = if DiesAt r ds i s b then (1 : Int) else 0 := by
  have m1 := day_m1 ds
  by_cases c : DiesAt r ds i s b
  · exact ⟨(1, []), List.mem_append_right _ List.mem_cons_self, (fun t ht => by cases ht), by rw [if_pos c]⟩
  · rw [if_neg c]
    unfold DiesAt at c
    unfold nyC
    generalize r.getD i 0 = x at *
    by_cases c1 : s < dayOf ds x
    · by_cases c2 : dayOf ds x ≤ b
      · obtain ⟨e, he, h⟩ : ∃ e ∈ r.take i, ¬ dayOf ds e < dayOf ds x := Classical.byContradiction fun z => c ⟨c1, c2, fun e he => Classical.byContradiction fun y => z ⟨e, he, y⟩⟩
        refine ⟨_, List.mem_append_left _ (List.mem_append_right _ (List.mem_map.mpr ⟨e, he, rfl⟩)), fun t ht => ?_, rfl⟩
        rw [List.mem_singleton.mp ht]
        unfold KeptW
        show 0 ≤ dayOf ds e - dayOf ds x
        omega
      · refine ⟨_, List.mem_append_left _ (List.mem_append_left _ (List.mem_cons_of_mem _ List.mem_cons_self)), fun t ht => ?_, rfl⟩
        rw [List.mem_singleton.mp ht]
        unfold KeptW
        show b + 1 ≤ dayOf ds x - dayOf ds (-1)
        omega
    · refine ⟨_, List.mem_append_left _ (List.mem_append_left _ List.mem_cons_self), fun t ht => ?_, rfl⟩
      rw [List.mem_singleton.mp ht]
      unfold KeptW
      show -s ≤ dayOf ds (-1) - dayOf ds x
      omega
theorem dy_not {r ds : List Int} {i : Nat} {s b : Int} {m : Int × List Tie} (hm : m ∈ dyC r i s b) (h : ∀ t ∈ m.2, KeptW ds t) : m.1 ≤ if DiesAt r ds i s b then (1 : Int) else 0 := by
  unfold dyC at hm
  simp only [List.mem_cons, List.not_mem_nil, or_false] at hm
  rcases hm with rfl | rfl
  · rw [if_pos (dy_dies.mp h)]
    exact Int.le_refl _
  · show (0 : Int) ≤ _
    split <;> omega
theorem dy_ex (r ds : List Int) (i : Nat) (s b : Int) : ∃ m ∈ dyC r i s b, (∀ t ∈ m.2, KeptW ds t) ∧ m.1 = if DiesAt r ds i s b then (1 : Int) else 0 := by
  by_cases c : DiesAt r ds i s b
  · exact ⟨_, List.mem_cons_self, dy_dies.mpr c, by rw [if_pos c]⟩
  · exact ⟨_, List.mem_cons_of_mem _ List.mem_cons_self, (fun t ht => by cases ht), by rw [if_neg c]⟩
theorem way_part {n : Nat} {ts us : List Tie} {ds : List Int} : Way n (ts ++ us) ds ↔ Way n ts ds ∧ ∀ t ∈ us, KeptW ds t :=
  ⟨fun w => ⟨⟨w.len, w.rg, fun t ht => w.kp t (List.mem_append_left _ ht)⟩, fun t ht => w.kp t (List.mem_append_right _ ht)⟩,
   fun ⟨w, h⟩ => ⟨w.len, w.rg, fun t ht => (List.mem_append.mp ht).elim (w.kp t) (h t)⟩⟩
section
variable {n : Nat} {ts : List Tie} {r : List Int} {s b : Int}
theorem fold_good (hr : RowOk (n : Int) r) (can : Can n ts) {F : Nat → Chs} (hF : ∀ i, i < r.length → ∀ m ∈ F i, ∀ t ∈ m.2, TieIx (n : Int) t) : ∀ k, k ≤ r.length → ∀ c ∈ foldC n ts F k, GoodC n ts c
  | 0, _ => fun c hc => by
    rw [List.mem_singleton.mp hc]
    exact ⟨by rw [List.append_nil]; exact can, (fun t ht => by cases ht)⟩
  | k + 1, h => by
    rw [foldC_succ]
    exact with_good (fold_good hr can hF k (by omega)) (hF k (by omega))
theorem fold_ex (hr : RowOk (n : Int) r) (hok : ∀ t ∈ ts, TieIx (n : Int) t) (can : Can n ts) {F : Nat → Chs} (hF : ∀ i, i < r.length → ∀ m ∈ F i, ∀ t ∈ m.2, TieIx (n : Int) t) {ds : List Int} (w : Way n ts ds)
    (ex : ∀ i, ∃ m ∈ F i, (∀ t ∈ m.2, KeptW ds t) ∧ m.1 = if DiesAt r ds i s b then (1 : Int) else 0) : ∀ k, k ≤ r.length → ∃ c ∈ foldC n ts F k, c.1 = deadN r ds s b k ∧ ∀ t ∈ c.2, KeptW ds t
  | 0, _ => ⟨(0, []), List.mem_singleton.mpr rfl, rfl, (fun t ht => by cases ht)⟩
  | k + 1, h => by
    obtain ⟨c, hc, e, kp⟩ := fold_ex hr hok can hF w ex k (by omega)
    obtain ⟨m, hm, kp2, e2⟩ := ex k
    have g := fold_good hr can hF k (by omega) c hc
    rw [foldC_succ]
    refine ⟨_, mem_with.mpr ⟨c, hc, m, hm, ?_, rfl⟩, ?_, ?_⟩
    · have ix : ∀ t ∈ ts ++ (c.2 ++ m.2), TieIx (n : Int) t := app_ix hok (app_ix g.ix (hF k (by omega) m hm))
      exact ⟨_, (way_part.mpr ⟨w, keptAll_app.mpr ⟨kp, kp2⟩⟩).feas ix⟩
    · show c.1 + m.1 = _
      rw [deadN_succ, e, e2]
    · exact keptAll_app.mpr ⟨kp, kp2⟩
theorem few_state {k : Nat} : ∀ c ∈ foldC n ts (fun i => nyC r i s b) k, ∀ ds, Way n (ts ++ c.2) ds → deadN r ds s b k ≤ c.1 := by
  induction k with
  | zero =>
    intro c hc ds w
    rw [List.mem_singleton.mp hc]
    exact Int.le_refl _
  | succ k ih =>
    intro x hx ds w
    rw [foldC_succ] at hx
    obtain ⟨c, hc, m, hm, _, rfl⟩ := mem_with.mp hx
    obtain ⟨w0, kp⟩ := way_part.mp w
    obtain ⟨k1, k2⟩ := keptAll_app.mp kp
    have h1 := ih c hc ds (way_part.mpr ⟨w0, k1⟩)
    have h2 := ny_not hm k2
    rw [deadN_succ]
    show _ ≤ c.1 + m.1
    omega
theorem most_state {k : Nat} : ∀ c ∈ foldC n ts (fun i => dyC r i s b) k, ∀ ds, Way n (ts ++ c.2) ds → c.1 ≤ deadN r ds s b k := by
  induction k with
  | zero =>
    intro c hc ds w
    rw [List.mem_singleton.mp hc]
    exact Int.le_refl _
  | succ k ih =>
    intro x hx ds w
    rw [foldC_succ] at hx
    obtain ⟨c, hc, m, hm, _, rfl⟩ := mem_with.mp hx
    obtain ⟨w0, kp⟩ := way_part.mp w
    obtain ⟨k1, k2⟩ := keptAll_app.mp kp
    have h1 := ih c hc ds (way_part.mpr ⟨w0, k1⟩)
    have h2 := dy_not hm k2
    rw [deadN_succ]
    show c.1 + m.1 ≤ _
    omega
def IsFewD (n : Nat) (ts : List Tie) (r : List Int) (s b k : Int) : Prop := (∃ ds, Way n ts ds ∧ deadN r ds s b r.length = k) ∧ ∀ ds, Way n ts ds → k ≤ deadN r ds s b r.length
def IsMostD (n : Nat) (ts : List Tie) (r : List Int) (s b k : Int) : Prop := (∃ ds, Way n ts ds ∧ deadN r ds s b r.length = k) ∧ ∀ ds, Way n ts ds → deadN r ds s b r.length ≤ k
theorem few_best (hr : RowOk (n : Int) r) (hok : ∀ t ∈ ts, TieIx (n : Int) t) (can : Can n ts) {c : Int × List Tie} (hc : c ∈ foldC n ts (fun i => nyC r i s b) r.length) (hm : ∀ d ∈ foldC n ts (fun i => nyC r i s b) r.length, c.1 ≤ d.1) :
    (∀ ds, Way n (ts ++ c.2) ds → Way n ts ds ∧ deadN r ds s b r.length = c.1) ∧ IsFewD n ts r s b c.1 := by
  have low : ∀ ds, Way n ts ds → c.1 ≤ deadN r ds s b r.length := fun ds w => by
    obtain ⟨d, hd, e, _⟩ := fold_ex hr hok can (fun i hi => ny_ix hr hi) w (fun i => ny_ex r ds i s b) r.length (Nat.le_refl _)
    rw [← e]
    exact hm d hd
  have all : ∀ ds, Way n (ts ++ c.2) ds → Way n ts ds ∧ deadN r ds s b r.length = c.1 := fun ds w => by
    have w0 := (way_part.mp w).1
    have := few_state c hc ds w
    have := low ds w0
    exact ⟨w0, by omega⟩
  have g := fold_good hr can (fun i hi => ny_ix hr hi) r.length (Nat.le_refl _) c hc
  obtain ⟨w1, e1⟩ := all _ (can_way (app_ix hok g.ix) g.can)
  exact ⟨all, ⟨_, w1, e1⟩, low⟩
theorem most_best (hr : RowOk (n : Int) r) (hok : ∀ t ∈ ts, TieIx (n : Int) t) (can : Can n ts) {c : Int × List Tie} (hc : c ∈ foldC n ts (fun i => dyC r i s b) r.length) (hm : ∀ d ∈ foldC n ts (fun i => dyC r i s b) r.length, d.1 ≤ c.1) :
    (∀ ds, Way n (ts ++ c.2) ds → Way n ts ds ∧ deadN r ds s b r.length = c.1) ∧ IsMostD n ts r s b c.1 := by
  have high : ∀ ds, Way n ts ds → deadN r ds s b r.length ≤ c.1 := fun ds w => by
    obtain ⟨d, hd, e, _⟩ := fold_ex hr hok can (fun i hi => dy_ix hr hi) w (fun i => dy_ex r ds i s b) r.length (Nat.le_refl _)
    rw [← e]
    exact hm d hd
  have all : ∀ ds, Way n (ts ++ c.2) ds → Way n ts ds ∧ deadN r ds s b r.length = c.1 := fun ds w => by
    have w0 := (way_part.mp w).1
    have := most_state c hc ds w
    have := high ds w0
    exact ⟨w0, by omega⟩
  have g := fold_good hr can (fun i hi => dy_ix hr hi) r.length (Nat.le_refl _) c hc
  obtain ⟨w1, e1⟩ := all _ (can_way (app_ix hok g.ix) g.can)
  exact ⟨all, ⟨_, w1, e1⟩, high⟩
theorem dy_len (r : List Int) (i : Nat) (s b : Int) : (dyC r i s b).length = 2 := rfl
theorem ny_len (r : List Int) (i : Nat) (s b : Int) : (nyC r i s b).length ≤ i + 3 := by
  unfold nyC
  simp
  omega
end
end LH
namespace LH
open PySem PySem.Spec PyProof.Rows L2
def ChoiceAt (H : Hp) (v : V) (m : Int × List Tie) : Prop := ∃ (p l : Addr) (xs : List V), v = .ref p ∧ H p = some (.tup [.int m.1, .ref l]) ∧ H l = some (.lst xs) ∧ TiesAt H xs m.2
theorem ChoiceAt.mono {H H' : Hp} {v : V} {m : Int × List Tie} (e : Same H H') (h : ChoiceAt H v m) : ChoiceAt H' v m := by
  obtain ⟨p, l, xs, h1, h2, h3, h4⟩ := h
  exact ⟨p, l, xs, h1, e _ _ h2, e _ _ h3, h4.mono e⟩
theorem choices_mono {H H' : Hp} {vs : List V} {C : Chs} (e : Same H H') (h : AllAt (ChoiceAt H) vs C) : AllAt (ChoiceAt H') vs C := AllAt.imp (fun _ _ => ChoiceAt.mono e) h
def ChoiceN (D : Addr) (H : Hp) (v : V) (m : Int × List Tie) : Prop := ∃ (p l : Addr) (xs : List V), v = .ref p ∧ l ≠ D ∧ H p = some (.tup [.int m.1, .ref l]) ∧ H l = some (.lst xs) ∧ TiesAt H xs m.2
theorem choiceN_mono {D : Addr} {H H' : Hp} {vs : List V} {C : Chs} (e : Same H H') (h : AllAt (ChoiceN D H) vs C) : AllAt (ChoiceN D H') vs C := AllAt.imp (fun _ _ ⟨p, l, xs, h1, h2, h3, h4, h5⟩ => ⟨p, l, xs, h1, h2, e _ _ h3, e _ _ h4, h5.mono e⟩) h
theorem choiceN_upd {D : Addr} {H : Hp} {o : HO} {zs : List V} (hD : H D = some (.lst zs)) {vs : List V} {C : Chs} (h : AllAt (ChoiceN D H) vs C) : AllAt (ChoiceN D (upd H D o)) vs C :=
  AllAt.imp (fun _ _ ⟨p, l, xs, h1, h2, h3, h4, h5⟩ => ⟨p, l, xs, h1, h2, by rw [upd_ne (ne_of h3 hD (by intro z; cases z))]; exact h3, by rw [upd_ne h2]; exact h4, TiesAt.updL hD h5⟩) h
theorem choiceN_at {D : Addr} {H : Hp} {vs : List V} {C : Chs} (h : AllAt (ChoiceN D H) vs C) : AllAt (ChoiceAt H) vs C := AllAt.imp (fun _ _ ⟨p, l, xs, h1, _, h3, h4, h5⟩ => ⟨p, l, xs, h1, h3, h4, h5⟩) h
def StateAt (K : PySem.W.Frag) (n : Nat) (ts : List Tie) (H : Hp) (v : V) (c : Int × List Tie) : Prop := ∃ (p q : Addr) (as : List Addr), v = .ref p ∧ H p = some (.tup [.int c.1, .ref q]) ∧ H q = some (.lst (as.map V.ref)) ∧ MatAt H as (gapsG n (ts ++ c.2)) n
theorem StateAt.mono {K : PySem.W.Frag} {n : Nat} {ts : List Tie} {H H' : Hp} {v : V} {c : Int × List Tie} (e : Same H H') (h : StateAt K n ts H v c) : StateAt K n ts H' v c := by
  obtain ⟨p, q, as, h1, h2, h3, h4⟩ := h
  exact ⟨p, q, as, h1, e _ _ h2, e _ _ h3, h4.mono e⟩
theorem states_mono {K : PySem.W.Frag} {n : Nat} {ts : List Tie} {H H' : Hp} {vs : List V} {S : Chs} (e : Same H H') (h : AllAt (StateAt K n ts H) vs S) : AllAt (StateAt K n ts H') vs S := AllAt.imp (fun _ _ => StateAt.mono e) h
def StateN (K : PySem.W.Frag) (n : Nat) (ts : List Tie) (D : Addr) (H : Hp) (v : V) (c : Int × List Tie) : Prop := ∃ (p q : Addr) (as : List Addr), v = .ref p ∧ q ≠ D ∧ (∀ a ∈ as, a ≠ D) ∧ H p = some (.tup [.int c.1, .ref q]) ∧ H q = some (.lst (as.map V.ref)) ∧ MatAt H as (gapsG n (ts ++ c.2)) n
theorem stateN_mono {K : PySem.W.Frag} {n : Nat} {ts : List Tie} {D : Addr} {H H' : Hp} {vs : List V} {S : Chs} (e : Same H H') (h : AllAt (StateN K n ts D H) vs S) : AllAt (StateN K n ts D H') vs S := AllAt.imp (fun _ _ ⟨p, q, as, h1, n2, n3, h2, h3, h4⟩ => ⟨p, q, as, h1, n2, n3, e _ _ h2, e _ _ h3, h4.mono e⟩) h
theorem stateN_upd {K : PySem.W.Frag} {n : Nat} {ts : List Tie} {D : Addr} {H : Hp} {o : HO} {zs : List V} (hD : H D = some (.lst zs)) {vs : List V} {S : Chs} (h : AllAt (StateN K n ts D H) vs S) : AllAt (StateN K n ts D (upd H D o)) vs S :=
  AllAt.imp (fun _ _ ⟨p, q, as, h1, n2, n3, h2, h3, h4⟩ => ⟨p, q, as, h1, n2, n3, by rw [upd_ne (ne_of h2 hD (by intro z; cases z))]; exact h2, by rw [upd_ne n2]; exact h3, ⟨h4.len, h4.nd, fun i a ha => by rw [upd_ne (n3 a (List.mem_of_getElem? ha))]; exact h4.row i a ha⟩⟩) h
theorem stateN_at {K : PySem.W.Frag} {n : Nat} {ts : List Tie} {D : Addr} {H : Hp} {vs : List V} {S : Chs} (h : AllAt (StateN K n ts D H) vs S) : AllAt (StateAt K n ts H) vs S := AllAt.imp (fun _ _ ⟨p, q, as, h1, _, _, h2, h3, h4⟩ => ⟨p, q, as, h1, h2, h3, h4⟩) h
theorem states_refs {K : PySem.W.Frag} {n : Nat} {ts : List Tie} {H : Hp} : ∀ {vs : List V} {S : Chs}, AllAt (StateAt K n ts H) vs S → ∃ ps : List Addr, vs = ps.map V.ref
  | [], [], _ => ⟨[], rfl⟩
  | _ :: _, _ :: _, h => by
    obtain ⟨⟨p, q, as, rfl, _⟩, h2⟩ := h
    obtain ⟨ps, rfl⟩ := states_refs h2
    exact ⟨p :: ps, rfl⟩
end LH
namespace LH
open PySem PySem.Spec PyProof.Rows L2
/-- what is asked of deaths in holding -/
def AskB (K : PySem.W.Frag) (H : Hp) (E : XK) (m : Int) (ts : List Tie) (r : List Int) (s : Int) (o : Option Int) (G : Prop) : Prop :=
  Ways (CountOk m) (Ways (TiesOk m ts) (Ways (Can m.toNat ts) (Ways (RowOk m r) (Ways (RunOk s o) G
    (∀ H', Same H H' → E (.ref (He.ga K "BadDay")) none H')) (∀ H', Same H H' → E (.ref (He.ga K "BadRow")) none H'))
    (∀ H', Same H H' → E (.ref (He.ga K "CantBe")) none H')) (E (.ref (He.ga K "BadTie")) none H)) (E (.ref (He.ga K "BadCount")) none H)
theorem AskB.imp {K : PySem.W.Frag} {H : Hp} {E : XK} {m : Int} {ts : List Tie} {r : List Int} {s : Int} {o : Option Int} {G G' : Prop} (h : AskB K H E m ts r s o G) (f : CountOk m → TiesOk m ts → Can m.toNat ts → RowOk m r → RunOk s o → G → G') : AskB K H E m ts r s o G' :=
  .or (fun a => .or (fun b => .or (fun c => .or (fun d => .or (fun e => f a b c d e (((((h.1 a).1 b).1 c).1 d).1 e)) ((((h.1 a).1 b).1 c).1 d).2) (((h.1 a).1 b).1 c).2) ((h.1 a).1 b).2) (h.1 a).2) h.2
theorem AskB.good {K : PySem.W.Frag} {H : Hp} {E : XK} {m : Int} {ts : List Tie} {r : List Int} {s : Int} {o : Option Int} {G : Prop} (a : CountOk m) (b : TiesOk m ts) (c : Can m.toNat ts) (d : RowOk m r) (e : RunOk s o) (h : G) : AskB K H E m ts r s o G :=
  .or (fun _ => .or (fun _ => .or (fun _ => .or (fun _ => .or (fun _ => h) fun z => absurd e z) fun z => absurd d z) fun z => absurd c z) fun z => absurd b z) fun z => absurd a z
theorem cut_take {r : List Int} {i : Nat} (hi : i ≤ r.length) : cutV (r.map V.int) none (some (i : Int)) = (r.take i).map V.int := by
  unfold cutV
  rw [HT.sIx_nat, HT.sIx_none, List.length_map, List.drop_zero, Nat.sub_zero, show min i r.length = i by omega, List.map_take]
theorem rowD_of {r : List Int} {i : Nat} {x : Int} (h : r[i]? = some x) : r.getD i 0 = x := by
  rw [List.getD_eq_getElem?_getD, h]
  rfl
end LH
namespace LH
open PySem PySem.Spec PyProof.Rows L2
theorem ties_of_all {H : Hp} : ∀ {vs : List V} {ts : List Tie}, AllAt (TieAt H) vs ts → TiesAt H vs ts
  | [], [], _ => trivial
  | _ :: _, _ :: _, h => ⟨h.1, ties_of_all h.2⟩
end LH
namespace LH
open PySem PySem.Spec PyProof.Rows L2
theorem fold_len {n : Nat} {ts : List Tie} {F : Nat → Chs} : ∀ k, (∀ i, i < k → (F i).length ≤ 6) → (foldC n ts F k).length ≤ 6 ^ k
  | 0, _ => Nat.le_refl _
  | k + 1, h => by
    rw [foldC_succ, Nat.pow_succ]
    refine Nat.le_trans (with_len n ts (F k) (foldC n ts F k)) (Nat.mul_le_mul (fold_len k fun i hi => h i (by omega)) (h k (by omega)))
theorem six_le {k : Nat} (h : k ≤ 4) : 6 ^ k ≤ 1296 := by
  match k, h with
  | 0, _ => decide
  | 1, _ => decide
  | 2, _ => decide
  | 3, _ => decide
  | 4, _ => decide
theorem states_key {K : PySem.W.Frag} {n : Nat} {ts : List Tie} {H : Hp} {ps : List Addr} {S : Chs} (h : AllAt (StateAt K n ts H) (ps.map V.ref) S) {i : Nat} {p : Addr} (hi : ps[i]? = some p) : ∃ c q, S[i]? = some c ∧ H p = some (.tup [.int c.1, .ref q]) ∧ StateAt K n ts H (.ref p) c ∧ (S.getD i (0, [])).1 = c.1 := by
  obtain ⟨c, hc, st⟩ := AllAt.get h (show (ps.map V.ref)[i]? = some (V.ref p) by rw [List.getElem?_map, hi]; rfl)
  have st2 := st
  obtain ⟨p', q, as, e, h1, _⟩ := st
  cases e
  exact ⟨c, q, hc, h1, st2, by rw [List.getD_eq_getElem?_getD, hc]; rfl⟩
end LH
namespace LH
open PySem PySem.Spec PyProof.Rows L2
theorem dead_step {r ds : List Int} {s b : Int} {k : Nat} (hk : k < r.length) : (turnsS (r.take k) ds s b).2 < min (dayOf ds (r.getD k 0)) b ∧ dayOf ds (r.getD k 0) ≤ b ↔ DiesAt r ds k s b := by
  have g := turnsS_ge ds s b (r.take k)
  have sn := turns_seen (ds := ds) (s := s) (b := b) (r.take k)
  have hi := here_is (ds := ds) (s := s) (b := b) (r.take k)
  unfold DiesAt
  generalize (turnsS (r.take k) ds s b).2 = T at *
  generalize dayOf ds (r.getD k 0) = d at *
  constructor
  · rintro ⟨h1, h2⟩
    refine ⟨by omega, h2, fun e he => ?_⟩
    have := sn e he
    omega
  · rintro ⟨h1, h2, h3⟩
    refine ⟨?_, h2⟩
    rcases hi with h | ⟨e, he, h⟩
    · omega
    · have := h3 e he
      omega
theorem dead_len {r ds : List Int} {s b : Int} : ∀ k, k ≤ r.length → ((((turnsS (r.take k) ds s b).1.filter fun t => decide (t.2.2 = dayOf ds t.1)).length : Nat) : Int) = deadN r ds s b k
  | 0, _ => rfl
  | k + 1, h => by
    have ih := dead_len (r := r) (ds := ds) (s := s) (b := b) k (by omega)
    have hk : k < r.length := by omega
    have st := dead_step (ds := ds) (s := s) (b := b) hk
    have hx : r[k]? = some (r.getD k 0) := by
      rw [List.getD_eq_getElem?_getD, List.getElem?_eq_getElem hk]
      rfl
    rw [turnsS_take hx, deadN_succ, ← ih]
    generalize r.getD k 0 = x at *
    unfold stepT
    by_cases c : (turnsS (r.take k) ds s b).2 < min (dayOf ds x) b
    · rw [if_pos c]
      show (((List.filter _ ((turnsS (r.take k) ds s b).1 ++ [_])).length : Nat) : Int) = _
      rw [List.filter_append, List.length_append]
      by_cases c2 : dayOf ds x ≤ b
      · rw [if_pos (st.mp ⟨c, c2⟩), List.filter_cons_of_pos (by simp; omega)]
        simp
      · rw [if_neg (fun z => c2 (st.mpr z).2), List.filter_cons_of_neg (by simp; omega)]
        simp
    · rw [if_neg c, if_neg (fun z => c (st.mpr z).1)]
      omega
theorem dead_is (r ds : List Int) (s b : Int) : ((deadOf r ds s b).length : Int) = deadN r ds s b r.length := by
  unfold deadOf turnsOf
  rw [List.length_map, ← dead_len (r := r) r.length (Nat.le_refl _), List.take_length]
def deadF (ds : List Int) (t : Tie) : Option Int := if dayOf ds t.1 = t.2.2 then some t.1 else none
theorem deadF_is (r ds : List Int) (s b : Int) : (turnsOf r ds s b).filterMap (deadF ds) = deadOf r ds s b := by
  unfold deadOf
  generalize turnsOf r ds s b = us
  induction us with
  | nil => rfl
  | cons u us ih =>
    unfold deadF at *
    by_cases c : dayOf ds u.1 = u.2.2
    · simp [c, ih]
    · have c2 : ¬ u.2.2 = dayOf ds u.1 := fun z => c z.symm
      simp [c, c2, ih]
theorem turn_in {r ds : List Int} {s b : Int} {t : Int × Int × Int} (h : t ∈ turnsOf r ds s b) : t.1 ∈ r := by
  unfold turnsOf at h
  revert t
  refine snoc_ind (P := fun l => ∀ {t : Int × Int × Int}, t ∈ (turnsS l ds s b).1 → t.1 ∈ l) (fun {t} h => by cases h) (fun l x ih => ?_) r
  intro t h
  rw [turnsS_snoc] at h
  unfold stepT at h
  split at h
  · rcases List.mem_append.mp h with h | h
    · exact List.mem_append_left _ (ih h)
    · rw [List.mem_singleton.mp h]
      exact List.mem_append_right _ (List.mem_singleton.mpr rfl)
  · exact List.mem_append_left _ (ih h)
section
variable {n : Nat} {ts : List Tie} {r : List Int} {s b : Int} {W : List (List Int)}
theorem met_fewD (hW : ∀ ds, ds ∈ W ↔ Way n ts ds) {k m : Int} (h : IsFewD n ts r s b k) (h1 : m ∈ W.map fun ds => ((deadOf r ds s b).length : Int)) (h2 : ∀ y ∈ W.map fun ds => ((deadOf r ds s b).length : Int), m ≤ y) : k = m := by
  obtain ⟨⟨ds, w, e⟩, h⟩ := h
  obtain ⟨es, hs, e2⟩ := List.mem_map.mp h1
  have a := h es ((hW es).mp hs)
  have c := h2 _ (List.mem_map.mpr ⟨ds, (hW ds).mpr w, rfl⟩)
  have e2 : ((deadOf r es s b).length : Int) = m := e2
  have c : m ≤ ((deadOf r ds s b).length : Int) := c
  rw [dead_is] at e2 c
  omega
theorem met_mostD (hW : ∀ ds, ds ∈ W ↔ Way n ts ds) {k m : Int} (h : IsMostD n ts r s b k) (h1 : m ∈ W.map fun ds => ((deadOf r ds s b).length : Int)) (h2 : ∀ y ∈ W.map fun ds => ((deadOf r ds s b).length : Int), y ≤ m) : k = m := by
  obtain ⟨⟨ds, w, e⟩, h⟩ := h
  obtain ⟨es, hs, e2⟩ := List.mem_map.mp h1
  have a := h es ((hW es).mp hs)
  have c := h2 _ (List.mem_map.mpr ⟨ds, (hW ds).mpr w, rfl⟩)
  have e2 : ((deadOf r es s b).length : Int) = m := e2
  have c : ((deadOf r ds s b).length : Int) ≤ m := c
  rw [dead_is] at e2 c
  omega
end
section
variable {α : Type} {K : PySem.W.Frag} {a : Addr} {xs : List V} {us : List α} {g : TG} {tt : TT} {te : TE} {vs : List Nat} {σ : L2.St} {H1 : Hp} {D : Addr} {Qd : Hp → Prop}
/-- an int of each item of a tuple -/
theorem lt_ints (P : Hp → V → α → Prop) (f : α → Int) (mP : ∀ {H H' v u}, Same H H' → P H v u → P H' v u) (nD : H1 D = none) (hA : SqT K H1 a xs) (hP : AllAt (P H1) xs us) (hl : us.length ≤ 50000)
    (hs : ∀ (i : Nat) (v : V) (u : α) (H2 : Hp) (C : VK) (C2 : Hp → Prop), us[i]? = some u → Same H1 H2 → P H2 v u → (∀ H4, Same H2 H4 → C (.int (f u)) H4) →
      g v (wipe σ vs) H2 fun σ2 H3 => wipe σ2 vs = wipe σ vs ∧ tt σ2 H3 fun b H3 => if b = true then te σ2 H3 C else C2 H3)
    (hd : ∀ H, Same H1 H → H D = some (.lst ((us.map f).map V.int)) → Qd H) :
    ∃ W : Nat → Nat → Hp → Prop, (∃ m, W 0 m (upd H1 D (.lst []))) ∧ ∀ i m H, W i m H →
      ((Itt K a).stop i H ∧ Qd H) ∨ ((Itt K a).go i H ∧ ∃ Nx : Hp → Prop, (∀ H', Nx H' → ∃ m', m' < m ∧ W (i + 1) m' H') ∧ ∀ x H', (Itt K a).yld i H x H' → g x (wipe σ vs) H' fun σ2 H2 => wipe σ2 vs = wipe σ vs ∧ tt σ2 H2 fun b H3 =>
        if b = true then te σ2 H3 fun y H4 => ∃ acc, H4 D = some (.lst acc) ∧ acc.length < sizeLine ∧ Nx (upd H4 D (.lst (acc ++ [y]))) else Nx H3) := by
  have el := AllAt.length hP
  refine lc_tup (K := K) (a := a) (xs := xs) (fun i H2 => Same H1 H2 ∧ H2 D = some (.lst (((us.take i).map f).map V.int))) ⟨same_new nD, upd_same⟩ (fun i H2 _ z => same_t z.1 hA) ?_ ?_
  · rintro i y H2 hi ⟨s2, hD⟩
    obtain ⟨u, hu, hp⟩ := AllAt.get hP hi
    have il := (List.getElem?_eq_some_iff.mp hu).1
    refine hs i y u H2 _ _ hu s2 (mP s2 hp) fun H4 s4 => ?_
    refine ⟨_, s4 _ _ hD, sz_lt (by rw [List.length_map, List.length_map, List.length_take]; omega), same_mut (s2.trans s4) nD, ?_⟩
    rw [upd_same, List.take_succ, hu, List.map_append, List.map_append]
    rfl
  · rintro H2 ⟨s2, hD⟩
    rw [el, List.take_length] at hD
    exact hd H2 s2 hD
end
end LH

set_option Elab.async false
set_option linter.all false
set_option maxRecDepth 100000
set_option maxHeartbeats 4000000
/-! the dead of a run, as a sorted row that is sifted -/
namespace LH
open PySem PySem.Spec PyProof.Rows L2
structure TurnsAll (r ds : List Int) (s b : Int) : Prop where
  each : ∀ t ∈ (turnsS r ds s b).1, s ≤ t.2.1 ∧ t.2.1 < t.2.2 ∧ t.2.2 = min (dayOf ds t.1) b ∧ t.2.2 ≤ (turnsS r ds s b).2
  row : (turnsS r ds s b).1.Pairwise fun t u => t.2.2 ≤ u.2.2
  cover : ∀ d, s ≤ d → d < (turnsS r ds s b).2 → ∃ t ∈ (turnsS r ds s b).1, t.2.1 ≤ d ∧ d < t.2.2
  sub : ((turnsS r ds s b).1.map fun t => t.1).Sublist r
theorem turns_all (ds : List Int) (s b : Int) (r : List Int) : TurnsAll r ds s b := by
  refine snoc_ind (P := fun r => TurnsAll r ds s b) ?_ (fun r x ih => ?_) r
  · refine ⟨fun t ht => (by cases ht), List.Pairwise.nil, fun d h1 h2 => ?_, List.nil_sublist _⟩
    have h2 : d < s := h2
    omega
  · obtain ⟨h1, h2, h3, h4⟩ := ih
    have g := turnsS_ge ds s b r
    have e : turnsS (r ++ [x]) ds s b = stepT ds b (turnsS r ds s b) x := turnsS_snoc r ds s b x
    unfold stepT at e
    generalize hz : turnsS r ds s b = z at *
    obtain ⟨ts, here⟩ := z
    dsimp only at *
    by_cases c : here < min (dayOf ds x) b
    · rw [if_pos c] at e
      constructor
      · intro t ht
        rw [e] at ht ⊢
        rcases List.mem_append.mp ht with ht | ht
        · obtain ⟨a1, a2, a3, a4⟩ := h1 t ht
          exact ⟨a1, a2, a3, by show t.2.2 ≤ min (dayOf ds x) b; omega⟩
        · rw [List.mem_singleton.mp ht]
          exact ⟨g, c, rfl, Int.le_refl _⟩
      · rw [e]
        refine List.pairwise_append.mpr ⟨h2, List.pairwise_singleton _ _, fun t ht u hu => ?_⟩
        rw [List.mem_singleton.mp hu]
        have := (h1 t ht).2.2.2
        show t.2.2 ≤ min (dayOf ds x) b
        omega
      · intro d d1 d2
        rw [e] at d2 ⊢
        have d2 : d < min (dayOf ds x) b := d2
        by_cases cd : d < here
        · obtain ⟨t, ht, k⟩ := h3 d d1 cd
          exact ⟨t, List.mem_append_left _ ht, k⟩
        · exact ⟨_, List.mem_append_right _ (List.mem_singleton.mpr rfl), by show here ≤ d; omega, d2⟩
      · rw [e]
        show ((ts ++ [(x, here, min (dayOf ds x) b)]).map fun t => t.1).Sublist (r ++ [x])
        rw [List.map_append]
        exact h4.append (List.Sublist.refl _)
    · rw [if_neg c] at e
      exact ⟨by rw [e]; exact h1, by rw [e]; exact h2, by rw [e]; exact h3, by rw [e]; exact h4.trans (List.sublist_append_left _ _)⟩
/-- the law's own sieve -/
def diesP (r ds : List Int) (s b l : Int) : Bool := (decide (s ≤ dayOf ds l - 1) && decide (dayOf ds l - 1 < b)) && decide (holderOf r ds (dayOf ds l - 1) = l)
theorem dead_mem {r ds : List Int} {s b l : Int} : l ∈ deadOf r ds s b ↔ l ∈ r ∧ diesP r ds s b l = true := by
  have A := turns_all ds s b r
  unfold deadOf turnsOf diesP
  constructor
  · intro h
    obtain ⟨t, ht, rfl⟩ := List.mem_map.mp h
    obtain ⟨h1, h2⟩ := List.mem_filter.mp ht
    have h2 : t.2.2 = dayOf ds t.1 := of_decide_eq_true h2
    obtain ⟨a1, a2, a3, a4⟩ := A.each t h1
    have hh := turns_holder r h1 (d := dayOf ds t.1 - 1) (by omega) (by omega)
    refine ⟨A.sub.subset (List.mem_map.mpr ⟨t, h1, rfl⟩), ?_⟩
    rw [Bool.and_eq_true, Bool.and_eq_true]
    exact ⟨⟨decide_eq_true (by omega), decide_eq_true (by omega)⟩, decide_eq_true hh⟩
  · rintro ⟨hr, h⟩
    rw [Bool.and_eq_true, Bool.and_eq_true] at h
    obtain ⟨⟨k1, k2⟩, k3⟩ := h
    have k1 := of_decide_eq_true k1
    have k2 := of_decide_eq_true k2
    have k3 := of_decide_eq_true k3
    have sn := turns_seen (ds := ds) (s := s) (b := b) r l hr
    obtain ⟨t, ht, c1, c2⟩ := A.cover (dayOf ds l - 1) k1 (by omega)
    have hh := turns_holder r ht c1 c2
    have e : t.1 = l := by rw [← hh]; exact k3
    obtain ⟨a1, a2, a3, a4⟩ := A.each t ht
    rw [e] at a3
    exact List.mem_map.mpr ⟨t, List.mem_filter.mpr ⟨ht, decide_eq_true (by rw [e]; omega)⟩, e⟩
theorem dead_sorted {r ds : List Int} {s b : Int} (nd : r.Nodup) : (sortD r ds).filter (diesP r ds s b) = deadOf r ds s b := by
  have A := turns_all ds s b r
  have pm : (sortD r ds).Perm r := List.mergeSort_perm _ _
  have d1 : ((sortD r ds).filter (diesP r ds s b)).Nodup := (pm.nodup_iff.mpr nd).sublist List.filter_sublist
  have sub : (deadOf r ds s b).Sublist ((turnsS r ds s b).1.map fun t => t.1) := List.Sublist.map _ List.filter_sublist
  have d2 : (deadOf r ds s b).Nodup := nd.sublist (sub.trans A.sub)
  refine List.Perm.eq_of_pairwise (le := fun a c => dayOf ds a ≤ dayOf ds c) ?_ ?_ ?_ ?_
  · intro a c ha hc h1 h2
    have ha := (List.mem_filter.mp ha).2
    have hc := (dead_mem.mp hc).2
    unfold diesP at ha hc
    rw [Bool.and_eq_true, Bool.and_eq_true] at ha hc
    have ha := of_decide_eq_true ha.2
    have hc := of_decide_eq_true hc.2
    have e : dayOf ds a = dayOf ds c := by omega
    rw [e] at ha
    rw [← ha, hc]
  · have h := List.pairwise_mergeSort (le := fun a c => decide (dayOf ds a ≤ dayOf ds c)) (fun a b c h1 h2 => decide_eq_true (by have := of_decide_eq_true h1; have := of_decide_eq_true h2; omega)) (fun a b => by
      rw [Bool.or_eq_true, decide_eq_true_eq, decide_eq_true_eq]
      omega) r
    exact (h.imp fun z => of_decide_eq_true z).filter _
  · unfold deadOf turnsOf
    refine List.pairwise_map.mpr ?_
    refine List.Pairwise.imp_of_mem (R := fun t u => t.2.2 ≤ u.2.2) (fun {t u} ht hu h => ?_) (A.row.filter _)
    have e1 : t.2.2 = dayOf ds t.1 := of_decide_eq_true (List.mem_filter.mp ht).2
    have e2 : u.2.2 = dayOf ds u.1 := of_decide_eq_true (List.mem_filter.mp hu).2
    omega
  · refine (List.perm_ext_iff_of_nodup d1 d2).mpr fun l => ?_
    rw [List.mem_filter, dead_mem, pm.mem_iff]
end LH

namespace K18
open PySem PySem.Spec PyProof.Rows L2 LH
section
variable {P : Program} {w : World} {K : PySem.W.Frag} {mg : Str → Option Value} {base : Heap}
theorem sc_is_day : FnScope N_is_day ["number"] (defScope s_is_day) := ⟨rfl, rfl, rfl, by decide +kernel, rfl, by decide +kernel, by decide +kernel⟩
def sp_is_day : Sp := fun vs H Q _ => ∃ n : Int, vs = [.int n] ∧ Q (.bl (decide (0 ≤ n ∧ n ≤ 9999))) H
theorem ok_is_day {f : Addr} {fd : FuncData} (F : FnP K "is_day" s_is_day f fd) (T : Txt K mg) : FnOk P w K mg base CX0 1 f fd ["number"] (sp_is_day) := by
  refine F.ok sc_is_day (fun vs H Q E h => ?_) (fun cdv A outer s H vs Q E hr h => ?_)
  · obtain ⟨n, rfl, _⟩ := h
    rfl
  · obtain ⟨n, rfl, k⟩ := h
    refine ⟨_, PSs.nox (pss_one (ps_ret (pe_chain op_le op_le pe_int (pv 0) (pe_const T.c_LAST_DAY)))), ?_⟩
    refine ⟨_, rfl, _, _, rfl, rfl, _, rfl, ?_⟩
    refine ite2 (fun c1 => ?_) (fun c1 => ?_)
    · have c1 := of_decide_eq_true c1
      refine ⟨_, _, rfl, rfl, ?_⟩
      have e : decide (0 ≤ n ∧ n ≤ 9999) = decide (n ≤ 9999) := by simp [c1]
      rw [e] at k
      exact k
    · have e : decide (0 ≤ n ∧ n ≤ 9999) = false := decide_eq_false (fun z => c1 (decide_eq_true z.1))
      rw [e] at k
      exact k

theorem sc_check_count : FnScope N_check_count ["many"] (defScope s_check_count) := ⟨rfl, rfl, rfl, by decide +kernel, rfl, by decide +kernel, by decide +kernel⟩
def sp_check_count (K : PySem.W.Frag) : Sp := fun vs H Q E => ∃ m : Int, vs = [.int m] ∧ Ways (CountOk m) (Q .non H) (E (.ref (He.ga K "BadCount")) none H)
theorem ok_check_count {f : Addr} {fd : FuncData} (F : FnP K "check_count" s_check_count f fd) (T : Txt K mg) : FnOk P w K mg base (L2N.CX P w) 1 f fd ["many"] (sp_check_count K) := by
  refine F.ok sc_check_count (fun vs H Q E h => ?_) (fun cdv A outer s H vs Q E hr h => ?_)
  · obtain ⟨m, rfl, _⟩ := h
    rfl
  · obtain ⟨m, rfl, k1, k2⟩ := h
    refine ⟨_, (pss_one (ps_if (pt_not (pt_chain op_le op_le pe_int (pv 0) (pe_const T.c_MOST_LIVES))) (pss_one (rise T.e_BadCount T.g_BadCount rfl (L2N.takes_of rfl rfl rfl rfl))) pss_nil)), ?_⟩
    refine ⟨_, rfl, _, _, rfl, rfl, _, rfl, ?_⟩
    refine ite2 (fun c1 => ?_) (fun c1 => ⟨_, rfl, iteT (k2 fun z => c1 (decide_eq_true z.1))⟩)
    refine ⟨_, _, rfl, rfl, _, rfl, ?_⟩
    by_cases c2 : m ≤ 10
    · rw [decide_eq_true c2]
      exact iteF (k1 ⟨of_decide_eq_true c1, c2⟩)
    · rw [decide_eq_false c2]
      exact iteT (k2 fun z => c2 z.2)

theorem sc_check_day : FnScope N_check_day ["day"] (defScope s_check_day) := ⟨rfl, rfl, rfl, by decide +kernel, rfl, by decide +kernel, by decide +kernel⟩
def sp_check_day (K : PySem.W.Frag) : Sp := fun vs H Q E => ∃ d : Int, vs = [.int d] ∧ Ways (DayOk d) (Q .non H) (E (.ref (He.ga K "BadDay")) none H)
theorem ok_check_day {f : Addr} {fd : FuncData} (F : FnP K "check_day" s_check_day f fd) (T : Txt K mg) (C_is_day : Own P w K mg base "is_day" ["number"] 1 (sp_is_day)) : FnOk P w K mg base (L2N.CX P w) 2 f fd ["day"] (sp_check_day K) := by
  refine F.ok sc_check_day (fun vs H Q E h => ?_) (fun cdv A outer s H vs Q E hr h => ?_)
  · obtain ⟨d, rfl, _⟩ := h
    rfl
  · obtain ⟨d, rfl, k1, k2⟩ := h
    refine ⟨_, (pss_one (ps_if (pt_not (pt_val (pe_own C_is_day (hr.mono (by omega)) (pa_cons (pv 0) pa_nil)))) (pss_one (rise T.e_BadDay T.g_BadDay rfl (L2N.takes_of rfl rfl rfl rfl))) pss_nil)), ?_⟩
    refine ⟨_, rfl, d, rfl, _, rfl, ?_⟩
    by_cases c : 0 ≤ d ∧ d ≤ 9999
    · rw [decide_eq_true c]
      exact iteF (k1 c)
    · rw [decide_eq_false c]
      exact iteT (k2 c)

theorem sc_check_unlike : FnScope N_check_unlike ["row"] (defScope s_check_unlike) := ⟨rfl, rfl, rfl, by decide +kernel, rfl, by decide +kernel, by decide +kernel⟩
def sp_check_unlike (K : PySem.W.Frag) : Sp := fun vs H Q E => ∃ (a : Addr) (r : List Int), vs = [.ref a] ∧ SqL K H a (r.map V.int) ∧ r.length ≤ 1000 ∧ Ways (UnlikeOk r) (Q .non H) (E (.ref (He.ga K "BadRow")) none H)
theorem ok_check_unlike {f : Addr} {fd : FuncData} (F : FnP K "check_unlike" s_check_unlike f fd) (T : Txt K mg) : FnOk P w K mg base (L2N.CX P w) 1 f fd ["row"] (sp_check_unlike K) := by
  refine F.ok sc_check_unlike (fun vs H Q E h => ?_) (fun cdv A outer s H vs Q E hr h => ?_)
  · obtain ⟨a, r, rfl, _⟩ := h
    rfl
  · obtain ⟨a, r, rfl, hS, hl, k1, k2⟩ := h
    refine ⟨_, (pss_one (ps_if (PW.pt (pw_or (pt_not (pt_chain op_le op_le pe_int (pe_callB (lenK K) (by rfl) T.n_len (by decide +kernel) (pa_cons (pv 0) pa_nil)) (pe_const T.c_MOST_IN_ROW))) (pw_or1 (pt_cmpR op_ne (pe_lenSetG K (by rfl) T.n_len (by rfl) T.n_set (pv 0)) (pe_callB (lenK K) (by rfl) T.n_len (by decide +kernel) (pa_cons (pv 0) pa_nil)) (nomark _))))) (pss_one (rise T.e_BadRow T.g_BadRow rfl (L2N.takes_of rfl rfl rfl rfl))) pss_nil)), ?_⟩
    have e : ((r.map V.int).length : Int) = (r.length : Int) := by rw [List.length_map]
    refine ⟨_, rfl, _, _, rfl, .inl hS, _, _, rfl, rfl, _, rfl, ?_⟩
    rw [e]
    by_cases c1 : 1 ≤ (r.length : Int)
    · refine iteD c1 ⟨_, _, rfl, rfl, _, rfl, ?_⟩
      by_cases c2 : (r.length : Int) ≤ 4
      · rw [decide_eq_true c2]
        refine iteF ?_
        refine ⟨_, rfl, a, r, rfl, hS, by omega, _, rfl, _, _, rfl, .inl hS, rfl, _, rfl, ?_⟩
        rw [e]
        by_cases c3 : r.Nodup
        · rw [decide_eq_true (show V.int (dedN r : Nat) = V.int (r.length : Int) by rw [(dedN_iff r).mpr c3])]
          exact iteF (k1 ⟨by omega, by omega, c3⟩)
        · rw [decide_eq_false (show ¬ V.int (dedN r : Nat) = V.int (r.length : Int) from fun z => c3 ((dedN_iff r).mp (by injection z; omega)))]
          exact iteT (k2 fun z => c3 z.2.2)
      · rw [decide_eq_false c2]
        exact iteT (k2 fun z => c2 (by have := z.2.1; omega))
    · exact iteDF c1 ⟨_, rfl, iteT (k2 fun z => c1 (by have := z.1; omega))⟩

theorem sc_check_row : FnScope N_check_row ["many", "row"] (defScope s_check_row) := ⟨rfl, rfl, rfl, by decide +kernel, rfl, by decide +kernel, by decide +kernel⟩
def sp_check_row (K : PySem.W.Frag) : Sp := fun vs H Q E => ∃ (m : Int) (a : Addr) (r : List Int), vs = [.int m, .ref a] ∧ SqL K H a (r.map V.int) ∧ r.length ≤ 1000 ∧ Ways (RowOk m r) (Q .non H) (E (.ref (He.ga K "BadRow")) none H)
theorem ok_check_row {f : Addr} {fd : FuncData} (F : FnP K "check_row" s_check_row f fd) (T : Txt K mg) (C_check_unlike : OwnX P w K mg base "check_unlike" ["row"] 1 (sp_check_unlike K)) : FnOk P w K mg base (L2N.CX P w) 2 f fd ["many", "row"] (sp_check_row K) := by
  refine F.ok sc_check_row (fun vs H Q E h => ?_) (fun cdv A outer s H vs Q E hr h => ?_)
  · obtain ⟨m, a, r, rfl, _⟩ := h
    rfl
  · obtain ⟨m, a, r, rfl, hS, hl, k1, k2⟩ := h
    refine ⟨_, (pss_cons (ps_expr (pe_ownX C_check_unlike (hr.mono (by omega)) (L2N.takes_of rfl rfl rfl rfl) (pa_cons (pv 1) pa_nil)))
          (pss_one (ps_for (passes_of rfl) rfl (pilK K (pv 1)) (pg_name (i := 2) sc_check_row.nd rfl (Or.inl rfl))
            (pss_one (ps_if (pt_not (pt_chain op_le op_lt pe_int (pv 2) (pv 0))) (pss_one (rise T.e_BadRow T.g_BadRow rfl (L2N.takes_of rfl rfl rfl rfl))) pss_nil))))), ?_⟩
    refine ⟨_, rfl, a, r, rfl, hS, hl, .or (fun un => ?_) (fun no => k2 fun z => no z.1)⟩
    refine ⟨_, rfl, a, rfl, ⟨_, hS⟩, for_list (K := K) (a := a) (xs := r.map V.int) (fun i σ H1 => (∃ v, σ = [some (.int m), some (.ref a), v]) ∧ H1 = H ∧ ∀ j, j < i → ∀ x, r[j]? = some x → 0 ≤ x ∧ x < m) ⟨⟨none, rfl⟩, rfl, fun j z => absurd z (Nat.not_lt_zero j)⟩ (fun i σ H1 _ ⟨_, e, _⟩ => by rw [e]; exact hS) ?_ ?_⟩
    · rintro i y σ H1 hi ⟨⟨v, rfl⟩, rfl, ok⟩
      obtain ⟨x, hx, rfl⟩ := get_ints hi
      have nx : 0 ≤ x ∧ x < m → ∀ j, j < i + 1 → ∀ y, r[j]? = some y → 0 ≤ y ∧ y < m := fun c j hj y hy => by
        rcases Nat.lt_succ_iff_lt_or_eq.mp hj with q | q
        · exact ok j q y hy
        · rw [q, hx] at hy
          cases hy
          exact c
      refine ⟨_, rfl, _, _, rfl, rfl, _, rfl, ?_⟩
      by_cases c1 : 0 ≤ x
      · refine iteD c1 ⟨_, rfl, _, _, rfl, rfl, _, rfl, ?_⟩
        by_cases c2 : x < m
        · rw [decide_eq_true c2]
          exact iteF ⟨⟨_, rfl⟩, rfl, nx ⟨c1, c2⟩⟩
        · rw [decide_eq_false c2]
          exact iteT (k2 fun z => c2 (z.2 x (List.mem_of_getElem? hx)).2)
      · exact iteDF c1 ⟨_, rfl, iteT (k2 fun z => c1 (z.2 x (List.mem_of_getElem? hx)).1)⟩
    · rintro σ H1 ⟨⟨v, rfl⟩, rfl, ok⟩
      refine k1 ⟨un, fun x hx => ?_⟩
      obtain ⟨j, hj, e⟩ := List.mem_iff_getElem.mp hx
      exact ok j (by rw [List.length_map]; omega) x (by rw [List.getElem?_eq_getElem hj, e])

theorem sc_check_run : FnScope N_check_run ["start", "end"] (defScope s_check_run) := ⟨rfl, rfl, rfl, by decide +kernel, rfl, by decide +kernel, by decide +kernel⟩
def sp_check_run (K : PySem.W.Frag) : Sp := fun vs H Q E => ∃ (s : Int) (o : Option Int), vs = [.int s, optV o] ∧ Ways (RunOk s o) (Q (.int (belowOf o)) H) (E (.ref (He.ga K "BadDay")) none H)
theorem ok_check_run {f : Addr} {fd : FuncData} (F : FnP K "check_run" s_check_run f fd) (T : Txt K mg) (C_check_day : OwnX P w K mg base "check_day" ["day"] 2 (sp_check_day K)) : FnOk P w K mg base (L2N.CX P w) 3 f fd ["start", "end"] (sp_check_run K) := by
  refine F.ok sc_check_run (fun vs H Q E h => ?_) (fun cdv A outer s H vs Q E hr h => ?_)
  · obtain ⟨s, o, rfl, _⟩ := h
    rfl
  · obtain ⟨s, o, rfl, k1, k2⟩ := h
    refine ⟨_, (pss_cons (ps_expr (pe_ownX C_check_day (hr.mono (by omega)) (L2N.takes_of rfl rfl rfl rfl) (pa_cons (pv 0) pa_nil)))
          (C8.pss_cut (ps_if (pt_cmpR op_isN (pv 1) pe_non (nomark _)) (pss_one (ps_ret (pe_op op_add (pe_const T.c_LAST_DAY) pe_int))) pss_nil)
          (C8.pss_cut (ps_if (pt_not (pt_chain op_lt op_le (pv 0) (pv 1) (pe_op op_add (pe_const T.c_LAST_DAY) pe_int))) (pss_one (rise T.e_BadDay T.g_BadDay rfl (L2N.takes_of rfl rfl rfl rfl))) pss_nil)
          (pss_one (ps_ret (pv 1)))))), ?_⟩
    refine ⟨_, rfl, s, rfl, .or (fun hd => ?_) (fun no => k2 fun z => no z.1)⟩
    refine ⟨fun σ H1 => σ = [some (.int s), some (optV o)] ∧ H1 = H ∧ ∃ e, o = some e, ?_, ?_⟩
    · refine ⟨_, rfl, rfl, _, rfl, ?_⟩
      cases o with
      | none => exact iteD rfl ⟨_, _, rfl, rfl, k1 ⟨hd, fun e z => by cases z⟩⟩
      | some e => exact iteDF (by intro z; cases z) ⟨rfl, rfl, e, rfl⟩
    rintro σ H1 ⟨rfl, rfl, e, rfl⟩
    refine ⟨fun σ H2 => σ = [some (.int s), some (.int e)] ∧ H2 = H1 ∧ s < e ∧ e ≤ 10000, ?_, ?_⟩
    · refine ⟨_, rfl, _, rfl, _, _, rfl, rfl, _, rfl, ?_⟩
      by_cases c1 : s < e
      · refine iteD c1 ⟨_, _, rfl, rfl, _, _, rfl, rfl, _, rfl, ?_⟩
        by_cases c2 : e ≤ 9999 + 1
        · rw [decide_eq_true c2]
          exact iteF ⟨rfl, rfl, c1, c2⟩
        · rw [decide_eq_false c2]
          exact iteT (k2 fun z => c2 (z.2 e rfl).2)
      · exact iteDF c1 ⟨_, rfl, iteT (k2 fun z => c1 (z.2 e rfl).1)⟩
    · rintro σ H2 ⟨rfl, rfl, c1, c2⟩
      exact ⟨_, rfl, k1 ⟨hd, fun x z => by cases z; exact ⟨c1, c2⟩⟩⟩

theorem sc_check_way : FnScope N_check_way ["days"] (defScope s_check_way) := ⟨rfl, rfl, rfl, by decide +kernel, rfl, by decide +kernel, by decide +kernel⟩
def sp_check_way (K : PySem.W.Frag) : Sp := fun vs H Q E => ∃ (a : Addr) (ds : List Int), vs = [.ref a] ∧ SqL K H a (ds.map V.int) ∧ Ways (CountOk (ds.length : Int)) (Ways (DaysOk ds) (Q .non H) (E (.ref (He.ga K "BadDay")) none H)) (E (.ref (He.ga K "BadCount")) none H)
theorem ok_check_way {f : Addr} {fd : FuncData} (F : FnP K "check_way" s_check_way f fd) (T : Txt K mg) (C_check_count : OwnX P w K mg base "check_count" ["many"] 1 (sp_check_count K)) (C_check_day : OwnX P w K mg base "check_day" ["day"] 2 (sp_check_day K)) : FnOk P w K mg base (L2N.CX P w) 3 f fd ["days"] (sp_check_way K) := by
  refine F.ok sc_check_way (fun vs H Q E h => ?_) (fun cdv A outer s H vs Q E hr h => ?_)
  · obtain ⟨a, ds, rfl, _⟩ := h
    rfl
  · obtain ⟨a, ds, rfl, hS, k1, k2⟩ := h
    refine ⟨_, (pss_cons (ps_expr (pe_ownX C_check_count (hr.mono (by omega)) (L2N.takes_of rfl rfl rfl rfl) (pa_cons (pe_callB (lenK K) (by rfl) T.n_len (by decide +kernel) (pa_cons (pv 0) pa_nil)) pa_nil)))
          (pss_one (ps_for (passes_of rfl) rfl (pilK K (pv 0)) (pg_name (i := 1) sc_check_way.nd rfl (Or.inl rfl))
            (pss_one (ps_expr (pe_ownX C_check_day (hr.mono (by omega)) (L2N.takes_of rfl rfl rfl rfl) (pa_cons (pv 1) pa_nil))))))), ?_⟩
    refine ⟨_, rfl, _, _, rfl, .inl hS, _, rfl, ?_⟩
    rw [List.length_map]
    refine .or (fun hc => ?_) k2
    obtain ⟨k1, k3⟩ := k1 hc
    refine ⟨_, rfl, a, rfl, ⟨_, hS⟩, for_list (K := K) (a := a) (xs := ds.map V.int) (fun i σ H1 => (∃ v, σ = [some (.ref a), v]) ∧ H1 = H ∧ ∀ j, j < i → ∀ x, ds[j]? = some x → DayOk x) ⟨⟨none, rfl⟩, rfl, fun j z => absurd z (Nat.not_lt_zero j)⟩ (fun i σ H1 _ ⟨_, e, _⟩ => by rw [e]; exact hS) ?_ ?_⟩
    · rintro i y σ H1 hi ⟨⟨v, rfl⟩, rfl, ok⟩
      obtain ⟨x, hx, rfl⟩ := get_ints hi
      refine ⟨_, rfl, x, rfl, .or (fun c => ⟨⟨_, rfl⟩, rfl, fun j hj y hy => ?_⟩) (fun no => k3 fun z => no (z x (List.mem_of_getElem? hx)))⟩
      rcases Nat.lt_succ_iff_lt_or_eq.mp hj with q | q
      · exact ok j q y hy
      · rw [q, hx] at hy
        cases hy
        exact c
    · rintro σ H1 ⟨⟨v, rfl⟩, rfl, ok⟩
      refine k1 fun x hx => ?_
      obtain ⟨j, hj, e⟩ := List.mem_iff_getElem.mp hx
      exact ok j (by rw [List.length_map]; omega) x (by rw [List.getElem?_eq_getElem hj, e])

theorem sc_Span___init__ : FnScope N_Span___init__ ["self", "first", "until"] (defScope s_Span___init__) := ⟨rfl, rfl, rfl, by decide +kernel, rfl, by decide +kernel, by decide +kernel⟩
def sp_Span___init__ (K : PySem.W.Frag) : Sp := fun vs H Q E => ∃ (x dx : Addr) (f u : Int), vs = [.ref x, .int f, .int u] ∧ H x = some (.ins (He.ga K "Span") dx []) ∧ (SpanOk (f, u) → Q .non (upd H x (.ins (He.ga K "Span") dx (spanF f u)))) ∧ (¬ SpanOk (f, u) → E (.ref (He.ga K "BadDay")) none H)
/-- Span(f, u) -/
theorem mk_span {K : PySem.W.Frag} {H : Hp} {f u : Int} {Q : VK} {E : XK} {x dx : Addr} (hx : H x = none) (hdx : H dx = none) (k : SpanOk (f, u) → ∀ H', Same H H' → SpanAt K H' (.ref x) (f, u) → Q .non H') (k2 : ¬ SpanOk (f, u) → ∀ H', Same H H' → E (.ref (He.ga K "BadDay")) none H') :
    sp_Span___init__ K [.ref x, .int f, .int u] (upd (upd H dx (.own x)) x (.ins (He.ga K "Span") dx [])) Q E := by
  have s1 := same_mut (o := .ins (He.ga K "Span") dx []) (same_new (o := .own x) hdx) hx
  exact ⟨x, dx, f, u, rfl, upd_same, fun ok => k ok _ (same_mut s1 hx) ⟨x, dx, rfl, upd_same⟩, fun no => k2 no _ s1⟩
theorem ok_Span___init__ {f : Addr} {fd : FuncData} (F : FunD K "__init__" "Span.__init__" (defArgs s_Span___init__) (defBody s_Span___init__) (defScope s_Span___init__) [] [] f fd) (T : Txt K mg) : FnOk P w K mg base (L2N.CX P w) 1 f fd ["self", "first", "until"] (sp_Span___init__ K) := by
  refine F.ok sc_Span___init__ (fun vs H Q E h => ?_) (fun cdv A outer s H vs Q E hr h => ?_)
  · obtain ⟨x, dx, f, u, rfl, _⟩ := h
    rfl
  · obtain ⟨x, dx, f, u, rfl, hx, k1, k2⟩ := h
    refine ⟨_, (C8.pss_cut (ps_if (pt_not (pt_chain3 op_le op_lt op_le pe_int (pv 1) (pv 2) (pe_op op_add (pe_const T.c_LAST_DAY) pe_int))) (pss_one (rise T.e_BadDay T.g_BadDay rfl (L2N.takes_of rfl rfl rfl rfl))) pss_nil)
          (pss_cons (setfK K (pv 0) (pv 1) rfl)
          (pss_one (setfK K (pv 0) (pv 2) rfl)))), ?_⟩
    refine ⟨fun σ H1 => σ = [some (.ref x), some (.int f), some (.int u)] ∧ H1 = H ∧ SpanOk (f, u), ?_, ?_⟩
    · refine ⟨_, rfl, _, _, rfl, rfl, _, rfl, ?_⟩
      refine ite2 (fun c1 => ?_) (fun c1 => ⟨_, rfl, iteT (k2 fun z => c1 (decide_eq_true z.1))⟩)
      refine ⟨_, rfl, _, _, rfl, rfl, _, rfl, ?_⟩
      refine ite2 (fun c2 => ?_) (fun c2 => ⟨_, rfl, iteT (k2 fun z => c2 (decide_eq_true z.2.1))⟩)
      refine ⟨_, _, rfl, rfl, _, _, rfl, rfl, _, rfl, ?_⟩
      by_cases c3 : u ≤ 9999 + 1
      · rw [decide_eq_true c3]
        exact iteF ⟨rfl, rfl, of_decide_eq_true c1, of_decide_eq_true c2, c3⟩
      · rw [decide_eq_false c3]
        exact iteT (k2 fun z => c3 z.2.2)
    · rintro σ H1 ⟨rfl, rfl, ok⟩
      refine ⟨_, rfl, _, rfl, x, _, dx, _, rfl, hx, T.f_Span.cl, T.f_Span.n1, (by decide), ?_⟩
      refine ⟨_, rfl, _, rfl, x, _, dx, _, rfl, upd_same, T.f_Span.cl, T.f_Span.n2, Nat.le_of_ble_eq_true rfl, ?_⟩
      rw [upd_upd, span_put]
      exact k1 ok

theorem sc_turns : FnScope N_turns ["row", "days", "start", "end"] (defScope s_turns) := ⟨rfl, rfl, rfl, by decide +kernel, rfl, by decide +kernel, by decide +kernel⟩
def sp_turns (K : PySem.W.Frag) : Sp := fun vs H Q E => ∃ (a b : Addr) (r ds : List Int) (s : Int) (o : Option Int), vs = [.ref a, .ref b, .int s, optV o] ∧ SqL K H a (r.map V.int) ∧ r.length ≤ 1000 ∧ SqL K H b (ds.map V.int) ∧
  Ways (CountOk (ds.length : Int)) (Ways (DaysOk ds) (Ways (RowOk (ds.length : Int) r) (Ways (RunOk s o) (∀ (p : Addr) (xs : List V) (H' : Hp), Same H H' → H p = none → H' p = some (.lst xs) → TurnsAt K H' xs (turnsOf r ds s (belowOf o)) → Q (.ref p) H') (E (.ref (He.ga K "BadDay")) none H)) (E (.ref (He.ga K "BadRow")) none H)) (E (.ref (He.ga K "BadDay")) none H)) (E (.ref (He.ga K "BadCount")) none H)
theorem ok_turns {f : Addr} {fd : FuncData} (F : FunD K "turns" "turns" (defArgs s_turns) (defBody s_turns) (defScope s_turns) [V.int 0, V.non] [] f fd) (T : Txt K mg) (C_check_row : OwnX P w K mg base "check_row" ["many", "row"] 2 (sp_check_row K)) (C_check_run : OwnX P w K mg base "check_run" ["start", "end"] 3 (sp_check_run K)) (C_check_way : OwnX P w K mg base "check_way" ["days"] 3 (sp_check_way K)) (C_Span___init__ : MakX P w K mg base "Span" ["self", "first", "until"] 1 (sp_Span___init__ K)) : FnOk P w K mg base (L2N.CX P w) 4 f fd ["row", "days", "start", "end"] (sp_turns K) := by
  refine F.ok sc_turns (fun vs H Q E h => ?_) (fun cdv A outer s H vs Q E hr h => ?_)
  · obtain ⟨a, b, r, ds, s, o, rfl, _⟩ := h
    rfl
  · obtain ⟨a, b, r, ds, s, o, rfl, hR, hrl, hD, k1, k2⟩ := h
    refine ⟨_, (pss_cons (ps_expr (pe_ownX C_check_way (hr.mono (by omega)) (L2N.takes_of rfl rfl rfl rfl) (pa_cons (pv 1) pa_nil)))
          (pss_cons (ps_expr (pe_ownX C_check_row (hr.mono (by omega)) (L2N.takes_of rfl rfl rfl rfl) (pa_cons (pe_callB (lenK K) (by rfl) T.n_len (by decide +kernel) (pa_cons (pv 1) pa_nil)) (pa_cons (pv 0) pa_nil))))
          (pss_cons (ps_set (i := 4) sc_turns.nd rfl (Or.inl rfl) (pe_ownX C_check_run (hr.mono (by omega)) (L2N.takes_of rfl rfl rfl rfl) (pa_cons (pv 2) (pa_cons (pv 3) pa_nil))))
          (pss_cons (ps_set (i := 5) sc_turns.nd rfl (Or.inl rfl) (pe_lst pa_nil))
          (pss_cons (ps_set (i := 6) sc_turns.nd rfl (Or.inl rfl) (pv 2))
          (C8.pss_cut (ps_for (passes_of rfl) rfl (pilK K (pv 0)) (pg_name (i := 7) sc_turns.nd rfl (Or.inl rfl))
            (pss_cons (ps_set (i := 8) sc_turns.nd rfl (Or.inl rfl) (pe_callB (call_min2 rfl) (by rfl) T.n_min (by decide +kernel) (pa_cons (pe_ix (ixl K) (pv 1) (pv 7) (fun _ _ => rfl)) (pa_cons (pv 4) pa_nil))))
              (pss_one (ps_if (pt_cmpR op_lt (pv 6) (pv 8) (nomark _)) (pss_cons (ps_expr (pe_bm PySem.F.plainAttrs_list PySem.F.slot_list_append PySem.F.type_list_append mt_append (pv 5) (pa_cons (pe_tup (pa_cons (pv 7) (pa_cons (pe_mkX K C_Span___init__ (hr.mono (by omega)) (L2N.takes_of rfl rfl rfl rfl) (pa_cons (pv 6) (pa_cons (pv 8) pa_nil))) pa_nil))) pa_nil)))
                (pss_one (ps_set (i := 6) sc_turns.nd rfl (Or.inl rfl) (pv 8)))) pss_nil))))
          (pss_one (ps_ret (pv 5))))))))), ?_⟩
    refine ⟨_, rfl, b, ds, rfl, hD, .or (fun hc => .or (fun hd => ?_) (k1 hc).2) k2⟩
    obtain ⟨k1, k3⟩ := (k1 hc).1 hd
    refine ⟨_, rfl, _, _, rfl, .inl hD, ?_⟩
    rw [List.length_map]
    refine ⟨_, rfl, _, a, r, rfl, hR, hrl, .or (fun ok => ?_) k3⟩
    obtain ⟨k1, k4⟩ := k1 ok
    refine ⟨_, rfl, _, rfl, s, o, rfl, .or (fun run => ?_) k4⟩
    have k := k1 run
    have bw := run.below
    have s0 := run.1.1
    generalize belowOf o = bl at *
    refine ⟨Nat.zero_le _, fun p hp => ?_⟩
    have u1 := same_new (o := .lst []) hp
    refine ⟨_, rfl, ?_⟩
    refine ⟨fun σ H2 => ∃ xs, σ[5]? = some (some (.ref p)) ∧ Same H H2 ∧ H2 p = some (.lst xs) ∧ TurnsAt K H2 xs (turnsOf r ds s bl), ?_, ?_⟩
    · refine ⟨_, rfl, a, rfl, ⟨_, u1.seq hR⟩, for_list (K := K) (a := a) (xs := r.map V.int) (fun i σ H2 => ∃ (xs : List V) (v7 v8 : Option V), σ = [some (.ref a), some (.ref b), some (.int s), some (optV o), some (.int bl), some (.ref p), some (.int (turnsS (r.take i) ds s bl).2), v7, v8] ∧ Same H H2 ∧ H2 p = some (.lst xs) ∧ TurnsAt K H2 xs (turnsS (r.take i) ds s bl).1)
        ⟨[], none, none, rfl, u1, upd_same, trivial⟩ (fun i σ H2 _ ⟨_, _, _, _, s2, _⟩ => s2.seq hR) ?_ ?_⟩
      · rintro i y σ H2 hi ⟨xs, v7, v8, rfl, s2, hp2, ht⟩
        obtain ⟨x, hx, rfl⟩ := get_ints hi
        have bx := ok.2 x (List.mem_of_getElem? hx)
        have ge := turnsS_ge ds s bl (r.take i)
        have ln := turnsS_len ds s bl (r.take i)
        have il := (List.getElem?_eq_some_iff.mp hx).1
        have tl := AllAt.length ht
        rw [List.length_take] at ln
        refine ⟨_, rfl, _, rfl, b, _, _, _, rfl, rfl, s2.seq hD, at_ints (by omega) (by omega), _, rfl, _, _, rfl, ?_⟩
        rw [min_if]
        refine ⟨_, rfl, _, rfl, _, _, rfl, rfl, _, rfl, ?_⟩
        have st := turnsS_take (ds := ds) (s := s) (b := bl) hx
        by_cases c : (turnsS (r.take i) ds s bl).2 < min (dayOf ds x) bl
        · refine iteD c ?_
          have st2 : turnsS (r.take (i + 1)) ds s bl = ((turnsS (r.take i) ds s bl).1 ++ [(x, (turnsS (r.take i) ds s bl).2, min (dayOf ds x) bl)], min (dayOf ds x) bl) := by
            rw [st]
            exact if_pos c
          have oks : SpanOk ((turnsS (r.take i) ds s bl).2, min (dayOf ds x) bl) := ⟨by show 0 ≤ (turnsS (r.take i) ds s bl).2; omega, c, by show min (dayOf ds x) bl ≤ 10000; omega⟩
          refine ⟨_, rfl, .inl ⟨rfl, _, SqL.of hp2⟩, _, rfl, _, rfl, _, rfl, fun z dz nz ndz nez => mk_span nz ndz (fun _ H5 s5 hz => ⟨rfl, ?_⟩) (fun no => absurd oks no)⟩
          refine ⟨(by show 2 ≤ sizeLine; decide), fun t nt => ?_⟩
          have u6 := same_new (o := .tup [V.int x, .ref z]) nt
          have s26 := s5.trans u6
          have hp6 := s26 _ _ hp2
          refine ⟨p, _, _, rfl, rfl, hp6, sz_lt (by omega), ?_⟩
          refine ⟨_, rfl, ?_⟩
          refine ⟨xs ++ [V.ref t], some (.int x), some (.int (min (dayOf ds x) bl)), ?_, same_mut (s2.trans s26) hp, upd_same, ?_⟩
          · rw [st2]
            rfl
          · rw [st2]
            exact turns_updL hp6 ((turns_mono s26 ht).app ⟨⟨t, _, rfl, upd_same, hz.mono u6⟩, trivial⟩)
        · refine iteDF c ?_
          rw [show turnsS (r.take (i + 1)) ds s bl = turnsS (r.take i) ds s bl by rw [st]; exact if_neg c]
          exact ⟨xs, _, _, rfl, s2, hp2, ht⟩
      · rintro σ H2 ⟨xs, v7, v8, rfl, s2, hp2, ht⟩
        rw [List.length_map, List.take_length] at ht
        exact ⟨xs, rfl, s2, hp2, ht⟩
    · rintro σ H2 ⟨xs, g, s2, hp2, ht⟩
      exact ⟨_, g, k p xs H2 s2 hp hp2 ht⟩

theorem sc_in_holding : FnScope N_in_holding ["row", "days", "start", "end"] (defScope s_in_holding) := ⟨rfl, rfl, rfl, by decide +kernel, rfl, by decide +kernel, by decide +kernel⟩
def sp_in_holding (K : PySem.W.Frag) : Sp := fun vs H Q E => ∃ (a b : Addr) (r ds : List Int) (s : Int) (o : Option Int), vs = [.ref a, .ref b, .int s, optV o] ∧ SqL K H a (r.map V.int) ∧ r.length ≤ 1000 ∧ SqL K H b (ds.map V.int) ∧
  Ways (CountOk (ds.length : Int)) (Ways (DaysOk ds) (Ways (RowOk (ds.length : Int) r) (Ways (RunOk s o) (∀ (p : Addr) (H' : Hp), Same H H' → H p = none → H' p = some (.lst ((deadOf r ds s (belowOf o)).map V.int)) → Q (.ref p) H') (E (.ref (He.ga K "BadDay")) none H)) (E (.ref (He.ga K "BadRow")) none H)) (E (.ref (He.ga K "BadDay")) none H)) (E (.ref (He.ga K "BadCount")) none H)
theorem ok_in_holding {f : Addr} {fd : FuncData} (F : FunD K "in_holding" "in_holding" (defArgs s_in_holding) (defBody s_in_holding) (defScope s_in_holding) [V.int 0, V.non] [] f fd) (T : Txt K mg) (C_turns : OwnD P w K mg base "turns" s_turns ["row", "days", "start", "end"] [V.int 0, V.non] 4 (sp_turns K)) : FnOk P w K mg base (L2N.CX P w) 5 f fd ["row", "days", "start", "end"] (sp_in_holding K) := by
  refine F.ok sc_in_holding (fun vs H Q E h => ?_) (fun cdv A outer s H vs Q E hr h => ?_)
  · obtain ⟨a, b, r, ds, s, o, rfl, _⟩ := h
    rfl
  · obtain ⟨a, b, r, ds, s, o, rfl, hR, hrl, hD, k1, k2⟩ := h
    refine ⟨_, (pss_one (ps_ret (by exact (pe_lc (own := [("life", 4), ("span", 5)]) rfl sc_in_holding.nd (pilK K (pe_ownDX 4 [] (fun {_} us its ws => us ++ []) C_turns (hr.mono (by omega)) (L2N.takes_of rfl rfl rfl rfl) (fun r1 r2 r3 => r1.append .nil) (fun _ _ _ _ _ _ _ us its ws h1 h2 h3 => match us, its, ws, h1, h2, h3 with | [_, _, _, _], [_, _], [], _, _, _ => ⟨_, rfl, rfl⟩) (pa_cons (pv 0) (pa_cons (pv 1) (pa_cons (pv 2) (pa_cons (pv 3) pa_nil)))) pk_nil)) (blkOk_by (own := [("life", 4), ("span", 5)]) (N := N_in_holding) (sc := defScope s_in_holding) (by decide +kernel)) (fun _ _ _ _ _ => by exact (pgtK (n := 2) K rfl (pgs_cons (pg_name (i := 4) sc_in_holding.nd rfl (Or.inl rfl)) (pgs_cons (pg_name (i := 5) sc_in_holding.nd rfl (Or.inl rfl)) pgs_nil)))) (fun _ _ _ _ _ => by exact (pts_one (pt_cmpR op_eq (fldK K (pv 5) rfl) (pe_ix (ixl K) (pv 1) (pv 4) (fun _ _ => rfl)) (nomark _)))) (fun _ _ _ _ _ => by exact (pv 4)))))), ?_⟩
    refine ⟨_, rfl, _, rfl, _, rfl, _, rfl, rfl, rfl, a, b, r, ds, s, o, rfl, hR, hrl, hD, .or (fun hc => .or (fun hd => .or (fun ok => .or (fun run => ?_) (((k1 hc).1 hd).1 ok).2) ((k1 hc).1 hd).2) (k1 hc).2) k2⟩
    have k := (((k1 hc).1 hd).1 ok).1 run
    intro p xs H1 s1 np hp ht
    have tok := turns_ok (ds := ds) (r := r) run.1.1 run.below.2
    have tl := AllAt.length ht
    have tn := turnsS_len ds s (belowOf o) r
    replace tok : ∀ t ∈ turnsOf r ds s (belowOf o), SpanOk t.2 ∧ t.1 ∈ r := tok
    replace tn : (turnsOf r ds s (belowOf o)).length ≤ r.length := tn
    unfold deadOf at k
    generalize turnsOf r ds s (belowOf o) = ts at *
    refine ⟨p, rfl, ⟨_, SqL.of hp⟩, fun D nD => ?_⟩
    refine lc_list (K := K) (a := p) (xs := xs) (fun i H2 => Same H1 H2 ∧ H2 D = some (.lst ((((ts.take i).filter fun t => decide (t.2.2 = dayOf ds t.1)).map fun t => t.1).map V.int))) ⟨same_new nD, upd_same⟩ (fun i H2 _ z => z.1.seq (SqL.of hp)) ?_ ?_
    · rintro i y H2 hi ⟨s2, hq⟩
      obtain ⟨t, hti, q1, q2, rfl, g1, g2⟩ := AllAt.get ht hi
      have bx := ok.2 t.1 (tok t (List.mem_of_getElem? hti)).2
      have til := (List.getElem?_eq_some_iff.mp hti).1
      refine ⟨q1, _, rfl, SqT.of (s2 _ _ g1), rfl, _, _, rfl, _, _, rfl, rfl, rfl, ?_⟩
      refine t_until T.f_Span (g2.mono s2) (t_var rfl) ⟨_, rfl, _, rfl, b, _, _, _, rfl, rfl, (s1.trans s2).seq hD, at_ints (by omega) (by omega), rfl, _, rfl, ?_⟩
      by_cases c : t.2.2 = dayOf ds t.1
      · refine iteD (by rw [c]) ?_
        refine ⟨_, rfl, _, hq, sz_lt ?_, same_mut s2 nD, ?_⟩
        · rw [List.length_map, List.length_map]
          have := List.length_filter_le (fun t : Int × Int × Int => decide (t.2.2 = dayOf ds t.1)) (ts.take i)
          rw [List.length_take] at this
          omega
        · rw [upd_same, filt_take _ hti, if_pos (decide_eq_true c), List.map_append, List.map_append]
          rfl
      · refine iteDF (by intro z; injection z with z; exact c z) ⟨s2, ?_⟩
        rw [filt_take _ hti, if_neg (by rw [decide_eq_false c]; exact Bool.false_ne_true), List.append_nil]
        exact hq
    · rintro H2 ⟨s2, hq⟩
      rw [tl, List.take_length] at hq
      exact k D H2 (s1.trans s2) (s1.free nD) hq

theorem sc_lmix : FnScope N_lmix ["_law_seed"] (defScope s_lmix) := ⟨rfl, rfl, rfl, by decide +kernel, rfl, by decide +kernel, by decide +kernel⟩
def sp_lmix : Sp := fun vs H Q _ => ∃ n : Int, vs = [.int n] ∧ ∀ r : Int, 0 ≤ r → r < 2147483563 → Q (.int r) H
theorem ok_lmix {f : Addr} {fd : FuncData} (F : FnP K "_law_mix" s_lmix f fd) (T : Txt K mg) : FnOk P w K mg base CX0 1 f fd ["_law_seed"] (sp_lmix) := by
  refine F.ok sc_lmix (fun vs H Q E h => ?_) (fun cdv A outer s H vs Q E hr h => ?_)
  · obtain ⟨n, rfl, _⟩ := h
    rfl
  · obtain ⟨n, rfl, k⟩ := h
    refine ⟨_, PSs.nox (pss_cons (ps_set (i := 1) sc_lmix.nd rfl (Or.inl rfl) (pe_op op_mod (pe_op op_add (pe_op op_mul (pv 0) pe_int) pe_int) pe_int))
          (pss_cons (ps_set (i := 2) sc_lmix.nd rfl (Or.inl rfl) (pe_op op_mod (pe_op op_add (pe_op op_add (pe_op op_mul (pv 1) (pv 1)) (pe_op op_mul pe_int (pv 1))) (pv 0)) pe_int))
          (pss_one (ps_ret (pe_op op_mod (pe_op op_add (pe_op op_add (pe_op op_mul (pv 2) (pv 2)) (pe_op op_mul pe_int (pv 2))) (pv 1)) pe_int))))), ?_⟩
    refine ⟨_, rfl, _, _, rfl, rfl, mulR (by decide) (by decide), _, _, rfl, rfl, _, _, rfl, rfl, (by decide : (0 : Int) < 2147483647), ?_⟩
    have a1 := Int.emod_nonneg (n * 48271 + 11) (by decide : (2147483647 : Int) ≠ 0)
    have a2 := Int.emod_lt_of_pos (n * 48271 + 11) (by decide : (0 : Int) < 2147483647)
    generalize (n * 48271 + 11) % 2147483647 = a at *
    refine ⟨_, rfl, _, rfl, _, _, rfl, rfl, mulL (by omega) (by omega), _, rfl, _, _, rfl, rfl, mulR (by omega) (by omega), _, _, rfl, rfl, _, rfl, _, _, rfl, rfl, _, _, rfl, rfl, (by decide : (0 : Int) < 2147483399), ?_⟩
    have b1 := Int.emod_nonneg (a * a + 40692 * a + n) (by decide : (2147483399 : Int) ≠ 0)
    have b2 := Int.emod_lt_of_pos (a * a + 40692 * a + n) (by decide : (0 : Int) < 2147483399)
    generalize (a * a + 40692 * a + n) % 2147483399 = b at *
    refine ⟨_, rfl, _, rfl, _, _, rfl, rfl, mulL (by omega) (by omega), _, rfl, _, _, rfl, rfl, mulR (by omega) (by omega), _, _, rfl, rfl, _, rfl, _, _, rfl, rfl, _, _, rfl, rfl, (by decide : (0 : Int) < 2147483563), ?_⟩
    exact k _ (Int.emod_nonneg _ (by decide)) (Int.emod_lt_of_pos _ (by decide))

theorem sc_lraw : FnScope N_lraw ["_law_script", "_law_k"] (defScope s_lraw) := ⟨rfl, rfl, rfl, by decide +kernel, rfl, by decide +kernel, by decide +kernel⟩
def sp_lraw (K : PySem.W.Frag) : Sp := fun vs H Q _ => ∃ (a : Addr) (ns : List Int) (n : Int), vs = [.ref a, .int n] ∧ SqL K H a (ns.map V.int) ∧ ns.length ≤ 63 ∧ ∀ r : Int, Q (.int r) H
theorem ok_lraw {f : Addr} {fd : FuncData} (F : FnP K "_law_raw" s_lraw f fd) (T : Txt K mg) (C_lmix : Own P w K mg base "_law_mix" ["_law_seed"] 1 (sp_lmix)) : FnOk P w K mg base CX0 2 f fd ["_law_script", "_law_k"] (sp_lraw K) := by
  refine F.ok sc_lraw (fun vs H Q E h => ?_) (fun cdv A outer s H vs Q E hr h => ?_)
  · obtain ⟨a, ns, n, rfl, _⟩ := h
    rfl
  · obtain ⟨a, ns, n, rfl, hS, hlen, k⟩ := h
    refine ⟨_, PSs.nox (pss_cons (ps_set (i := 2) sc_lraw.nd rfl (Or.inl rfl) (pe_op op_add (pe_op op_mul pe_int (pv 1)) pe_int))
          (C8.pss_cut (ps_if (pt_cmpR op_gt (pe_callB (lenK K) (by rfl) T.n_len (by decide +kernel) (pa_cons (pv 0) pa_nil)) pe_int (nomark _)) (pss_one (ps_set (i := 2) sc_lraw.nd rfl (Or.inl rfl) (pe_op op_add (pe_ix (ixl K) (pv 0) (pe_op op_mod (pv 1) (pe_callB (lenK K) (by rfl) T.n_len (by decide +kernel) (pa_cons (pv 0) pa_nil))) (fun _ _ => rfl)) (pe_op op_mul pe_int (pe_op op_fdivW (pv 1) (pe_callB (lenK K) (by rfl) T.n_len (by decide +kernel) (pa_cons (pv 0) pa_nil))))))) pss_nil)
          (C8.pss_cut (ps_if (PW.pt (pw_and (pt_cmpR op_lt (pv 1) (pe_callB (lenK K) (by rfl) T.n_len (by decide +kernel) (pa_cons (pv 0) pa_nil)) (nomark _)) (pw_and1 (pt_cmpR op_ge (pv 2) (pe_op op_pow pe_int pe_int) (nomark _))))) (pss_one (ps_ret (pe_op op_sub (pv 2) (pe_op op_pow pe_int pe_int)))) pss_nil)
          (pss_cons (ps_set (i := 3) sc_lraw.nd rfl (Or.inl rfl) pe_int)
          (C8.pss_cut (ps_for PassesOwn.never rfl (pi_range1 (by rfl) T.n_range (pa_cons pe_int pa_nil)) (pg_name (i := 4) sc_lraw.nd rfl (Or.inl rfl))
            (pss_one (ps_set (i := 3) sc_lraw.nd rfl (Or.inl rfl) (pe_op op_add (pe_op op_mul (pv 3) pe_int) (pe_own C_lmix (hr.mono (by omega)) (pa_cons (pe_op op_add (pe_op op_add (pv 2) (pe_op op_mul pe_int (pv 1))) (pe_op op_mul pe_int (pv 4))) pa_nil))))))
          (pss_one (ps_ret (pv 3)))))))), ?_⟩
    have hlm : (ns.map V.int).length = ns.length := List.length_map ..
    refine ⟨_, rfl, _, _, rfl, rfl, mulL (by decide) (by decide), _, _, rfl, rfl, ?_⟩
    refine ⟨fun σ H' => H' = H ∧ ∃ c : Int, σ = [some (.ref a), some (.int n), some (.int c), none, none], ?_, ?_⟩
    · refine ⟨_, rfl, _, _, rfl, .inl hS, _, _, rfl, rfl, _, rfl, ?_⟩
      refine ite2 (fun c1 => ?_) (fun _ => ⟨rfl, _, rfl⟩)
      have hpos : (0 : Int) < ((ns.map V.int).length : Int) := of_decide_eq_true c1
      have hm1 := Int.emod_nonneg n (by omega : ((ns.map V.int).length : Int) ≠ 0)
      have hm2 := Int.emod_lt_of_pos n hpos
      obtain ⟨v, hv⟩ : ∃ v, ns[(n % ((ns.map V.int).length : Int)).toNat]? = some v := ⟨_, List.getElem?_eq_getElem (by omega)⟩
      refine ⟨_, rfl, _, rfl, _, rfl, _, _, rfl, .inl hS, _, _, rfl, rfl, hpos, _, _, _, _, rfl, rfl, hS, at_of (j := (n % ((ns.map V.int).length : Int)).toNat) (by omega) (by rw [List.getElem?_map, hv]; rfl), ?_⟩
      refine ⟨_, rfl, _, rfl, _, _, rfl, .inl hS, _, _, rfl, rfl, wide_div hpos (b := 10) (by omega) (by decide) (by decide), _, _, rfl, rfl, mulL (by decide) (by decide), _, _, rfl, rfl, ?_⟩
      exact ⟨rfl, _, rfl⟩
    · rintro σ H' ⟨rfl, c, rfl⟩
      refine ⟨fun σ H2 => H2 = H' ∧ σ = [some (.ref a), some (.int n), some (.int c), none, none], ?_, ?_⟩
      · refine ⟨_, rfl, _, rfl, _, _, rfl, .inl hS, _, _, rfl, rfl, _, rfl, ?_⟩
        refine ite2 (fun _ => ?_) (fun _ => iteF ⟨rfl, rfl⟩)
        refine ⟨_, rfl, _, _, rfl, rfl, ⟨by decide, by decide, by decide⟩, _, _, rfl, rfl, _, rfl, ?_⟩
        refine ite2 (fun _ => ?_) (fun _ => ⟨rfl, rfl⟩)
        refine ⟨_, rfl, _, _, rfl, rfl, ⟨by decide, by decide, by decide⟩, _, _, rfl, rfl, k _⟩
      · rintro σ H2 ⟨rfl, rfl⟩
        refine ⟨fun σ H3 => H3 = H2 ∧ ∃ (r : Int) (v : Option V), σ = [some (.ref a), some (.int n), some (.int c), some (.int r), v], ?_, ?_⟩
        · refine ⟨40, rfl, by decide, by decide, for_range (lo := 0) (n := 40) (fun i σ H3 => H3 = H2 ∧ ∃ (r : Int) (v : Option V), σ = [some (.ref a), some (.int n), some (.int c), some (.int r), v]) ⟨rfl, 0, none, rfl⟩ ?_ ?_⟩
          · rintro i σ H3 hi ⟨rfl, r, v, rfl⟩
            refine ⟨_, rfl, _, _, rfl, rfl, mulR (by decide) (by decide), _, rfl, _, rfl, _, _, rfl, rfl, mulL (by decide) (by decide), _, _, rfl, rfl, _, rfl, _, _, rfl, rfl, mulL (by decide) (by decide), _, _, rfl, rfl, _, rfl, fun m _ _ => ?_⟩
            exact ⟨_, _, rfl, rfl, rfl, _, _, rfl⟩
          · rintro σ H3 ⟨rfl, r, v, rfl⟩
            exact ⟨rfl, r, v, rfl⟩
        · rintro σ H3 ⟨rfl, r, v, rfl⟩
          exact ⟨_, rfl, k r⟩

theorem sc_ldigits : FnScope N_ldigits ["_law_script", "_law_k", "_law_sizes"] (defScope s_ldigits) := ⟨rfl, rfl, rfl, by decide +kernel, rfl, by decide +kernel, by decide +kernel⟩
/-- the sizes and the digits drawn by them -/
def DigOk : List Int → List Int → Prop
  | [], [] => True
  | s :: ss, d :: ds => 0 ≤ d ∧ d < s ∧ DigOk ss ds
  | _, _ => False
theorem DigOk.length : ∀ {ss ds : List Int}, DigOk ss ds → ds.length = ss.length
  | [], [], _ => rfl
  | _ :: ss, _ :: ds, h => by
    have := DigOk.length h.2.2
    simp [this]
theorem DigOk.snoc : ∀ {ss ds : List Int} {s d : Int}, DigOk ss ds → 0 ≤ d → d < s → DigOk (ss ++ [s]) (ds ++ [d])
  | [], [], _, _, _, h1, h2 => ⟨h1, h2, trivial⟩
  | _ :: ss, _ :: ds, _, _, h, h1, h2 => ⟨h.1, h.2.1, DigOk.snoc h.2.2 h1 h2⟩
theorem DigOk.inv {s : Int} {ss ds : List Int} (h : DigOk (s :: ss) ds) : ∃ d r, ds = d :: r ∧ 0 ≤ d ∧ d < s ∧ DigOk ss r := by
  cases ds with
  | nil => exact h.elim
  | cons d r => exact ⟨d, r, rfl, h.1, h.2.1, h.2.2⟩
theorem DigOk.inv0 {ds : List Int} (h : DigOk [] ds) : ds = [] := by
  cases ds with
  | nil => rfl
  | cons d r => exact h.elim
theorem DigOk.rep : ∀ {n : Nat} {s : Int} {ds : List Int}, DigOk (List.replicate n s) ds → ds.length = n ∧ ∀ x ∈ ds, 0 ≤ x ∧ x < s
  | 0, s, ds, h => by
    rw [DigOk.inv0 h]
    exact ⟨rfl, fun x hx => by cases hx⟩
  | n + 1, s, ds, h => by
    obtain ⟨d, r, rfl, h1, h2, h3⟩ := DigOk.inv h
    obtain ⟨h4, h5⟩ := DigOk.rep h3
    refine ⟨by simp [h4], fun x hx => ?_⟩
    cases hx with
    | head => exact ⟨h1, h2⟩
    | tail _ hx => exact h5 x hx
def sp_ldigits (K : PySem.W.Frag) : Sp := fun vs H Q _ => ∃ (a b : Addr) (ns ss : List Int) (n : Int), vs = [.ref a, .int n, .ref b] ∧ SqL K H a (ns.map V.int) ∧ ns.length ≤ 63 ∧ SqL K H b (ss.map V.int) ∧ ss.length ≤ 1000 ∧ (∀ s ∈ ss, 0 < s ∧ s ≤ 10 ^ 29) ∧
  ∀ (p : Addr) (ds : List Int) (H' : Hp), H p = none → Same H H' → H' p = some (.lst (ds.map V.int)) → DigOk ss ds → Q (.ref p) H'
theorem ok_ldigits {f : Addr} {fd : FuncData} (F : FnP K "_law_digits" s_ldigits f fd) (T : Txt K mg) (C_lraw : Own P w K mg base "_law_raw" ["_law_script", "_law_k"] 2 (sp_lraw K)) : FnOk P w K mg base CX0 3 f fd ["_law_script", "_law_k", "_law_sizes"] (sp_ldigits K) := by
  refine F.ok sc_ldigits (fun vs H Q E h => ?_) (fun cdv A outer s H vs Q E hr h => ?_)
  · obtain ⟨a, b, ns, ss, n, rfl, _⟩ := h
    rfl
  · obtain ⟨a, b, ns, ss, n, rfl, hS, hlen, hB, hbl, hpos, k⟩ := h
    refine ⟨_, PSs.nox (pss_cons (ps_set (i := 3) sc_ldigits.nd rfl (Or.inl rfl) (pe_own C_lraw (hr.mono (by omega)) (pa_cons (pv 0) (pa_cons (pv 1) pa_nil))))
          (pss_cons (ps_set (i := 4) sc_ldigits.nd rfl (Or.inl rfl) (pe_lst pa_nil))
          (C8.pss_cut (ps_for PassesOwn.never rfl (pilK K (pv 2)) (pg_name (i := 5) sc_ldigits.nd rfl (Or.inl rfl))
            (pss_cons (ps_expr (pe_bm PySem.F.plainAttrs_list PySem.F.slot_list_append PySem.F.type_list_append mt_append (pv 4) (pa_cons (pe_op op_mod (pv 3) (pv 5)) pa_nil)))
              (pss_one (ps_set (i := 3) sc_ldigits.nd rfl (Or.inl rfl) (pe_op op_fdivW (pv 3) (pv 5))))))
          (pss_one (ps_ret (pv 4)))))), ?_⟩
    refine ⟨_, rfl, _, rfl, a, ns, n, rfl, hS, hlen, fun r => ?_⟩
    refine ⟨Nat.zero_le _, fun p hp => ?_⟩
    refine ⟨fun σ H' => ∃ (ds : List Int), σ[4]? = some (some (.ref p)) ∧ Same H H' ∧ H' p = some (.lst (ds.map V.int)) ∧ DigOk ss ds, ?_, ?_⟩
    · refine ⟨_, rfl, b, rfl, ⟨_, (same_new hp).seq hB⟩, for_list (K := K) (a := b) (xs := ss.map V.int) (fun i σ H' => ∃ (r : Int) (ds : List Int) (v : Option V), σ = [some (.ref a), some (.int n), some (.ref b), some (.int r), some (.ref p), v] ∧ Same H H' ∧ H' p = some (.lst (ds.map V.int)) ∧ DigOk (ss.take i) ds)
        ⟨r, [], none, rfl, same_new hp, upd_same, trivial⟩ (fun i σ H' _ ⟨_, _, _, _, s1, _⟩ => s1.seq hB) ?_ ?_⟩
      · rintro i y σ H' hi ⟨r, ds, v, rfl, s1, hq, hd⟩
        obtain ⟨z, hz, rfl⟩ := get_ints hi
        have hzz := hpos z (List.mem_of_getElem? hz)
        have hdl := hd.length
        rw [List.length_take] at hdl
        refine ⟨_, rfl, .inl ⟨rfl, _, SqL.of hq⟩, _, rfl, _, rfl, _, _, rfl, rfl, hzz.1, p, _, _, rfl, rfl, hq, sz_lt (by rw [List.length_map]; omega), ?_⟩
        refine ⟨_, rfl, _, rfl, _, _, rfl, rfl, wide_div hzz.1 (b := 100) (by omega) (by decide) (by decide), ?_⟩
        refine ⟨_, ds ++ [r % z], _, rfl, same_mut s1 hp, ?_, ?_⟩
        · rw [upd_same, List.map_append]
          rfl
        · rw [List.take_succ, hz]
          exact hd.snoc (Int.emod_nonneg _ (by omega)) (Int.emod_lt_of_pos _ hzz.1)
      · rintro σ H' ⟨r, ds, v, rfl, s1, hq, hd⟩
        rw [List.length_map, List.take_length] at hd
        exact ⟨ds, rfl, s1, hq, hd⟩
    · rintro σ H' ⟨ds, e4, s1, hq, hd⟩
      exact ⟨_, e4, k p ds H' hp s1 hq hd⟩

theorem sc_ldays : FnScope N_ldays ["_law_script", "_law_k"] (defScope s_ldays) := ⟨rfl, rfl, rfl, by decide +kernel, rfl, by decide +kernel, by decide +kernel⟩
def sp_ldays (K : PySem.W.Frag) : Sp := fun vs H Q _ => ∃ (a : Addr) (ns : List Int) (n : Int), vs = [.ref a, .int n] ∧ SqL K H a (ns.map V.int) ∧ ns.length ≤ 63 ∧
  ∀ (p : Addr) (ds : List Int) (H' : Hp), Same H H' → H p = none → H' p = some (.lst (ds.map V.int)) → 1 ≤ ds.length → ds.length ≤ 10 → DaysOk ds → Q (.ref p) H'
theorem ok_ldays {f : Addr} {fd : FuncData} (F : FnP K "_law_days" s_ldays f fd) (T : Txt K mg) (C_ldigits : Own P w K mg base "_law_digits" ["_law_script", "_law_k", "_law_sizes"] 3 (sp_ldigits K)) : FnOk P w K mg base CX0 4 f fd ["_law_script", "_law_k"] (sp_ldays K) := by
  refine F.ok sc_ldays (fun vs H Q E h => ?_) (fun cdv A outer s H vs Q E hr h => ?_)
  · obtain ⟨a, ns, n, rfl, _⟩ := h
    rfl
  · obtain ⟨a, ns, n, rfl, hS, hlen, k⟩ := h
    refine ⟨_, PSs.nox (pss_cons (ps_asg (pe_own C_ldigits (hr.mono (by omega)) (pa_cons (pv 0) (pa_cons (pv 1) (pa_cons (pe_lst (pa_cons pe_int (pa_cons pe_int pa_nil))) pa_nil)))) (pguK (n := 2) K rfl (pgs_cons (pg_name (i := 2) sc_ldays.nd rfl (Or.inl rfl)) (pgs_cons (pg_name (i := 3) sc_ldays.nd rfl (Or.inl rfl)) pgs_nil))))
          (pss_cons (ps_set (i := 4) sc_ldays.nd rfl (Or.inl rfl) (pe_own C_ldigits (hr.mono (by omega)) (pa_cons (pv 0) (pa_cons (pe_op op_add (pv 1) pe_int) (pa_cons (pe_op op_rep (pe_lst (pa_cons pe_int pa_nil)) (pe_op op_add pe_int (pv 2))) pa_nil)))))
          (pss_one (ps_ret (pe_ifExp (pt_cmpR op_gt (pv 3) pe_int (nomark _)) (by exact (pe_lc (own := [("_law_day", 5)]) rfl sc_ldays.nd (pilK K (pv 4)) (blkOk_by (own := [("_law_day", 5)]) (N := N_ldays) (sc := defScope s_ldays) (by decide +kernel)) (fun _ _ _ _ _ => by exact (pg_name (i := 5) sc_ldays.nd rfl (Or.inl rfl))) (fun _ _ _ _ _ => by exact pts_nil) (fun _ _ _ _ _ => by exact (pe_op op_add pe_int (pe_op op_mod (pv 5) pe_int))))) (pv 4)))))), ?_⟩
    refine ⟨_, rfl, _, rfl, (by show 2 ≤ sizeLine; decide), fun p0 hp0 => ?_⟩
    have s0 : Same H (upd H p0 (.lst [.int 10, .int 3])) := same_new hp0
    refine ⟨a, p0, ns, [10, 3], n, rfl, s0.seq hS, hlen, SqL.of upd_same, (by show 2 ≤ 1000; decide), ?_, fun q0 es H1 nq0 s1 hq0 dig => ?_⟩
    · intro s hs
      simp only [List.mem_cons, List.not_mem_nil, or_false] at hs
      rcases hs with rfl | rfl <;> omega
    obtain ⟨d0, _, rfl, a0, b0, dig⟩ := dig.inv
    obtain ⟨near, _, rfl, a2, b2, dig⟩ := dig.inv
    have e := dig.inv0
    subst e
    refine ⟨q0, _, rfl, SqL.of hq0, rfl, _, _, rfl, _, _, rfl, rfl, ?_⟩
    have s01 := s0.trans s1
    refine ⟨_, rfl, _, rfl, _, _, rfl, rfl, (by show 1 ≤ sizeLine; decide), fun p2 hp2 => ?_⟩
    refine ⟨_, rfl, _, _, rfl, rfl, p2, _, _, rfl, rfl, upd_same, by omega, by omega, sz_of (by simp; omega), fun p3 hp3 => ?_⟩
    have s2 : Same H1 (upd (upd H1 p2 (.lst [.int 10000])) p3 (.lst (List.replicate (1 + d0).toNat [V.int 10000]).flatten)) := (same_new hp2).trans (same_new hp3)
    refine ⟨a, p3, ns, List.replicate (1 + d0).toNat 10000, _, rfl, (s01.trans s2).seq hS, hlen, SqL.of ?_, by rw [List.length_replicate]; omega, ?_, fun d1 ds1 H2 nd1 s3 hd1 dg1 => ?_⟩
    · rw [upd_same, flat_one, List.map_replicate]
    · intro s hs
      rw [List.eq_of_mem_replicate hs]
      omega
    obtain ⟨dl1, dr1⟩ := dg1.rep
    have s02 : Same H H2 := (s01.trans s2).trans s3
    refine ⟨_, rfl, _, _, rfl, rfl, _, rfl, ?_⟩
    refine ite2 (fun _ => ?_) (fun _ => ⟨_, rfl, k d1 ds1 H2 s02 ((s01.trans s2).free nd1) hd1 (by omega) (by omega) fun x hx => ⟨(dr1 x hx).1, by have := (dr1 x hx).2; omega⟩⟩)
    refine ⟨_, rfl, d1, rfl, ⟨_, SqL.of hd1⟩, fun D hD => ?_⟩
    refine lc_list (K := K) (a := d1) (xs := ds1.map V.int) (fun i H3 => Same H2 H3 ∧ ∃ ds : List Int, H3 D = some (.lst (ds.map V.int)) ∧ ds.length = i ∧ DaysOk ds)
      ⟨same_new hD, [], upd_same, rfl, fun x hx => by cases hx⟩ (fun i H3 _ ⟨s4, _⟩ => s4.seq (SqL.of hd1)) ?_ ?_
    · rintro i y H3 hi ⟨s4, ds, hq, hl, hr'⟩
      obtain ⟨z, hz, rfl⟩ := get_ints hi
      have z1 := Int.emod_nonneg z (by decide : (15 : Int) ≠ 0)
      have z2 := Int.emod_lt_of_pos z (by decide : (0 : Int) < 15)
      have hil : i < ds1.length := (List.getElem?_eq_some_iff.mp hz).1
      refine ⟨rfl, ?_⟩
      refine ⟨_, rfl, _, _, rfl, rfl, (by decide : (0 : Int) < 15), _, _, rfl, rfl, _, hq, sz_lt (by rw [List.length_map]; omega), same_mut s4 hD, ds ++ [4990 + z % 15], ?_, by simp [hl], ?_⟩
      · rw [upd_same, List.map_append]
        rfl
      · intro x hx
        rcases List.mem_append.mp hx with hx | hx
        · exact hr' x hx
        · rw [List.mem_singleton.mp hx]
          unfold DayOk
          omega
    · rintro H3 ⟨s4, ds, hq, hl, hr'⟩
      rw [List.length_map] at hl
      exact k D ds H3 (s02.trans s4) (s02.free hD) hq (by omega) (by omega) hr'

theorem sc_lrow : FnScope N_lrow ["_law_script", "_law_k", "_law_many"] (defScope s_lrow) := ⟨rfl, rfl, rfl, by decide +kernel, rfl, by decide +kernel, by decide +kernel⟩
theorem row_of {m : Nat} {fs ls : List Nat} (pm : (fs ++ ls).Perm (List.range m)) (h1 : 1 ≤ fs.length) (h4 : fs.length ≤ 4) : RowOk (m : Int) (fs.map fun j : Nat => (j : Int)) := by
  have nd : (fs ++ ls).Nodup := pm.nodup_iff.mpr List.nodup_range
  refine ⟨⟨by rw [List.length_map]; exact h1, by rw [List.length_map]; exact h4, ?_⟩, fun x hx => ?_⟩
  · exact List.pairwise_map.mpr ((List.nodup_append.mp nd).1.imp fun {a b} h => by omega)
  · obtain ⟨j, hj, rfl⟩ := List.mem_map.mp hx
    have := List.mem_range.mp (pm.mem_iff.mp (List.mem_append_left ls hj))
    omega
def sp_lrow (K : PySem.W.Frag) : Sp := fun vs H Q _ => ∃ (a : Addr) (ns : List Int) (c : Int) (m : Nat), vs = [.ref a, .int c, .int (m : Int)] ∧ SqL K H a (ns.map V.int) ∧ ns.length ≤ 63 ∧ 1 ≤ m ∧ m ≤ 1000 ∧
  ∀ (p : Addr) (r : List Int) (H' : Hp), Same H H' → H p = none → H' p = some (.lst (r.map V.int)) → RowOk (m : Int) r → Q (.ref p) H'
theorem ok_lrow {f : Addr} {fd : FuncData} (F : FnP K "_law_row" s_lrow f fd) (T : Txt K mg) (C_ldigits : Own P w K mg base "_law_digits" ["_law_script", "_law_k", "_law_sizes"] 3 (sp_ldigits K)) : FnOk P w K mg base CX0 4 f fd ["_law_script", "_law_k", "_law_many"] (sp_lrow K) := by
  refine F.ok sc_lrow (fun vs H Q E h => ?_) (fun cdv A outer s H vs Q E hr h => ?_)
  · obtain ⟨a, ns, c, m, rfl, _⟩ := h
    rfl
  · obtain ⟨a, ns, c, m, rfl, hS, hlen, hm1, hm, k⟩ := h
    refine ⟨_, PSs.nox (pss_cons (ps_set (i := 3) sc_lrow.nd rfl (Or.inl rfl) (pe_own C_ldigits (hr.mono (by omega)) (pa_cons (pv 0) (pa_cons (pv 1) (pa_cons (pe_lst (pa_cons pe_int (pa_cons pe_int (pa_cons pe_int (pa_cons pe_int (pa_cons pe_int pa_nil)))))) pa_nil)))))
          (pss_cons (ps_set (i := 4) sc_lrow.nd rfl (Or.inl rfl) (pe_listRg rfl (by rfl) T.n_list (prg_1 (by rfl) T.n_range (pv 2))))
          (pss_cons (ps_set (i := 5) sc_lrow.nd rfl (Or.inl rfl) (pe_lst pa_nil))
          (C8.pss_cut (ps_for PassesOwn.never rfl (pilK K (pe_slice (slK K) (pv 3) (po_some pe_int) (po_some (pe_op op_add pe_int (pe_ix (ixl K) (pv 3) pe_int (fun _ _ => rfl)))))) (pg_name (i := 6) sc_lrow.nd rfl (Or.inl rfl))
            (pss_one (ps_if (pt_cmpR op_gt (pe_callB (lenK K) (by rfl) T.n_len (by decide +kernel) (pa_cons (pv 4) pa_nil)) pe_int (nomark _)) (pss_one (ps_expr (pe_bm PySem.F.plainAttrs_list PySem.F.slot_list_append PySem.F.type_list_append mt_append (pv 5) (pa_cons (pe_bm PySem.F.plainAttrs_list PySem.F.slot_list_pop PySem.F.type_list_pop mt_popAt (pv 4) (pa_cons (pe_op op_mod (pv 6) (pe_callB (lenK K) (by rfl) T.n_len (by decide +kernel) (pa_cons (pv 4) pa_nil))) pa_nil)) pa_nil)))) pss_nil)))
          (pss_one (ps_ret (pv 5))))))), ?_⟩
    refine ⟨_, rfl, _, rfl, (by show 5 ≤ sizeLine; decide), fun p0 hp0 => ?_⟩
    have u0 := same_new (o := .lst [.int 4, .int 10, .int 9, .int 8, .int 7]) hp0
    refine ⟨a, p0, ns, [4, 10, 9, 8, 7], c, rfl, u0.seq hS, hlen, SqL.of upd_same, (by show 5 ≤ 1000; decide), ?_, fun q0 es H1 nq0 s1 hq0 dig => ?_⟩
    · intro s hs
      simp only [List.mem_cons, List.not_mem_nil, or_false] at hs
      rcases hs with rfl | rfl | rfl | rfl | rfl <;> omega
    obtain ⟨d0, _, rfl, a0, b0, dig⟩ := dig.inv
    obtain ⟨e1, _, rfl, _, _, dig⟩ := dig.inv
    obtain ⟨e2, _, rfl, _, _, dig⟩ := dig.inv
    obtain ⟨e3, _, rfl, _, _, dig⟩ := dig.inv
    obtain ⟨e4, _, rfl, _, _, dig⟩ := dig.inv
    have e := dig.inv0
    subst e
    have s01 := u0.trans s1
    refine ⟨_, rfl, _, rfl, RgOk.of_le (by decide) (by omega) (by decide) (by omega), fun q hq => ?_⟩
    have eq0 : rgV 0 (m : Int) = ((List.range m).map fun j : Nat => (j : Int)).map V.int := by
      unfold rgV
      rw [show ((m : Int) - 0).toNat = m by omega, List.map_map]
      exact List.map_congr_left fun j _ => by simp
    rw [eq0]
    have u2 := same_new (o := .lst (((List.range m).map fun j : Nat => (j : Int)).map V.int)) hq
    refine ⟨Nat.zero_le _, fun p hp => ?_⟩
    have npq : q ≠ p := ne_of_none upd_same hp
    have u3 := u2.trans (same_new (o := .lst []) hp)
    have np : H p = none := (s01.trans u2).free hp
    have nq : H q = none := s01.free hq
    have s03 := s01.trans u3
    obtain ⟨zs, ez, zl1, zl4⟩ : ∃ zs : List Int, cutV ([d0, e1, e2, e3, e4].map V.int) (some 1) (some (2 + d0)) = zs.map V.int ∧ 1 ≤ zs.length ∧ zs.length ≤ 4 := by
      have k4 : d0 = 0 ∨ d0 = 1 ∨ d0 = 2 ∨ d0 = 3 := by omega
      rcases k4 with rfl | rfl | rfl | rfl
      · exact ⟨[e1], rfl, by simp, by simp⟩
      · exact ⟨[e1, e2], rfl, by simp, by simp⟩
      · exact ⟨[e1, e2, e3], rfl, by simp, by simp⟩
      · exact ⟨[e1, e2, e3, e4], rfl, by simp, by simp⟩
    refine ⟨fun σ H2 => ∃ fs ls : List Nat, σ[5]? = some (some (.ref p)) ∧ Same H H2 ∧ H2 p = some (.lst ((fs.map fun j : Nat => (j : Int)).map V.int)) ∧ (fs ++ ls).Perm (List.range m) ∧ 1 ≤ fs.length ∧ fs.length ≤ 4, ?_, ?_⟩
    · refine ⟨_, rfl, _, rfl, _, rfl, q0, _, _, _, rfl, rfl, SqL.of (u3 _ _ hq0), rfl, _, _, rfl, rfl, _, rfl, q0, _, rfl, SqL.of (u3 _ _ hq0), fun b hb => ?_⟩
      rw [ez]
      have u4 := same_new (o := .lst (zs.map V.int)) hb
      have nqb : q ≠ b := ne_of_none (show _ = some _ by rw [upd_ne npq, upd_same]) hb
      have npb : p ≠ b := ne_of_none upd_same hb
      refine ⟨b, rfl, ⟨_, SqL.of upd_same⟩, for_list (K := K) (a := b) (xs := zs.map V.int) (fun i σ H4 => ∃ (fs ls : List Nat) (v6 : Option V), σ = [some (.ref a), some (.int c), some (.int (m : Int)), some (.ref q0), some (.ref q), some (.ref p), v6] ∧ Same H H4 ∧ H4 b = some (.lst (zs.map V.int)) ∧ H4 p = some (.lst ((fs.map fun j : Nat => (j : Int)).map V.int)) ∧ H4 q = some (.lst ((ls.map fun j : Nat => (j : Int)).map V.int)) ∧ fs.length = min i m ∧ (fs ++ ls).Perm (List.range m))
        ⟨[], List.range m, none, rfl, s03.trans u4, upd_same, u4 _ _ upd_same, u4 _ _ (by rw [upd_ne npq, upd_same]), (by simp), List.Perm.refl _⟩ (fun i σ H4 _ ⟨_, _, _, _, _, h4, _⟩ => SqL.of h4) ?_ ?_⟩
      · rintro i y σ H4 hi ⟨fs, ls, v6, rfl, s4, hb4, hp4, hq4, hfl, pm⟩
        obtain ⟨z, hz, rfl⟩ := get_ints hi
        have hil : i < zs.length := (List.getElem?_eq_some_iff.mp hz).1
        have hpl := pm.length_eq
        rw [List.length_append, List.length_range] at hpl
        have lm : ((ls.map fun j : Nat => (j : Int)).map V.int).length = ls.length := by rw [List.length_map, List.length_map]
        refine ⟨_, rfl, _, _, rfl, .inl (SqL.of hq4), _, _, rfl, rfl, _, rfl, ?_⟩
        refine ite2 (fun c => ?_) (fun c => ?_)
        · have hls : 0 < ls.length := by
            have := of_decide_eq_true c
            omega
          have z1 := Int.emod_nonneg z (show (((ls.map fun j : Nat => (j : Int)).map V.int).length : Int) ≠ 0 by omega)
          have z2 := Int.emod_lt_of_pos z (show (0 : Int) < (((ls.map fun j : Nat => (j : Int)).map V.int).length : Int) by omega)
          obtain ⟨x, hx⟩ : ∃ x, ls[(z % (((ls.map fun j : Nat => (j : Int)).map V.int).length : Int)).toNat]? = some x := ⟨_, List.getElem?_eq_getElem (by omega)⟩
          refine ⟨_, rfl, .inl ⟨rfl, _, SqL.of hp4⟩, _, rfl, .inl ⟨rfl, _, SqL.of hq4⟩, ?_⟩
          refine ⟨_, rfl, _, rfl, _, _, rfl, .inl (SqL.of hq4), _, _, rfl, rfl, (by omega : (0 : Int) < (((ls.map fun j : Nat => (j : Int)).map V.int).length : Int)), ?_⟩
          refine ⟨q, _, _, (z % (((ls.map fun j : Nat => (j : Int)).map V.int).length : Int)).toNat, _, rfl, rfl, hq4, by omega, by omega, seqIndex_of z1 z2, (by rw [List.getElem?_map, List.getElem?_map, hx]; rfl : _ = some (V.int (x : Int))), ?_⟩
          refine ⟨p, _, _, rfl, rfl, by rw [upd_ne npq.symm]; exact hp4, sz_lt (by rw [List.length_map, List.length_map]; omega), ?_⟩
          refine ⟨fs ++ [x], ls.eraseIdx (z % (((ls.map fun j : Nat => (j : Int)).map V.int).length : Int)).toNat, _, rfl, same_mut (same_mut s4 nq) np, ?_, ?_, ?_, by rw [List.length_append, List.length_singleton, hfl]; omega, ?_⟩
          · rw [upd_ne npb.symm, upd_ne nqb.symm]
            exact hb4
          · rw [upd_same, List.map_append, List.map_append]
            rfl
          · rw [upd_ne npq, upd_same, erase_map, erase_map]
          · rw [List.append_assoc]
            exact (List.Perm.append_left fs (perm_erase hx)).trans pm
        · have hls : ls.length = 0 := by
            rcases Nat.eq_zero_or_pos ls.length with z | z
            · exact z
            · exact absurd (decide_eq_true (by omega)) c
          exact ⟨fs, ls, _, rfl, s4, hb4, hp4, hq4, by omega, pm⟩
      · rintro σ H4 ⟨fs, ls, v6, rfl, s4, hb4, hp4, hq4, hfl, pm⟩
        rw [List.length_map] at hfl
        exact ⟨fs, ls, rfl, s4, hp4, pm, by omega, by omega⟩
    · rintro σ H2 ⟨fs, ls, g, s2, hp2, pm, l1, l4⟩
      exact ⟨_, g, k p _ H2 s2 np hp2 (row_of pm l1 l4)⟩

theorem sc_lrun : FnScope N_lrun ["_law_script", "_law_k", "_law_days_here"] (defScope s_lrun) := ⟨rfl, rfl, rfl, by decide +kernel, rfl, by decide +kernel, by decide +kernel⟩
def sp_lrun (K : PySem.W.Frag) : Sp := fun vs H Q _ => ∃ (a b : Addr) (ns ds : List Int) (n : Int), vs = [.ref a, .int n, .ref b] ∧ SqL K H a (ns.map V.int) ∧ ns.length ≤ 63 ∧ SqL K H b (ds.map V.int) ∧ 1 ≤ ds.length ∧ ds.length ≤ 10 ∧ DaysOk ds ∧
  ∀ (p : Addr) (s : Int) (o : Option Int) (H' : Hp), Same H H' → H p = none → H' p = some (.tup [.int s, optV o]) → RunOk s o → Q (.ref p) H'
theorem ok_lrun {f : Addr} {fd : FuncData} (F : FnP K "_law_run" s_lrun f fd) (T : Txt K mg) (C_ldigits : Own P w K mg base "_law_digits" ["_law_script", "_law_k", "_law_sizes"] 3 (sp_ldigits K)) : FnOk P w K mg base CX0 4 f fd ["_law_script", "_law_k", "_law_days_here"] (sp_lrun K) := by
  refine F.ok sc_lrun (fun vs H Q E h => ?_) (fun cdv A outer s H vs Q E hr h => ?_)
  · obtain ⟨a, b, ns, ds, n, rfl, _⟩ := h
    rfl
  · obtain ⟨a, b, ns, ds, n, rfl, hS, hlen, hD, dl1, dl10, dok, k⟩ := h
    refine ⟨_, PSs.nox (pss_cons (ps_asg (pe_own C_ldigits (hr.mono (by omega)) (pa_cons (pv 0) (pa_cons (pv 1) (pa_cons (pe_lst (pa_cons pe_int (pa_cons (pe_callB (call_max2 rfl) (by rfl) T.n_max (by decide +kernel) (pa_cons pe_int (pa_cons (pe_callB (lenK K) (by rfl) T.n_len (by decide +kernel) (pa_cons (pv 2) pa_nil)) pa_nil))) (pa_cons pe_int (pa_cons pe_int (pa_cons pe_int pa_nil)))))) pa_nil)))) (pguK (n := 5) K rfl (pgs_cons (pg_name (i := 3) sc_lrun.nd rfl (Or.inl rfl)) (pgs_cons (pg_name (i := 4) sc_lrun.nd rfl (Or.inl rfl)) (pgs_cons (pg_name (i := 5) sc_lrun.nd rfl (Or.inl rfl)) (pgs_cons (pg_name (i := 6) sc_lrun.nd rfl (Or.inl rfl)) (pgs_cons (pg_name (i := 7) sc_lrun.nd rfl (Or.inl rfl)) pgs_nil)))))))
          (C8.pss_cut (ps_set (i := 8) sc_lrun.nd rfl (Or.inl rfl) (pe_ifExp (PW.pt (pw_or (pt_cmpR op_eq (pv 3) pe_int (nomark _)) (pw_or1 (pt_cmpR (eqDK K hr.units) (pv 2) (pe_lst pa_nil) (nomark _))))) (pv 5) (pe_callB (call_max2 rfl) (by rfl) T.n_max (by decide +kernel) (pa_cons pe_int (pa_cons (pe_callB (call_min2 rfl) (by rfl) T.n_min (by decide +kernel) (pa_cons pe_int (pa_cons (pe_op op_sub (pe_op op_add (pe_ix (ixl K) (pv 2) (pv 4) (fun _ _ => rfl)) (pv 5)) pe_int) pa_nil))) pa_nil)))))
          (pss_cons (ps_set (i := 9) sc_lrun.nd rfl (Or.inl rfl) (pe_ix (ixl K) (pe_lst (pa_cons pe_non (pa_cons (pe_op op_add (pe_op op_add (pv 8) pe_int) (pe_op op_mod (pv 6) pe_int)) (pa_cons (pe_op op_add (pe_op op_add (pv 8) pe_int) (pe_op op_mod (pv 6) pe_int)) (pa_cons (pe_op op_add (pe_op op_add (pv 8) pe_int) (pv 6)) (pa_cons pe_int pa_nil)))))) (pv 7) (fun _ _ => rfl)))
          (pss_one (ps_ret (pe_tup (pa_cons (pv 8) (pa_cons (pe_ifExp (pt_cmpR op_isN (pv 9) pe_non (nomark _)) pe_non (pe_callB (call_min2 rfl) (by rfl) T.n_min (by decide +kernel) (pa_cons pe_int (pa_cons (pv 9) pa_nil)))) pa_nil)))))))), ?_⟩
    refine ⟨_, rfl, _, rfl, _, rfl, _, _, rfl, .inl hD, _, _, rfl, (by show 5 ≤ sizeLine; decide), fun p0 hp0 => ?_⟩
    have em : (if ((ds.map V.int).length : Int) > 1 then ((ds.map V.int).length : Int) else 1) = (ds.length : Int) := by
      rw [List.length_map]
      split <;> omega
    rw [em]
    have u0 := same_new (o := .lst [V.int 2, .int (ds.length : Int), .int 13, .int 10000, .int 5]) hp0
    refine ⟨a, p0, ns, [2, (ds.length : Int), 13, 10000, 5], n, rfl, u0.seq hS, hlen, SqL.of upd_same, (by show 5 ≤ 1000; decide), ?_, fun q0 es H1 nq0 s1 hq0 dig => ?_⟩
    · intro s hs
      simp only [List.mem_cons, List.not_mem_nil, or_false] at hs
      rcases hs with rfl | rfl | rfl | rfl | rfl <;> omega
    obtain ⟨near, _, rfl, a0, b0, dig⟩ := dig.inv
    obtain ⟨at', _, rfl, a1, b1, dig⟩ := dig.inv
    obtain ⟨shift, _, rfl, a2, b2, dig⟩ := dig.inv
    obtain ⟨wide, _, rfl, a3, b3, dig⟩ := dig.inv
    obtain ⟨way, _, rfl, a4, b4, dig⟩ := dig.inv
    have e := dig.inv0
    subst e
    refine ⟨q0, _, rfl, SqL.of hq0, rfl, _, _, rfl, _, _, rfl, _, _, rfl, _, _, rfl, _, _, rfl, rfl, ?_⟩
    have s01 := u0.trans s1
    refine ⟨fun σ H2 => ∃ s : Int, σ = [some (.ref a), some (.int n), some (.ref b), some (.int near), some (.int at'), some (.int shift), some (.int wide), some (.int way), some (.int s), none] ∧ Same H H2 ∧ DayOk s, ?_, ?_⟩
    · refine ⟨_, rfl, rfl, _, rfl, ?_⟩
      refine ite2 (fun c => ⟨_, rfl, shift, rfl, s01, by unfold DayOk; omega⟩) (fun c => ?_)
      refine ⟨_, rfl, Nat.zero_le _, fun e0 he0 => ?_⟩
      have u2 := same_new (o := .lst []) he0
      refine ⟨intsD ds, .list [], dp_ints ((s01.trans u2).seq hD), dp_nil upd_same, shaped_ints _, rfl, _, rfl, ?_⟩
      rw [eqv_ints_nil]
      refine iteDF (by intro z; rw [z] at dl1; simp at dl1) ?_
      refine ⟨_, rfl, _, rfl, b, _, _, _, rfl, rfl, (s01.trans u2).seq hD, at_ints (by omega) (by omega), _, rfl, _, _, rfl, rfl, _, _, rfl, rfl, _, _, rfl, _, _, rfl, _, rfl, s01.trans u2, ?_⟩
      unfold DayOk
      split <;> split <;> omega
    rintro σ H2 ⟨s, rfl, s02, sok⟩
    refine ⟨_, rfl, _, _, rfl, rfl, _, rfl, _, _, rfl, rfl, (by decide : (0 : Int) < 12), _, _, rfl, rfl, _, rfl, _, _, rfl, rfl, _, rfl, _, _, rfl, rfl, (by decide : (0 : Int) < 12), _, _, rfl, rfl, _, rfl, _, _, rfl, rfl, _, rfl, _, _, rfl, rfl, (by show 5 ≤ sizeLine; decide), fun p3 hp3 => ?_⟩
    have u3 := same_new (o := .lst [V.non, .int (s + 1 + wide % 12), .int (s + 1 + wide % 12), .int (s + 1 + wide), .int 10000]) hp3
    have w1 := Int.emod_nonneg wide (by decide : (12 : Int) ≠ 0)
    obtain ⟨o, eo, bo⟩ : ∃ o : Option Int, atI [V.non, .int (s + 1 + wide % 12), .int (s + 1 + wide % 12), .int (s + 1 + wide), .int 10000] way = some (optV o) ∧ ∀ e, o = some e → s < e := by
      unfold DayOk at sok
      have k5 : way = 0 ∨ way = 1 ∨ way = 2 ∨ way = 3 ∨ way = 4 := by omega
      rcases k5 with rfl | rfl | rfl | rfl | rfl
      · exact ⟨none, rfl, fun e z => by cases z⟩
      · exact ⟨some (s + 1 + wide % 12), rfl, fun e z => by cases z; omega⟩
      · exact ⟨some (s + 1 + wide % 12), rfl, fun e z => by cases z; omega⟩
      · exact ⟨some (s + 1 + wide), rfl, fun e z => by cases z; omega⟩
      · exact ⟨some 10000, rfl, fun e z => by cases z; omega⟩
    refine ⟨_, rfl, p3, _, _, _, rfl, rfl, SqL.of upd_same, eo, ?_⟩
    refine ⟨_, rfl, _, rfl, rfl, _, rfl, ?_⟩
    have s03 := s02.trans u3
    cases o with
    | none =>
      refine iteD rfl ⟨(by show 2 ≤ sizeLine; decide), fun p4 hp4 => ?_⟩
      exact k p4 s none _ (s03.trans (same_new hp4)) (s03.free hp4) upd_same ⟨sok, fun e z => by cases z⟩
    | some e =>
      have se := bo e rfl
      refine iteDF (by intro z; cases z) ⟨_, rfl, _, _, rfl, (by show 2 ≤ sizeLine; decide), fun p4 hp4 => ?_⟩
      refine k p4 s (some (if e < 10000 then e else 10000)) _ (s03.trans (same_new hp4)) (s03.free hp4) upd_same ⟨sok, fun x z => ?_⟩
      cases z
      unfold DayOk at sok
      split <;> omega

theorem sc_lholder : FnScope N_lholder ["_law_row_here", "_law_days_here", "_law_day"] (defScope s_lholder) := ⟨rfl, rfl, rfl, by decide +kernel, rfl, by decide +kernel, by decide +kernel⟩
def sp_lholder (K : PySem.W.Frag) : Sp := fun vs H Q _ => ∃ (a b : Addr) (r ds : List Int) (d : Int), vs = [.ref a, .ref b, .int d] ∧ SqL K H a (r.map V.int) ∧ r.length ≤ 1000 ∧ SqL K H b (ds.map V.int) ∧ (∀ x ∈ r, 0 ≤ x ∧ x < ds.length) ∧
  ∀ H', Same H H' → Q (.int (holderOf r ds d)) H'
theorem ok_lholder {f : Addr} {fd : FuncData} (F : FnP K "_law_holder" s_lholder f fd) (T : Txt K mg) : FnOk P w K mg base CX0 1 f fd ["_law_row_here", "_law_days_here", "_law_day"] (sp_lholder K) := by
  refine F.ok sc_lholder (fun vs H Q E h => ?_) (fun cdv A outer s H vs Q E hr h => ?_)
  · obtain ⟨a, b, r, ds, d, rfl, _⟩ := h
    rfl
  · obtain ⟨a, b, r, ds, d, rfl, hR, hrl, hD, hx, k⟩ := h
    refine ⟨_, PSs.nox (pss_cons (ps_setLc (i := 3) (own := [("_law_life", 4)]) rfl sc_lholder.nd rfl rfl (sw_true rfl rfl rfl (by decide +kernel)) (pilK K (pv 0)) (blkOk_by (own := [("_law_life", 4)]) (N := N_lholder) (sc := defScope s_lholder) (by decide +kernel)) (fun _ _ _ _ _ => by exact (pg_name (i := 4) sc_lholder.nd rfl (Or.inl rfl))) (fun _ _ _ _ _ => by exact (pts_one (pt_cmpR op_gt (pe_ix (ixl K) (pv 1) (pv 4) (fun _ _ => rfl)) (pv 2) (nomark _)))) (fun _ _ _ _ _ => by exact (pv 4)))
          (pss_one (ps_ret (pe_ifExp (pt_cmpR (neDK K hr.units) (pv 3) (pe_lst pa_nil) (nomark _)) (pe_ix (ixl K) (pv 3) pe_int (fun _ _ => rfl)) (pe_un un_neg pe_int))))), ?_⟩
    refine ⟨_, rfl, a, rfl, ⟨_, hR⟩, fun D nD => ?_⟩
    refine lc_list (K := K) (a := a) (xs := r.map V.int) (fun i H2 => Same H H2 ∧ H2 D = some (.lst (((r.take i).filter fun l => decide (d < dayOf ds l)).map V.int))) ⟨same_new nD, upd_same⟩ (fun i H2 _ z => z.1.seq hR) ?_ ?_
    · rintro i y H2 hi ⟨s2, hq⟩
      obtain ⟨x, hxi, rfl⟩ := get_ints hi
      have bx := hx x (List.mem_of_getElem? hxi)
      have hil := (List.getElem?_eq_some_iff.mp hxi).1
      refine ⟨rfl, ?_⟩
      refine ⟨_, rfl, _, rfl, b, _, _, _, rfl, rfl, s2.seq hD, at_ints (by omega) (by omega), _, rfl, _, _, rfl, rfl, _, rfl, ?_⟩
      have sz : (((r.take i).filter fun l => decide (d < dayOf ds l)).map V.int).length < 100000 := by
        rw [List.length_map]
        have := List.length_filter_le (fun l => decide (d < dayOf ds l)) (r.take i)
        rw [List.length_take] at this
        omega
      refine ite2 (fun c => ?_) (fun c => ?_)
      · have c : d < dayOf ds x := of_decide_eq_true c
        refine ⟨_, rfl, _, hq, sz_lt sz, same_mut s2 nD, ?_⟩
        rw [upd_same, filt_take _ hxi, if_pos (decide_eq_true c), List.map_append]
        rfl
      · have c : ¬ d < dayOf ds x := fun z => c (decide_eq_true z)
        refine ⟨s2, ?_⟩
        rw [filt_take _ hxi, if_neg (by rw [decide_eq_false c]; exact Bool.false_ne_true), List.append_nil]
        exact hq
    · rintro H2 ⟨s2, hq⟩
      rw [List.length_map, List.take_length] at hq
      have hh := holder_head r ds d
      generalize (r.filter fun l => decide (d < dayOf ds l)) = fs at hq hh
      refine ⟨_, rfl, Nat.zero_le _, fun e he => ?_⟩
      have u3 := same_new (o := .lst []) he
      refine ⟨intsD fs, .list [], dp_ints (SqL.of (u3 _ _ hq)), dp_nil upd_same, shaped_ints _, rfl, _, rfl, ?_⟩
      rw [eqv_ints_nil]
      cases fs with
      | nil =>
        rw [show holderOf r ds d = -1 from hh] at k
        exact iteF ⟨_, rfl, k _ (s2.trans u3)⟩
      | cons f fs =>
        rw [show holderOf r ds d = f from hh] at k
        exact iteT ⟨_, rfl, D, _, _, _, rfl, rfl, SqL.of (u3 _ _ hq), at_head rfl, k _ (s2.trans u3)⟩

theorem sc_lturns : FnScope N_lturns ["_law_row_here", "_law_days_here", "_law_begin", "_law_stop"] (defScope s_lturns) := ⟨rfl, rfl, rfl, by decide +kernel, rfl, by decide +kernel, by decide +kernel⟩
def sp_lturns (K : PySem.W.Frag) : Sp := fun vs H Q _ => ∃ (a b : Addr) (r ds : List Int) (s : Int) (o : Option Int), vs = [.ref a, .ref b, .int s, optV o] ∧ SqL K H a (r.map V.int) ∧ r.length ≤ 1000 ∧ SqL K H b (ds.map V.int) ∧ (∀ x ∈ r, 0 ≤ x ∧ x < ds.length) ∧
  ∀ (p : Addr) (xs : List V) (H' : Hp), Same H H' → H p = none → H' p = some (.lst xs) → TiesAt H' xs (turnsOf r ds s (belowOf o)) → Q (.ref p) H'
theorem ok_lturns {f : Addr} {fd : FuncData} (F : FnP K "_law_turns" s_lturns f fd) (T : Txt K mg) : FnOk P w K mg base CX0 1 f fd ["_law_row_here", "_law_days_here", "_law_begin", "_law_stop"] (sp_lturns K) := by
  refine F.ok sc_lturns (fun vs H Q E h => ?_) (fun cdv A outer s H vs Q E hr h => ?_)
  · obtain ⟨a, b, r, ds, s, o, rfl, _⟩ := h
    rfl
  · obtain ⟨a, b, r, ds, s, o, rfl, hR, hrl, hD, hx, k⟩ := h
    refine ⟨_, PSs.nox (C8.pss_cut (ps_set (i := 4) sc_lturns.nd rfl (Or.inl rfl) (pe_ifExp (pt_cmpR op_isN (pv 3) pe_non (nomark _)) pe_int (pv 3)))
          (pss_cons (ps_set (i := 5) sc_lturns.nd rfl (Or.inl rfl) (pe_lst pa_nil))
          (pss_cons (ps_set (i := 6) sc_lturns.nd rfl (Or.inl rfl) (pv 2))
          (C8.pss_cut (ps_for PassesOwn.never rfl (pilK K (pv 0)) (pg_name (i := 7) sc_lturns.nd rfl (Or.inl rfl))
            (pss_cons (ps_set (i := 8) sc_lturns.nd rfl (Or.inl rfl) (pe_callB (call_min2 rfl) (by rfl) T.n_min (by decide +kernel) (pa_cons (pv 4) (pa_cons (pe_ix (ixl K) (pv 1) (pv 7) (fun _ _ => rfl)) pa_nil))))
              (pss_one (ps_if (pt_cmpR op_gt (pv 8) (pv 6) (nomark _)) (pss_cons (ps_expr (pe_bm PySem.F.plainAttrs_list PySem.F.slot_list_append PySem.F.type_list_append mt_append (pv 5) (pa_cons (pe_tup (pa_cons (pv 7) (pa_cons (pv 6) (pa_cons (pv 8) pa_nil)))) pa_nil)))
                (pss_one (ps_set (i := 6) sc_lturns.nd rfl (Or.inl rfl) (pv 8)))) pss_nil))))
          (pss_one (ps_ret (pv 5))))))), ?_⟩
    refine ⟨fun σ H1 => σ = [some (.ref a), some (.ref b), some (.int s), some (optV o), some (.int (belowOf o)), none, none, none, none] ∧ H1 = H, ?_, ?_⟩
    · refine ⟨_, rfl, rfl, _, rfl, ?_⟩
      cases o with
      | none => exact iteD rfl ⟨rfl, rfl⟩
      | some e => exact iteDF (by intro z; cases z) ⟨_, rfl, rfl, rfl⟩
    rintro σ H1 ⟨rfl, rfl⟩
    generalize belowOf o = bl at *
    refine ⟨Nat.zero_le _, fun p hp => ?_⟩
    have u1 := same_new (o := .lst []) hp
    refine ⟨_, rfl, ?_⟩
    refine ⟨fun σ H2 => ∃ xs, σ[5]? = some (some (.ref p)) ∧ Same H1 H2 ∧ H2 p = some (.lst xs) ∧ TiesAt H2 xs (turnsOf r ds s bl), ?_, ?_⟩
    · refine ⟨_, rfl, a, rfl, ⟨_, u1.seq hR⟩, for_list (K := K) (a := a) (xs := r.map V.int) (fun i σ H2 => ∃ (xs : List V) (v7 v8 : Option V), σ = [some (.ref a), some (.ref b), some (.int s), some (optV o), some (.int bl), some (.ref p), some (.int (turnsS (r.take i) ds s bl).2), v7, v8] ∧ Same H1 H2 ∧ H2 p = some (.lst xs) ∧ TiesAt H2 xs (turnsS (r.take i) ds s bl).1)
        ⟨[], none, none, rfl, u1, upd_same, trivial⟩ (fun i σ H2 _ ⟨_, _, _, _, s2, _⟩ => s2.seq hR) ?_ ?_⟩
      · rintro i y σ H2 hi ⟨xs, v7, v8, rfl, s2, hp2, ht⟩
        obtain ⟨x, hx', rfl⟩ := get_ints hi
        have bx := hx x (List.mem_of_getElem? hx')
        have ln := turnsS_len ds s bl (r.take i)
        have il := (List.getElem?_eq_some_iff.mp hx').1
        have tl := ht.length
        rw [List.length_take] at ln
        refine ⟨_, rfl, _, rfl, _, rfl, b, _, _, _, rfl, rfl, s2.seq hD, at_ints (by omega) (by omega), _, _, rfl, ?_⟩
        rw [show (if dayOf ds x < bl then dayOf ds x else bl) = min (dayOf ds x) bl by rw [min_if, Int.min_comm]]
        refine ⟨_, rfl, _, rfl, _, _, rfl, rfl, _, rfl, ?_⟩
        have st := turnsS_take (ds := ds) (s := s) (b := bl) hx'
        by_cases c : (turnsS (r.take i) ds s bl).2 < min (dayOf ds x) bl
        · refine iteD c ?_
          have st2 : turnsS (r.take (i + 1)) ds s bl = ((turnsS (r.take i) ds s bl).1 ++ [(x, (turnsS (r.take i) ds s bl).2, min (dayOf ds x) bl)], min (dayOf ds x) bl) := by
            rw [st]
            exact if_pos c
          refine ⟨_, rfl, .inl ⟨rfl, _, SqL.of hp2⟩, _, rfl, _, rfl, _, rfl, (by show 3 ≤ sizeLine; decide), fun t nt => ?_⟩
          have u6 := same_new (o := .tup [V.int x, .int (turnsS (r.take i) ds s bl).2, .int (min (dayOf ds x) bl)]) nt
          have hp6 := u6 _ _ hp2
          refine ⟨p, _, _, rfl, rfl, hp6, sz_lt (by omega), ?_⟩
          refine ⟨_, rfl, ?_⟩
          refine ⟨xs ++ [V.ref t], some (.int x), some (.int (min (dayOf ds x) bl)), ?_, same_mut (s2.trans u6) hp, upd_same, ?_⟩
          · rw [st2]
            rfl
          · rw [st2]
            exact TiesAt.updL hp6 ((ht.mono u6).app ⟨⟨t, rfl, upd_same⟩, trivial⟩)
        · refine iteDF c ?_
          rw [show turnsS (r.take (i + 1)) ds s bl = turnsS (r.take i) ds s bl by rw [st]; exact if_neg c]
          exact ⟨xs, _, _, rfl, s2, hp2, ht⟩
      · rintro σ H2 ⟨xs, v7, v8, rfl, s2, hp2, ht⟩
        rw [List.length_map, List.take_length] at ht
        exact ⟨xs, rfl, s2, hp2, ht⟩
    · rintro σ H2 ⟨xs, g, s2, hp2, ht⟩
      exact ⟨_, g, k p xs H2 s2 hp hp2 ht⟩

theorem sc_ldead : FnScope N_ldead ["_law_row_here", "_law_days_here", "_law_begin", "_law_stop"] (defScope s_ldead) := ⟨rfl, rfl, rfl, by decide +kernel, rfl, by decide +kernel, by decide +kernel⟩
def sp_ldead (K : PySem.W.Frag) : Sp := fun vs H Q _ => ∃ (a b : Addr) (r ds : List Int) (s : Int) (o : Option Int), vs = [.ref a, .ref b, .int s, optV o] ∧ SqL K H a (r.map V.int) ∧ r.length ≤ 1000 ∧ SqL K H b (ds.map V.int) ∧ (∀ x ∈ r, 0 ≤ x ∧ x < ds.length) ∧
  ∀ (p : Addr) (H' : Hp), Same H H' → H p = none → H' p = some (.lst ((deadOf r ds s (belowOf o)).map V.int)) → Q (.ref p) H'
theorem ok_ldead {f : Addr} {fd : FuncData} (F : FnP K "_law_dead" s_ldead f fd) (T : Txt K mg) (C_lturns : Own P w K mg base "_law_turns" ["_law_row_here", "_law_days_here", "_law_begin", "_law_stop"] 1 (sp_lturns K)) : FnOk P w K mg base CX0 2 f fd ["_law_row_here", "_law_days_here", "_law_begin", "_law_stop"] (sp_ldead K) := by
  refine F.ok sc_ldead (fun vs H Q E h => ?_) (fun cdv A outer s H vs Q E hr h => ?_)
  · obtain ⟨a, b, r, ds, s, o, rfl, _⟩ := h
    rfl
  · obtain ⟨a, b, r, ds, s, o, rfl, hR, hrl, hD, hx, k⟩ := h
    refine ⟨_, PSs.nox (pss_one (ps_ret (by exact (pe_lc (own := [("_law_life", 4), ("_law_first", 5), ("_law_last", 6)]) rfl sc_ldead.nd (pilK K (pe_own C_lturns (hr.mono (by omega)) (pa_cons (pv 0) (pa_cons (pv 1) (pa_cons (pv 2) (pa_cons (pv 3) pa_nil)))))) (blkOk_by (own := [("_law_life", 4), ("_law_first", 5), ("_law_last", 6)]) (N := N_ldead) (sc := defScope s_ldead) (by decide +kernel)) (fun _ _ _ _ _ => by exact (pgtK (n := 3) K rfl (pgs_cons (pg_name (i := 4) sc_ldead.nd rfl (Or.inl rfl)) (pgs_cons (pg_name (i := 5) sc_ldead.nd rfl (Or.inl rfl)) (pgs_cons (pg_name (i := 6) sc_ldead.nd rfl (Or.inl rfl)) pgs_nil))))) (fun _ _ _ _ _ => by exact (pts_one (pt_cmpR op_eq (pe_ix (ixl K) (pv 1) (pv 4) (fun _ _ => rfl)) (pv 6) (nomark _)))) (fun _ _ _ _ _ => by exact (pv 4)))))), ?_⟩
    refine ⟨_, rfl, _, rfl, _, rfl, _, rfl, a, b, r, ds, s, o, rfl, hR, hrl, hD, hx, fun p xs H1 s1 np hp hT => ?_⟩
    have ln := turnsS_len ds s (belowOf o) r
    have ln : (turnsOf r ds s (belowOf o)).length ≤ r.length := ln
    refine ⟨p, rfl, ⟨_, SqL.of hp⟩, fun D nD => ?_⟩
    refine lc_opt (K := K) (a := p) (D := D) TieAt (fun _ v i => v = V.int i) (deadF ds) (fun e ⟨q, h1, h2⟩ => ⟨q, h1, e _ _ h2⟩) (fun _ h => h) (fun _ h => h) nD (SqL.of hp) (ties_all hT) (by omega) ?_ ?_
    · rintro j v u H4 C C2 hu s4 ⟨q2, rfl, hq2⟩ k1 k2
      have bu := hx u.1 (turn_in (List.mem_of_getElem? hu))
      refine ⟨q2, _, rfl, SqT.of hq2, rfl, _, _, rfl, _, _, rfl, _, _, rfl, rfl, rfl, ?_⟩
      refine ⟨_, rfl, _, rfl, b, _, _, _, rfl, rfl, (s1.trans s4).seq hD, at_ints (by omega) (by omega), _, rfl, rfl, _, rfl, ?_⟩
      by_cases cx : dayOf ds u.1 = u.2.2
      · refine iteD (by rw [cx]) ⟨_, rfl, k1 _ u.1 H4 (if_pos cx) (Same.refl H4) rfl⟩
      · exact iteDF (by intro z; injection z with z; exact cx z) (k2 (if_neg cx) H4 (Same.refl H4))
    · intro H4 zs s4 hD4 hz
      rw [deadF_is] at hz
      rw [AllAt.to_ints hz] at hD4
      exact k D H4 (s1.trans s4) (s1.free nD) hD4

theorem sc_lsame : FnScope N_lsame ["_law_told", "_law_due"] (defScope s_lsame) := ⟨rfl, rfl, rfl, by decide +kernel, rfl, by decide +kernel, by decide +kernel⟩
def sp_lsame (K : PySem.W.Frag) : Nat → Sp
  | 0 => fun _ _ _ _ => False
  | n + 1 => fun vs H Q _ => ∃ (x y : V) (d : PyData), vs = [x, y] ∧ d.depth ≤ n ∧ SeqAt.shaped d = true ∧ sizeD d ≤ 10000 ∧ Dp K H x d ∧ Dp K H y d ∧ ∀ H', Same H H' → Q (.bl true) H'
theorem ok_lsame0 {f : Addr} {fd : FuncData} (F : FnP K "_law_same" s_lsame f fd) : FnOk P w K mg base CX0 1 f fd ["_law_told", "_law_due"] (sp_lsame K 0) :=
  F.ok (k := 0) sc_lsame (fun _ _ _ _ h => h.elim) (fun _ _ _ _ _ _ _ _ _ h => h.elim)
/-- the comprehension's end, over lists and over tuples -/
theorem lsame_all {n : Nat} {K : PySem.W.Frag} {H : Hp} {D : Addr} {Q : VK} (hq : ∀ H', Same H H' → Q (.bl true) H') {H' : Hp} (s1 : Same H H') (h : H' D = some (.lst (List.replicate n (V.bl true)))) : rAll K [.ref D] H' Q := by
  refine ⟨D, List.replicate n true, rfl, SqL.of (by rw [h, List.map_replicate]), ?_⟩
  have e : (List.replicate n true).all id = true := by simp
  rw [e]
  exact hq H' s1
theorem ok_lsame {f : Addr} {fd : FuncData} (F : FnP K "_law_same" s_lsame f fd) (T : Txt K mg) (n : Nat) (C_lsame : Own P w K mg base "_law_same" ["_law_told", "_law_due"] (n + 1) (sp_lsame K n)) : FnOk P w K mg base CX0 (n + 2) f fd ["_law_told", "_law_due"] (sp_lsame K (n + 1)) := by
  refine F.ok sc_lsame (fun vs H Q E h => ?_) (fun cdv A outer s H vs Q E hr h => ?_)
  · obtain ⟨x, y, d, rfl, _⟩ := h
    rfl
  · obtain ⟨x, y, d, rfl, hdep, hsh, hsz, hx, hy, k⟩ := h
    refine ⟨_, PSs.nox (C8.pss_cut (ps_if (pt_cmpR op_isN (pv 1) pe_non (nomark _)) (pss_one (ps_ret (pe_cmpR op_isN (pv 0) pe_non (nomark _)))) pss_nil)
          (C8.pss_cut (ps_if (PW.pt (pw_or (pt_val (pe_callB (isiK K) (by rfl) T.n_isinstance (by decide +kernel) (pa_cons (pv 1) (pa_cons (pe_bltn (v := .ty "list") (by rfl) T.n_list (by decide +kernel) rfl) pa_nil)))) (pw_or1 (pt_val (pe_callB (isiK K) (by rfl) T.n_isinstance (by decide +kernel) (pa_cons (pv 1) (pa_cons (pe_bltn (v := .ty "tuple") (by rfl) T.n_tuple (by decide +kernel) rfl) pa_nil))))))) (C8.pss_cut (ps_if (PW.pt (pw_or (pt_cmpR op_ne (pe_callB (isiK K) (by rfl) T.n_isinstance (by decide +kernel) (pa_cons (pv 0) (pa_cons (pe_bltn (v := .ty "list") (by rfl) T.n_list (by decide +kernel) rfl) pa_nil))) (pe_callB (isiK K) (by rfl) T.n_isinstance (by decide +kernel) (pa_cons (pv 1) (pa_cons (pe_bltn (v := .ty "list") (by rfl) T.n_list (by decide +kernel) rfl) pa_nil))) (nomark _)) (pw_or1 (pt_cmpR op_ne (pe_callB (isiK K) (by rfl) T.n_isinstance (by decide +kernel) (pa_cons (pv 0) (pa_cons (pe_bltn (v := .ty "tuple") (by rfl) T.n_tuple (by decide +kernel) rfl) pa_nil))) (pe_callB (isiK K) (by rfl) T.n_isinstance (by decide +kernel) (pa_cons (pv 1) (pa_cons (pe_bltn (v := .ty "tuple") (by rfl) T.n_tuple (by decide +kernel) rfl) pa_nil))) (nomark _))))) (pss_one (ps_ret pe_bl)) pss_nil)
            (pss_one (ps_ret (pe_and (pe_cmpR op_eq (pe_callB (lenK K) (by rfl) T.n_len (by decide +kernel) (pa_cons (pv 0) pa_nil)) (pe_callB (lenK K) (by rfl) T.n_len (by decide +kernel) (pa_cons (pv 1) pa_nil)) (nomark _)) (pe_one (pe_callB (allK K rfl) (by rfl) T.n_all (by decide +kernel) (pa_cons (by exact (pe_lc (own := [("_law_one", 2), ("_law_other", 3)]) rfl sc_lsame.nd (RZ.pi_zipA (by rfl) T.n_zip (pa_cons (pv 0) (pa_cons (pv 1) pa_nil))) (blkOk_by (own := [("_law_one", 2), ("_law_other", 3)]) (N := N_lsame) (sc := defScope s_lsame) (by decide +kernel)) (fun _ _ _ _ _ => by exact (pgtK (n := 2) K rfl (pgs_cons (pg_name (i := 2) sc_lsame.nd rfl (Or.inl rfl)) (pgs_cons (pg_name (i := 3) sc_lsame.nd rfl (Or.inl rfl)) pgs_nil)))) (fun _ _ _ _ _ => by exact pts_nil) (fun _ _ _ _ _ => by exact (pe_own C_lsame (hr.mono (by omega)) (pa_cons (pv 2) (pa_cons (pv 3) pa_nil)))))) pa_nil))))))) pss_nil)
          (C8.pss_cut (ps_if (PW.pt (pw_or (pt_cmpR op_ne (pe_callB (isiK K) (by rfl) T.n_isinstance (by decide +kernel) (pa_cons (pv 0) (pa_cons (pe_bltn (v := .ty "bool") (by rfl) T.n_bool (by decide +kernel) rfl) pa_nil))) (pe_callB (isiK K) (by rfl) T.n_isinstance (by decide +kernel) (pa_cons (pv 1) (pa_cons (pe_bltn (v := .ty "bool") (by rfl) T.n_bool (by decide +kernel) rfl) pa_nil))) (nomark _)) (pw_or1 (pt_cmpR op_ne (pe_callB (isiK K) (by rfl) T.n_isinstance (by decide +kernel) (pa_cons (pv 0) (pa_cons (pe_bltn (v := .ty "int") (by rfl) T.n_int (by decide +kernel) rfl) pa_nil))) (pe_callB (isiK K) (by rfl) T.n_isinstance (by decide +kernel) (pa_cons (pv 1) (pa_cons (pe_bltn (v := .ty "int") (by rfl) T.n_int (by decide +kernel) rfl) pa_nil))) (nomark _))))) (pss_one (ps_ret pe_bl)) pss_nil)
          (pss_one (ps_ret (pe_and (pe_cmpR op_eq (pe_callB (isiK K) (by rfl) T.n_isinstance (by decide +kernel) (pa_cons (pv 0) (pa_cons (pe_bltn (v := .ty "str") (by rfl) T.n_str (by decide +kernel) rfl) pa_nil))) (pe_callB (isiK K) (by rfl) T.n_isinstance (by decide +kernel) (pa_cons (pv 1) (pa_cons (pe_bltn (v := .ty "str") (by rfl) T.n_str (by decide +kernel) rfl) pa_nil))) (nomark _)) (pe_one (pe_cmpR (eqDK K hr.units) (pv 0) (pv 1) (nomark _))))))))), ?_⟩
    have cl0 := SeqAt.canLay_of_shaped hsh
    have dp0 := SeqAt.depth_of_shaped hsh
    refine ⟨fun σ H' => σ = [some x, some y, none, none] ∧ H' = H ∧ d ≠ .none, ?_, ?_⟩
    · refine ⟨_, rfl, rfl, _, rfl, ?_⟩
      refine ite2 (fun c1 => ?_) (fun c1 => ⟨rfl, rfl, fun e => ?_⟩)
      · have e1 : y = .non := of_decide_eq_true c1
        subst e1
        cases hy
        cases hx
        exact ⟨_, rfl, rfl, k H (Same.refl H)⟩
      · subst e
        cases hy
        exact c1 (decide_eq_true rfl)
    rintro σ H' ⟨rfl, rfl, hnn⟩
    refine ⟨fun σ H2 => σ = [some x, some y, none, none] ∧ H2 = H' ∧ isI d "list" = false ∧ isI d "tuple" = false, ?_, ?_⟩
    · refine ⟨_, rfl, _, _, _, _, _, rfl, .ty _, tyX_of hy, kit_is _ (by simp), _, rfl, ?_⟩
      cases d with
      | none => exact absurd rfl hnn
      | bool b0 =>
        refine iteBF (isI_list _) ?_
        refine ⟨_, rfl, _, _, _, _, _, rfl, .ty _, tyX_of hy, kit_is _ (by simp), _, rfl, ?_⟩
        refine iteBF (isI_tuple _) ?_
        exact ⟨rfl, rfl, isI_list _, isI_tuple _⟩
      | int i0 =>
        refine iteBF (isI_list _) ?_
        refine ⟨_, rfl, _, _, _, _, _, rfl, .ty _, tyX_of hy, kit_is _ (by simp), _, rfl, ?_⟩
        refine iteBF (isI_tuple _) ?_
        exact ⟨rfl, rfl, isI_list _, isI_tuple _⟩
      | str x0 =>
        refine iteBF (isI_list _) ?_
        refine ⟨_, rfl, _, _, _, _, _, rfl, .ty _, tyX_of hy, kit_is _ (by simp), _, rfl, ?_⟩
        refine iteBF (isI_tuple _) ?_
        exact ⟨rfl, rfl, isI_list _, isI_tuple _⟩
      | dict d0 =>
        refine iteBF (isI_list _) ?_
        refine ⟨_, rfl, _, _, _, _, _, rfl, .ty _, tyX_of hy, kit_is _ (by simp), _, rfl, ?_⟩
        refine iteBF (isI_tuple _) ?_
        exact ⟨rfl, rfl, isI_list _, isI_tuple _⟩
      | list ds =>
        refine iteB (isI_list _) ?_
        refine ⟨fun σ H2 => σ = [some x, some y, none, none] ∧ H2 = H', ?_, ?_⟩
        · refine ⟨_, rfl, _, _, _, _, _, rfl, .ty _, tyX_of hx, kit_is _ (by simp), _, rfl, _, _, _, _, _, rfl, .ty _, tyX_of hy, kit_is _ (by simp), rfl, _, rfl, ?_⟩
          refine iteNS rfl ?_
          refine ⟨_, rfl, _, _, _, _, _, rfl, .ty _, tyX_of hx, kit_is _ (by simp), _, rfl, _, _, _, _, _, rfl, .ty _, tyX_of hy, kit_is _ (by simp), rfl, _, rfl, ?_⟩
          refine iteNS rfl ?_
          exact ⟨rfl, rfl⟩
        · rintro σ H2 ⟨rfl, rfl⟩
          cases hx with
          | @lst a xs _ hxs hxd =>
            cases hy with
            | @lst b ys _ hys hyd =>
              have l1 := dpAll_len hxd
              have l2 := dpAll_len hyd
              obtain ⟨m, rfl⟩ : ∃ m, n = m + 1 := ⟨n - 1, by simp only [PyData.depth] at hdep; omega⟩
              refine ⟨_, rfl, _, _, rfl, .inl hxs, _, rfl, _, _, rfl, .inl hys, rfl, _, rfl, ?_⟩
              refine iteD (by rw [l1, l2]) ?_
              refine ⟨_, rfl, _, rfl, a, b, xs, ys, rfl, .inl ⟨hxs, hys, fun D hD => ?_⟩⟩
              refine lc_it (walk_zip (K := K) (a := a) (b := b) (xs := xs) (ys := ys) (n := ds.length) (by rw [l1, l2, Nat.min_self])) (fun i H3 => Same H2 H3 ∧ H3 D = some (.lst (List.replicate i (V.bl true))))
                ⟨same_new hD, upd_same⟩ (fun i H3 _ ⟨s1, _⟩ => ⟨s1.seq hxs, s1.seq hys⟩) ?_ ?_
              · rintro i v H3 H4 hi ⟨s1, hq⟩ ⟨T1, u1, u2, rfl, hT, rfl, g1, g2⟩
                obtain ⟨e1, j1, k1⟩ := dpAll_get hxd g1
                obtain ⟨e2, j2, k2⟩ := dpAll_get hyd g2
                rw [j1] at j2
                cases j2
                have s2 : Same H2 (upd H3 T1 (.tup [u1, u2])) := s1.trans (same_new hT)
                refine ⟨T1, _, rfl, SqT.of upd_same, rfl, _, _, rfl, _, _, rfl, rfl, rfl, ?_⟩
                refine ⟨_, rfl, _, rfl, u1, u2, e1, rfl, ?_, ?_, ?_, dp_mono s2 _ _ k1, dp_mono s2 _ _ k2, fun H5 s3 => ?_⟩
                · have := depthAll_get j1
                  simp only [PyData.depth] at hdep
                  omega
                · have := depthAll_get j1
                  simp only [PyData.depth] at dp0
                  exact shaped_mk (canLayAll_get (by simpa [PyData.canLay0] using cl0) j1) (by omega)
                · have := sizeAll_get j1
                  simp only [sizeD] at hsz
                  omega
                · have hD3 : D ≠ T1 := ne_of_none hq hT
                  have hq5 : H5 D = some (.lst (List.replicate i (V.bl true))) := s3 _ _ (by rw [upd_ne hD3]; exact hq)
                  refine ⟨_, hq5, sz_lt (by rw [List.length_replicate]; have := hsz; simp only [sizeD] at this; omega), same_mut (s2.trans s3) hD, ?_⟩
                  rw [upd_same, List.replicate_succ']
              · rintro H3 ⟨s1, hq⟩
                exact lsame_all (n := ds.length) k s1 hq
      | tuple ds =>
        refine iteBF (isI_list _) ?_
        refine ⟨_, rfl, _, _, _, _, _, rfl, .ty _, tyX_of hy, kit_is _ (by simp), _, rfl, ?_⟩
        refine iteB (isI_tuple _) ?_
        refine ⟨fun σ H2 => σ = [some x, some y, none, none] ∧ H2 = H', ?_, ?_⟩
        · refine ⟨_, rfl, _, _, _, _, _, rfl, .ty _, tyX_of hx, kit_is _ (by simp), _, rfl, _, _, _, _, _, rfl, .ty _, tyX_of hy, kit_is _ (by simp), rfl, _, rfl, ?_⟩
          refine iteNS rfl ?_
          refine ⟨_, rfl, _, _, _, _, _, rfl, .ty _, tyX_of hx, kit_is _ (by simp), _, rfl, _, _, _, _, _, rfl, .ty _, tyX_of hy, kit_is _ (by simp), rfl, _, rfl, ?_⟩
          refine iteNS rfl ?_
          exact ⟨rfl, rfl⟩
        · rintro σ H2 ⟨rfl, rfl⟩
          cases hx with
          | @tup a xs _ hxs hxd =>
            cases hy with
            | @tup b ys _ hys hyd =>
              have l1 := dpAll_len hxd
              have l2 := dpAll_len hyd
              obtain ⟨m, rfl⟩ : ∃ m, n = m + 1 := ⟨n - 1, by simp only [PyData.depth] at hdep; omega⟩
              refine ⟨_, rfl, _, _, rfl, .inr hxs, _, rfl, _, _, rfl, .inr hys, rfl, _, rfl, ?_⟩
              refine iteD (by rw [l1, l2]) ?_
              refine ⟨_, rfl, _, rfl, a, b, xs, ys, rfl, .inr ⟨hxs, hys, fun D hD => ?_⟩⟩
              refine lc_it (walk_zipT (K := K) (a := a) (b := b) (xs := xs) (ys := ys) (n := ds.length) (by rw [l1, l2, Nat.min_self])) (fun i H3 => Same H2 H3 ∧ H3 D = some (.lst (List.replicate i (V.bl true))))
                ⟨same_new hD, upd_same⟩ (fun i H3 _ ⟨s1, _⟩ => ⟨same_t s1 hxs, same_t s1 hys⟩) ?_ ?_
              · rintro i v H3 H4 hi ⟨s1, hq⟩ ⟨T1, u1, u2, rfl, hT, rfl, g1, g2⟩
                obtain ⟨e1, j1, k1⟩ := dpAll_get hxd g1
                obtain ⟨e2, j2, k2⟩ := dpAll_get hyd g2
                rw [j1] at j2
                cases j2
                have s2 : Same H2 (upd H3 T1 (.tup [u1, u2])) := s1.trans (same_new hT)
                refine ⟨T1, _, rfl, SqT.of upd_same, rfl, _, _, rfl, _, _, rfl, rfl, rfl, ?_⟩
                refine ⟨_, rfl, _, rfl, u1, u2, e1, rfl, ?_, ?_, ?_, dp_mono s2 _ _ k1, dp_mono s2 _ _ k2, fun H5 s3 => ?_⟩
                · have := depthAll_get j1
                  simp only [PyData.depth] at hdep
                  omega
                · have := depthAll_get j1
                  simp only [PyData.depth] at dp0
                  exact shaped_mk (canLayAll_get (by simpa [PyData.canLay0] using cl0) j1) (by omega)
                · have := sizeAll_get j1
                  simp only [sizeD] at hsz
                  omega
                · have hD3 : D ≠ T1 := ne_of_none hq hT
                  have hq5 : H5 D = some (.lst (List.replicate i (V.bl true))) := s3 _ _ (by rw [upd_ne hD3]; exact hq)
                  refine ⟨_, hq5, sz_lt (by rw [List.length_replicate]; have := hsz; simp only [sizeD] at this; omega), same_mut (s2.trans s3) hD, ?_⟩
                  rw [upd_same, List.replicate_succ']
              · rintro H3 ⟨s1, hq⟩
                exact lsame_all (n := ds.length) k s1 hq
    · rintro σ H2 ⟨rfl, rfl, n1, n2⟩
      refine ⟨fun σ H3 => σ = [some x, some y, none, none] ∧ H3 = H2, ?_, ?_⟩
      · refine ⟨_, rfl, _, _, _, _, _, rfl, .ty _, tyX_of hx, kit_is _ (by simp), _, rfl, _, _, _, _, _, rfl, .ty _, tyX_of hy, kit_is _ (by simp), rfl, _, rfl, ?_⟩
        refine iteNS rfl ?_
        refine ⟨_, rfl, _, _, _, _, _, rfl, .ty _, tyX_of hx, kit_is _ (by simp), _, rfl, _, _, _, _, _, rfl, .ty _, tyX_of hy, kit_is _ (by simp), rfl, _, rfl, ?_⟩
        refine iteNS rfl ?_
        exact ⟨rfl, rfl⟩
      · rintro σ H3 ⟨rfl, rfl⟩
        refine ⟨_, rfl, _, _, _, _, _, rfl, .ty _, tyX_of hx, kit_is _ (by simp), _, rfl, _, _, _, _, _, rfl, .ty _, tyX_of hy, kit_is _ (by simp), rfl, _, rfl, ?_⟩
        refine iteD rfl ?_
        refine ⟨_, rfl, _, rfl, d, d, hx, hy, hsh, hsh, ?_⟩
        rw [eqv_self hsh]
        exact k _ (Same.refl _)

theorem sc_law : FnScope N_law ["_law_script"] (defScope s_law) := ⟨rfl, rfl, rfl, by decide +kernel, rfl, by decide +kernel, by decide +kernel⟩
def sp_law (K : PySem.W.Frag) (tb : Addr) : Sp := fun vs H Q _ => ∃ (a : Addr) (ns : List Int), vs = [.ref a] ∧ SqL K H a (ns.map V.int) ∧ ns.length ≤ 63 ∧ H tb = some (.tbl #[]) ∧ ∀ H', Q (.bl true) H'
theorem ok_law {f : Addr} {fd : FuncData} (F : FnP K "law" s_law f fd) (T : Txt K mg) {tc tb : Addr} (TB : LamX.TabB base mg tc tb) (ecl : fd.code = .ref tc) (C_in_holding : OwnD P w K mg base "in_holding" s_in_holding ["row", "days", "start", "end"] [V.int 0, V.non] 5 (sp_in_holding K)) (C_ldays : Own P w K mg base "_law_days" ["_law_script", "_law_k"] 4 (sp_ldays K)) (C_lrow : Own P w K mg base "_law_row" ["_law_script", "_law_k", "_law_many"] 4 (sp_lrow K)) (C_lrun : Own P w K mg base "_law_run" ["_law_script", "_law_k", "_law_days_here"] 4 (sp_lrun K)) (C_lholder : Own P w K mg base "_law_holder" ["_law_row_here", "_law_days_here", "_law_day"] 1 (sp_lholder K)) (C_ldead : Own P w K mg base "_law_dead" ["_law_row_here", "_law_days_here", "_law_begin", "_law_stop"] 2 (sp_ldead K)) (C_lsame : Own P w K mg base "_law_same" ["_law_told", "_law_due"] 3 (sp_lsame K 2)) : FnOk P w K mg base CX0 6 f fd ["_law_script"] (sp_law K tb) := by
  refine okC F sc_law (fun vs H Q E h => ?_) (fun cdv ecd A outer s H vs Q E hr h => ?_)
  · obtain ⟨a, ns, rfl, _⟩ := h
    rfl
  · obtain ⟨a, ns, rfl, hS, hlen, ht0, k⟩ := h
    refine ⟨_, PSs.nox (pss_cons (ps_set (i := 0) sc_law.nd rfl (Or.inl rfl) (pe_slice (slK K) (pv 0) po_none (po_some pe_int)))
          (C8.pss_cut (ps_for PassesOwn.never rfl (pi_range1 (by rfl) T.n_range (pa_cons pe_int pa_nil)) (pg_name (i := 1) sc_law.nd rfl (Or.inl rfl))
            (pss_cons (ps_set (i := 2) sc_law.nd rfl (Or.inr rfl) (pe_own C_ldays (hr.mono (by omega)) (pa_cons (pv 0) (pa_cons (pe_op op_mul pe_int (pv 1)) pa_nil))))
              (pss_cons (ps_set (i := 3) sc_law.nd rfl (Or.inl rfl) (pe_own C_lrow (hr.mono (by omega)) (pa_cons (pv 0) (pa_cons (pe_op op_add (pe_op op_mul pe_int (pv 1)) pe_int) (pa_cons (pe_callB (lenK K) (by rfl) T.n_len (by decide +kernel) (pa_cons (pv 2) pa_nil)) pa_nil)))))
              (pss_cons (ps_asg (pe_own C_lrun (hr.mono (by omega)) (pa_cons (pv 0) (pa_cons (pe_op op_add (pe_op op_mul pe_int (pv 1)) pe_int) (pa_cons (pv 2) pa_nil)))) (pgtK (n := 2) K rfl (pgs_cons (pg_name (i := 4) sc_law.nd rfl (Or.inl rfl)) (pgs_cons (pg_name (i := 5) sc_law.nd rfl (Or.inl rfl)) pgs_nil))))
              (C8.pss_cut (ps_set (i := 6) sc_law.nd rfl (Or.inl rfl) (pe_ifExp (pt_cmpR op_isN (pv 5) pe_non (nomark _)) pe_int (pv 5)))
              (pss_cons (ps_set (i := 7) sc_law.nd rfl (Or.inl rfl) (pe_lst pa_nil))
              (C8.pss_cut (ps_for PassesOwn.never rfl (pilK K (pe_sortlam (T := lamT tb) (k := 0) (i := 2) (pa_cons (pv 3) pa_nil) (by rfl) T.n_sorted TB (ecd.symm.trans ecl) (List.mem_singleton.mpr rfl) (fun p hp _ => by rw [List.mem_singleton.mp hp]; rfl) (hr.mono (by omega)) rfl rfl rfl rfl rfl (by decide +kernel) (by decide +kernel) rfl rfl rfl (fun _ _ _ _ _ _ => rfl))) (pg_name (i := 8) sc_law.nd rfl (Or.inl rfl))
                (pss_cons (ps_set (i := 9) sc_law.nd rfl (Or.inl rfl) (pe_op op_sub (pe_ix (ixl K) (pv 2) (pv 8) (fun _ _ => rfl)) pe_int))
                  (pss_one (ps_if (PW.pt (pw_and (pt_chain op_le op_lt (pv 4) (pv 9) (pv 6)) (pw_and1 (pt_cmpR op_eq (pe_own C_lholder (hr.mono (by omega)) (pa_cons (pv 3) (pa_cons (pv 2) (pa_cons (pv 9) pa_nil)))) (pv 8) (nomark _))))) (pss_one (ps_expr (pe_bm PySem.F.plainAttrs_list PySem.F.slot_list_append PySem.F.type_list_append mt_append (pv 7) (pa_cons (pv 8) pa_nil)))) pss_nil))))
              (pss_cons (ps_set (i := 10) sc_law.nd rfl (Or.inl rfl) (pe_lst (pa_cons (pe_callTy (lstK K) (by rfl) T.n_list (by decide +kernel) (pa_cons (pv 3) pa_nil)) (pa_cons (pe_callTy (lstK K) (by rfl) T.n_list (by decide +kernel) (pa_cons (pv 2) pa_nil)) pa_nil))))
              (C8.pss_cut (ps_for PassesOwn.never rfl (pi_range1 (by rfl) T.n_range (pa_cons pe_int pa_nil)) (pg_name (i := 11) sc_law.nd rfl (Or.inl rfl))
                (pss_cons (ps_set (i := 12) sc_law.nd rfl (Or.inl rfl) (pe_ownDN 4 [] (fun {_} us its ws => us ++ []) C_in_holding (hr.mono (by omega)) (fun r1 r2 r3 => r1.append .nil) (fun _ _ _ _ _ _ _ us its ws h1 h2 h3 => match us, its, ws, h1, h2, h3 with | [_, _, _, _], [_, _], [], _, _, _ => ⟨_, rfl, rfl⟩) (pa_cons (pe_ix (ixl K) (pv 10) pe_int (fun _ _ => rfl)) (pa_cons (pe_ix (ixl K) (pv 10) pe_int (fun _ _ => rfl)) (pa_cons (pv 4) (pa_cons (pv 5) pa_nil)))) pk_nil))
                  (C8.pss_cut (ps_if (PW.pt (pw_or (pt_not (pt_val (pe_own C_lsame (hr.mono (by omega)) (pa_cons (pv 12) (pa_cons (pv 7) pa_nil))))) (pw_or1 (pt_cmpR (neDK K hr.units) (pv 10) (pe_lst (pa_cons (pv 3) (pa_cons (pv 2) pa_nil))) (nomark _))))) (pss_one (ps_ret pe_bl)) pss_nil)
                  (pss_one (ps_expr (pe_bm PySem.F.plainAttrs_list PySem.F.slot_list_append PySem.F.type_list_append mt_append (pv 12) (pa_cons pe_int pa_nil)))))))
              (C8.pss_cut (ps_if (pt_not (pt_val (pe_own C_lsame (hr.mono (by omega)) (pa_cons (pe_ownDN 2 ["end", "start"] (fun {_} us its ws => us ++ ((ws.drop 1).take 1 ++ ((ws.drop 0).take 1 ++ []))) C_in_holding (hr.mono (by omega)) (fun r1 r2 r3 => r1.append (((r3.drop 1).take 1).append (((r3.drop 0).take 1).append .nil))) (fun _ _ _ _ _ _ _ us its ws h1 h2 h3 => match us, its, ws, h1, h2, h3 with | [_, _], [_, _], [_, _], _, _, _ => ⟨_, rfl, rfl⟩) (pa_cons (pv 3) (pa_cons (pv 2) pa_nil)) (pk_cons (pv 5) (pk_cons (pv 4) pk_nil))) (pa_cons (pv 7) pa_nil))))) (pss_one (ps_ret pe_bl)) pss_nil)
              (pss_one (ps_if (pt_not (pt_val (pe_own C_lsame (hr.mono (by omega)) (pa_cons (pe_ownDN 2 [] (fun {_} us its ws => us ++ ((its.drop 0).take 1 ++ ((its.drop 1).take 1 ++ []))) C_in_holding (hr.mono (by omega)) (fun r1 r2 r3 => r1.append (((r2.drop 0).take 1).append (((r2.drop 1).take 1).append .nil))) (fun _ _ _ _ _ _ _ us its ws h1 h2 h3 => match us, its, ws, h1, h2, h3 with | [_, _], [_, _], [], _, _, _ => ⟨_, rfl, rfl⟩) (pa_cons (pv 3) (pa_cons (pv 2) pa_nil)) pk_nil) (pa_cons (pe_own C_ldead (hr.mono (by omega)) (pa_cons (pv 3) (pa_cons (pv 2) (pa_cons pe_int (pa_cons pe_non pa_nil))))) pa_nil))))) (pss_one (ps_ret pe_bl)) pss_nil))))))))))))
          (pss_one (ps_ret pe_bl)))), ?_⟩
    obtain ⟨ns1, cut1, len1⟩ := cut_ints ns none (some 63)
    refine ⟨_, rfl, _, rfl, a, _, rfl, hS, fun b hb => ?_⟩
    rw [cut1]
    have t0 : LamX.Tabs (lamT tb) (upd H b (.lst (ns1.map V.int))) := fun p hp => by
      rw [List.mem_singleton.mp hp]
      exact LamX.TabS.nil (same_new hb _ _ ht0)
    refine ⟨fun _ _ => True, ?_, fun σ H1 _ => k _⟩
    refine ⟨5, rfl, by decide, by decide, for_range (lo := 0) (n := 5) (fun i σ H1 => ∃ v1 v2 v3 v4 v5 v6 v7 v8 v9 v10 v11 v12 : Option V, σ = [some (.ref b), v1, v2, v3, v4, v5, v6, v7, v8, v9, v10, v11, v12] ∧ H1 b = some (.lst (ns1.map V.int)) ∧ LamX.Tabs (lamT tb) H1)
      ⟨none, none, none, none, none, none, none, none, none, none, none, none, rfl, upd_same, t0⟩ ?_ (fun _ _ _ => trivial)⟩
    rintro i σ H1 hi ⟨v1, v2, v3, v4, v5, v6, v7, v8, v9, v10, v11, v12, rfl, hb1, t1⟩
    have hS1 : SqL K H1 b (ns1.map V.int) := SqL.of hb1
    refine ⟨_, rfl, _, rfl, _, _, rfl, rfl, mulL (by decide) (by decide), b, ns1, _, rfl, hS1, by omega, fun d ds H2 s2 nd hd dl1 dl10 dok => ?_⟩
    refine ⟨_, rfl, _, rfl, _, _, rfl, rfl, mulL (by decide) (by decide), _, _, rfl, rfl, _, rfl, _, _, rfl, .inl (SqL.of hd), b, ns1, _, _, rfl, s2.seq hS1, by omega, by rw [List.length_map]; exact dl1, by rw [List.length_map]; omega, fun w r H3 s3 nw hw rok => ?_⟩
    rw [List.length_map] at rok
    have hd3 := s3 _ _ hd
    have rl := rok.1.2.1
    refine ⟨_, rfl, _, rfl, _, _, rfl, rfl, mulL (by decide) (by decide), _, _, rfl, rfl, _, rfl, b, d, ns1, ds, _, rfl, (s2.trans s3).seq hS1, by omega, SqL.of hd3, dl1, dl10, dok, fun p4 s o H4 s4 np4 hp4 run => ?_⟩
    refine ⟨p4, _, rfl, SqT.of hp4, rfl, _, _, rfl, _, _, rfl, rfl, ?_⟩
    have hw4 := s4 _ _ hw
    have hd4 := s4 _ _ hd3
    have s14 := (s2.trans s3).trans s4
    have hb4 := s14 _ _ hb1
    have t4 := t1.ext s14
    refine ⟨fun σ H5 => σ = [some (.ref b), some (.int (0 + (i : Int))), some (.ref d), some (.ref w), some (.int s), some (optV o), some (.int (belowOf o)), v7, v8, v9, v10, v11, v12] ∧ H4 = H5, ?_, ?_⟩
    · refine ⟨_, rfl, rfl, _, rfl, ?_⟩
      cases o with
      | none => exact iteD rfl ⟨rfl, rfl⟩
      | some e => exact iteDF (by intro z; cases z) ⟨_, rfl, rfl, rfl⟩
    rintro σ H5 ⟨rfl, e5⟩
    subst e5
    -- due
    refine ⟨Nat.zero_le _, fun D hD => ?_⟩
    have u5 := same_new (o := .lst []) hD
    have nW : w ≠ D := fun z => by rw [z, hD] at hw4; cases hw4
    have nDy : d ≠ D := fun z => by rw [z, hD] at hd4; cases hd4
    have nB : b ≠ D := fun z => by rw [z, hD] at hb4; cases hb4
    refine ⟨fun σ H6 => (∃ v8 v9 : Option V, σ = [some (.ref b), some (.int (0 + (i : Int))), some (.ref d), some (.ref w), some (.int s), some (optV o), some (.int (belowOf o)), some (.ref D), v8, v9, v10, v11, v12]) ∧ H6 w = some (.lst (r.map V.int)) ∧ H6 d = some (.lst (ds.map V.int)) ∧ H6 b = some (.lst (ns1.map V.int)) ∧ H6 D = some (.lst ((deadOf r ds s (belowOf o)).map V.int)) ∧ LamX.Tabs (lamT tb) H6, ?_, ?_⟩
    · refine ⟨_, rfl, w, d, r, ds, rfl, SqL.of (u5 _ _ hw4), ⟨_, rfl, rfl⟩, SqL.of (u5 _ _ hd4), rok.2, t4.ext u5, fun p H6 eN t6 np => ?_⟩
      have hw6 := eN _ _ (u5 _ _ hw4) (fun ps z => by cases z)
      have hd6 := eN _ _ (u5 _ _ hd4) (fun ps z => by cases z)
      have hb6 := eN _ _ (u5 _ _ hb4) (fun ps z => by cases z)
      have hD6 := eN _ _ (show upd H4 D (.lst []) D = some _ from upd_same) (fun ps z => by cases z)
      have u6 := same_new (o := .lst ((sortD r ds).map V.int)) np
      have nP : p ≠ D := fun z => by rw [z, hD6] at np; cases np
      have hp6 : upd H6 p (.lst ((sortD r ds).map V.int)) p = some _ := upd_same
      have t7 := t6.ext u6
      replace hw6 := u6 _ _ hw6
      replace hd6 := u6 _ _ hd6
      replace hb6 := u6 _ _ hb6
      replace hD6 := u6 _ _ hD6
      generalize upd H6 p (.lst ((sortD r ds).map V.int)) = H7 at *
      have sl : (sortD r ds).length ≤ 4 := by
        unfold sortD
        rw [List.length_mergeSort]
        exact rl
      have dsrt := dead_sorted (r := r) (ds := ds) (s := s) (b := belowOf o) rok.1.2.2
      have smem : ∀ x ∈ sortD r ds, 0 ≤ x ∧ x < ds.length := fun x hx => rok.2 x (((List.mergeSort_perm _ _).mem_iff).mp hx)
      refine ⟨p, rfl, ⟨_, SqL.of hp6⟩, for_list (K := K) (a := p) (xs := (sortD r ds).map V.int) (fun i2 σ H => (∃ v8 v9 : Option V, σ = [some (.ref b), some (.int (0 + (i : Int))), some (.ref d), some (.ref w), some (.int s), some (optV o), some (.int (belowOf o)), some (.ref D), v8, v9, v10, v11, v12]) ∧
          SB D H7 H ∧ H D = some (.lst ((((sortD r ds).take i2).filter (diesP r ds s (belowOf o))).map V.int)) ∧ LamX.Tabs (lamT tb) H)
        ⟨⟨_, _, rfl⟩, fun c u n h => h, hD6, t7⟩ (fun i2 σ H _ z => SqL.of (z.2.1 _ _ nP hp6)) ?_ ?_⟩
      · rintro i2 y σ H8 hi2 ⟨⟨v8, v9, rfl⟩, sb, hD8, t8⟩
        obtain ⟨x, hx, rfl⟩ := get_ints hi2
        have bx := smem x (List.mem_of_getElem? hx)
        have hd8 := sb _ _ nDy hd6
        have hw8 := sb _ _ nW hw6
        have ff := filt_take (diesP r ds s (belowOf o)) hx
        have no : ∀ (H9 : Hp), Same H8 H9 → diesP r ds s (belowOf o) x = false → SB D H7 H9 ∧ H9 D = some (.lst ((((sortD r ds).take (i2 + 1)).filter (diesP r ds s (belowOf o))).map V.int)) ∧ LamX.Tabs (lamT tb) H9 := fun H9 s9 hf =>
          ⟨sb.same s9, by rw [ff, hf, if_neg Bool.false_ne_true, List.append_nil]; exact s9 _ _ hD8, t8.ext s9⟩
        have fl : (((sortD r ds).take i2).filter (diesP r ds s (belowOf o))).length ≤ 4 := by
          have := List.length_filter_le (diesP r ds s (belowOf o)) ((sortD r ds).take i2)
          rw [List.length_take] at this
          omega
        refine ⟨_, rfl, _, rfl, d, _, _, _, rfl, rfl, SqL.of hd8, at_ints (by omega) (by omega), _, _, rfl, rfl, ?_⟩
        refine ⟨_, rfl, _, rfl, _, _, rfl, rfl, _, rfl, ?_⟩
        by_cases c1 : s ≤ dayOf ds x - 1
        · refine iteD c1 ⟨_, rfl, _, _, rfl, rfl, _, rfl, ?_⟩
          by_cases c2 : dayOf ds x - 1 < belowOf o
          · refine iteD c2 ?_
            refine ⟨_, rfl, _, rfl, _, rfl, w, d, r, ds, _, rfl, SqL.of hw8, by omega, SqL.of hd8, rok.2, fun H9 s9 => ?_⟩
            refine ⟨_, rfl, rfl, _, rfl, ?_⟩
            by_cases c3 : holderOf r ds (dayOf ds x - 1) = x
            · refine iteD (by rw [c3]) ?_
              refine ⟨_, rfl, .inl ⟨rfl, _, SqL.of (s9 _ _ hD8)⟩, _, rfl, D, _, _, rfl, rfl, s9 _ _ hD8, sz_lt (by rw [List.length_map]; omega), ?_⟩
              refine ⟨⟨_, _, rfl⟩, (sb.same s9).upd, ?_, tabs_upd (t8.ext s9) (s9 _ _ hD8)⟩
              rw [upd_same, ff, if_pos (by unfold diesP; rw [decide_eq_true c1, decide_eq_true c2, decide_eq_true c3]; rfl), List.map_append]
              rfl
            · exact iteDF (by intro z; injection z with z; exact c3 z) ⟨⟨_, _, rfl⟩, no H9 s9 (by unfold diesP; rw [decide_eq_false c3, Bool.and_false])⟩
          · exact iteDF c2 (iteF ⟨⟨_, _, rfl⟩, no H8 (Same.refl _) (by unfold diesP; rw [decide_eq_false c2, Bool.and_false, Bool.false_and])⟩)
        · exact iteDF c1 ⟨_, rfl, iteF (iteF ⟨⟨_, _, rfl⟩, no H8 (Same.refl _) (by unfold diesP; rw [decide_eq_false c1, Bool.false_and, Bool.false_and])⟩)⟩
      · rintro σ H8 ⟨⟨v8, v9, rfl⟩, sb, hD8, t8⟩
        rw [List.length_map, List.take_length, dsrt] at hD8
        exact ⟨⟨_, _, rfl⟩, sb _ _ nW hw6, sb _ _ nDy hd6, sb _ _ nB hb6, hD8, t8⟩
    rintro σ H6 ⟨⟨v8, v9, rfl⟩, hw6, hd6, hb6, hD6, t6⟩
    have dlen : ∀ (s' b' : Int), (deadOf r ds s' b').length ≤ 4 := fun s' b' => by
      have z : (deadOf r ds s' b').Sublist r := (List.Sublist.map _ List.filter_sublist).trans (turns_all ds s' b' r).sub
      have := z.length_le
      omega
    clear u5 nW nDy nB hD hw4 hd4 hb4 t4 hw hd hd3 s14 s2 s3 s4 hS1
    refine ⟨_, rfl, _, _, rfl, .inl (SqL.of hw6), fun l1 hl1 => ?_⟩
    have u1 := same_new (o := .lst (r.map V.int)) hl1
    refine ⟨_, rfl, _, _, rfl, .inl (SqL.of (u1 _ _ hd6)), fun l2 hl2 => ?_⟩
    have u2 := same_new (o := .lst (ds.map V.int)) hl2
    refine ⟨(by show 2 ≤ sizeLine; decide), fun h4 hh4 => ?_⟩
    have u4 := same_new (o := .lst [V.ref l1, .ref l2]) hh4
    have hl1' := (u2.trans u4) _ _ (show upd H6 l1 (.lst (r.map V.int)) l1 = some _ from upd_same)
    have hl2' := u4 _ _ (show upd (upd H6 l1 (.lst (r.map V.int))) l2 (.lst (ds.map V.int)) l2 = some _ from upd_same)
    have hh4' : upd (upd (upd H6 l1 (.lst (r.map V.int))) l2 (.lst (ds.map V.int))) h4 (.lst [V.ref l1, .ref l2]) h4 = some _ := upd_same
    have u14 := (u1.trans u2).trans u4
    replace hw6 := u14 _ _ hw6
    replace hd6 := u14 _ _ hd6
    replace hb6 := u14 _ _ hb6
    replace hD6 := u14 _ _ hD6
    replace t6 := t6.ext u14
    clear u1 u2 u4 hl1 hl2 hh4 u14
    generalize upd (upd (upd H6 l1 (.lst (r.map V.int))) l2 (.lst (ds.map V.int))) h4 (.lst [V.ref l1, .ref l2]) = H5 at *
    have cnt : CountOk (ds.length : Int) := ⟨by omega, by omega⟩
    have run0 : RunOk 0 none := ⟨by decide, fun e z => by cases z⟩
    have sh2 : SeqAt.shaped (.list [intsD r, intsD ds]) = true := shaped2 (shaped_ints _) (shaped_ints _) (by have := depth_ints r; omega) (by have := depth_ints ds; omega)
    have szd : ∀ (s' b' : Int), sizeD (intsD (deadOf r ds s' b')) ≤ 10000 := fun s' b' => by
      rw [size_ints]
      have := dlen s' b'
      omega
    refine ⟨fun σ H6 => (∃ w11 w12 : Option V, σ = [some (.ref b), some (.int (0 + (i : Int))), some (.ref d), some (.ref w), some (.int s), some (optV o), some (.int (belowOf o)), some (.ref D), v8, v9, some (.ref h4), w11, w12]) ∧ Same H5 H6, ?_, ?_⟩
    · refine ⟨2, rfl, by decide, by decide, for_range (lo := 0) (n := 2) (fun j σ H6 => (∃ w11 w12 : Option V, σ = [some (.ref b), some (.int (0 + (i : Int))), some (.ref d), some (.ref w), some (.int s), some (optV o), some (.int (belowOf o)), some (.ref D), v8, v9, some (.ref h4), w11, w12]) ∧ Same H5 H6)
        ⟨⟨_, _, rfl⟩, Same.refl _⟩ ?_ (fun _ _ z => z)⟩
      rintro j σ H6 hj ⟨⟨w11, w12, rfl⟩, s6⟩
      refine ⟨_, rfl, h4, _, _, _, rfl, rfl, SqL.of (s6 _ _ hh4'), rfl, _, rfl, h4, _, _, _, rfl, rfl, SqL.of (s6 _ _ hh4'), rfl, _, rfl, _, rfl, rfl, rfl, ?_⟩
      refine ⟨l1, l2, r, ds, s, o, rfl, SqL.of (s6 _ _ hl1'), by omega, SqL.of (s6 _ _ hl2'), .yes cnt (.yes dok (.yes rok (.yes run fun q H7 s7 nq hq => ?_)))⟩
      have s67 := s6.trans s7
      refine ⟨fun σ H8 => σ = [some (.ref b), some (.int (0 + (i : Int))), some (.ref d), some (.ref w), some (.int s), some (optV o), some (.int (belowOf o)), some (.ref D), v8, v9, some (.ref h4), some (.int (0 + (j : Int))), some (.ref q)] ∧ Same H7 H8, ?_, ?_⟩
      · refine ⟨_, rfl, _, rfl, _, _, intsD (deadOf r ds s (belowOf o)), rfl, depth_ints _, shaped_ints _, szd _ _, dp_ints (SqL.of hq), dp_ints (SqL.of (s67 _ _ hD6)), fun H9 s9 => ?_⟩
        refine ⟨_, rfl, iteF ?_⟩
        have s59 := s67.trans s9
        refine ⟨_, rfl, _, rfl, _, rfl, (by show 2 ≤ sizeLine; decide), fun e6 he6 => ?_⟩
        have u6 := same_new (o := .lst [V.ref w, .ref d]) he6
        have s5a := s59.trans u6
        refine ⟨.list [intsD r, intsD ds], .list [intsD r, intsD ds], dp_pair (s5a _ _ hh4') (dp_ints (SqL.of (s5a _ _ hl1'))) (dp_ints (SqL.of (s5a _ _ hl2'))), dp_pair upd_same (dp_ints (SqL.of (s5a _ _ hw6))) (dp_ints (SqL.of (s5a _ _ hd6))), sh2, sh2, _, rfl, ?_⟩
        rw [eqv_self sh2]
        exact iteF ⟨rfl, s9.trans u6⟩
      · rintro σ H8 ⟨rfl, s8⟩
        have dl := dlen s (belowOf o)
        refine ⟨_, rfl, .inl ⟨rfl, _, SqL.of (s8 _ _ hq)⟩, q, _, _, rfl, rfl, s8 _ _ hq, sz_lt (by rw [List.length_map]; omega), ⟨_, _, rfl⟩, same_mut (s67.trans s8) (s6.free nq)⟩
    rintro σ H6 ⟨⟨w11, w12, rfl⟩, s6⟩
    -- by name
    refine ⟨fun σ H8 => σ = [some (.ref b), some (.int (0 + (i : Int))), some (.ref d), some (.ref w), some (.int s), some (optV o), some (.int (belowOf o)), some (.ref D), v8, v9, some (.ref h4), w11, w12] ∧ Same H5 H8, ?_, ?_⟩
    · refine ⟨_, rfl, _, rfl, _, rfl, _, rfl, rfl, rfl, ?_⟩
      refine ⟨w, d, r, ds, s, o, rfl, SqL.of (s6 _ _ hw6), by omega, SqL.of (s6 _ _ hd6), .yes cnt (.yes dok (.yes rok (.yes run fun q H7 s7 nq hq => ?_)))⟩
      have s67 := s6.trans s7
      refine ⟨_, rfl, _, _, intsD (deadOf r ds s (belowOf o)), rfl, depth_ints _, shaped_ints _, szd _ _, dp_ints (SqL.of hq), dp_ints (SqL.of (s67 _ _ hD6)), fun H9 s9 => ?_⟩
      exact ⟨_, rfl, iteF ⟨rfl, s67.trans s9⟩⟩
    rintro σ H7 ⟨rfl, s7⟩
    clear s6
    -- start and end left out
    refine ⟨_, rfl, _, rfl, rfl, rfl, ?_⟩
    refine ⟨w, d, r, ds, 0, none, rfl, SqL.of (s7 _ _ hw6), by omega, SqL.of (s7 _ _ hd6), .yes cnt (.yes dok (.yes rok (.yes run0 fun q H8 s8 nq hq => ?_)))⟩
    have s78 := s7.trans s8
    refine ⟨_, rfl, _, rfl, w, d, r, ds, 0, none, rfl, SqL.of (s78 _ _ hw6), by omega, SqL.of (s78 _ _ hd6), rok.2, fun p8 H9 s9 np8 hp8 => ?_⟩
    refine ⟨_, _, intsD (deadOf r ds 0 (belowOf none)), rfl, depth_ints _, shaped_ints _, szd _ _, dp_ints (SqL.of (s9 _ _ hq)), dp_ints (SqL.of hp8), fun H10 s10 => ?_⟩
    have sz := (s78.trans s9).trans s10
    exact ⟨_, rfl, iteF ⟨_, _, _, _, _, _, _, _, _, _, _, _, rfl, sz _ _ hb6, t6.ext sz⟩⟩

end
end K18

namespace K18
open PySem PySem.Spec PyProof.Rows L2 LH
theorem facts {P : Program} {w : World} {K : PySem.W.Frag} {h : Heap} {mg : Str → Option Value} {f : Addr} (X : K.In h) (G : h.Ns mainGlobals mg) (hfa : mg ("law" : Str) = some (.ref f)) (c : He.SaysD fa fn K) (cm : exF K = true) {tc tb : Addr} (tl : LH.lawTab K tc tb = true) :
    ∃ fd : FuncData, (∀ (s : Shared) (v : Value), BindsTo s fd ⟨[v], []⟩ [("_law_script", v)]) ∧ ∀ base : Heap, K.In base → base.Ns mainGlobals mg → LamX.TabB base mg tc tb → FnOk P w K mg base CX0 6 f fd ["_law_script"] (sp_law K tb) := by
  obtain ⟨fd_is_day, F_is_day⟩ := c.def_ 0 (d := d_is_day) rfl
  obtain ⟨fd_check_count, F_check_count⟩ := c.def_ 1 (d := d_check_count) rfl
  obtain ⟨fd_check_day, F_check_day⟩ := c.def_ 2 (d := d_check_day) rfl
  obtain ⟨fd_check_unlike, F_check_unlike⟩ := c.def_ 3 (d := d_check_unlike) rfl
  obtain ⟨fd_check_row, F_check_row⟩ := c.def_ 4 (d := d_check_row) rfl
  obtain ⟨fd_check_run, F_check_run⟩ := c.def_ 5 (d := d_check_run) rfl
  obtain ⟨fd_check_way, F_check_way⟩ := c.def_ 6 (d := d_check_way) rfl
  obtain ⟨fd_turns, F_turns⟩ := c.def_ 7 (d := d_turns) rfl
  obtain ⟨fd_in_holding, F_in_holding⟩ := c.def_ 8 (d := d_in_holding) rfl
  obtain ⟨fd_lmix, F_lmix⟩ := c.def_ 9 (d := d_lmix) rfl
  obtain ⟨fd_lraw, F_lraw⟩ := c.def_ 10 (d := d_lraw) rfl
  obtain ⟨fd_ldigits, F_ldigits⟩ := c.def_ 11 (d := d_ldigits) rfl
  obtain ⟨fd_ldays, F_ldays⟩ := c.def_ 12 (d := d_ldays) rfl
  obtain ⟨fd_lrow, F_lrow⟩ := c.def_ 13 (d := d_lrow) rfl
  obtain ⟨fd_lrun, F_lrun⟩ := c.def_ 14 (d := d_lrun) rfl
  obtain ⟨fd_lholder, F_lholder⟩ := c.def_ 15 (d := d_lholder) rfl
  obtain ⟨fd_lturns, F_lturns⟩ := c.def_ 16 (d := d_lturns) rfl
  obtain ⟨fd_ldead, F_ldead⟩ := c.def_ 17 (d := d_ldead) rfl
  obtain ⟨fd_lsame, F_lsame⟩ := c.def_ 18 (d := d_lsame) rfl
  obtain ⟨fd_law, F_law⟩ := c.def_ 19 (d := d_law) rfl
  obtain ⟨fd_Span___init__, F_Span___init__⟩ := c.def_ 20 (d := d_Span___init__) rfl
  have T : Txt K mg := ⟨He.free_ok X G (c.fact 21 (f := .free "all") rfl), He.free_ok X G (c.fact 22 (f := .free "bool") rfl), He.free_ok X G (c.fact 23 (f := .free "int") rfl), He.free_ok X G (c.fact 24 (f := .free "isinstance") rfl), He.free_ok X G (c.fact 25 (f := .free "len") rfl), He.free_ok X G (c.fact 26 (f := .free "list") rfl), He.free_ok X G (c.fact 27 (f := .free "max") rfl), He.free_ok X G (c.fact 28 (f := .free "min") rfl), He.free_ok X G (c.fact 29 (f := .free "range") rfl), He.free_ok X G (c.fact 30 (f := .free "set") rfl), He.free_ok X G (c.fact 31 (f := .free "sorted") rfl), He.free_ok X G (c.fact 32 (f := .free "str") rfl), He.free_ok X G (c.fact 33 (f := .free "tuple") rfl), He.free_ok X G (c.fact 34 (f := .free "zip") rfl), He.int_ok X G (c.fact 35 (f := .int "LAST_DAY" (9999)) rfl), He.int_ok X G (c.fact 36 (f := .int "MOST_IN_ROW" (4)) rfl), He.int_ok X G (c.fact 37 (f := .int "MOST_LIVES" (10)) rfl), He.glo_ok X G (c.fact 38 (f := .glo "BadCount") rfl), He.glo_ok X G (c.fact 39 (f := .glo "BadDay") rfl), He.glo_ok X G (c.fact 40 (f := .glo "BadRow") rfl), He.glo_ok X G (c.fact 41 (f := .glo "Span") rfl), errWB_ok (List.all_eq_true.mp cm (errWB K "BadCount" false) (by simp)), errWB_ok (List.all_eq_true.mp cm (errWB K "BadDay" false) (by simp)), errWB_ok (List.all_eq_true.mp cm (errWB K "BadRow" false) (by simp)), spanB_ok (List.all_eq_true.mp cm (spanB K) (by simp))⟩
  have e := hfa.symm.trans (He.glo_ok X G (c.fact 19 (f := .glo "law") rfl))
  cases e
  have b := FunD.bindsA (ps := ["_law_script"]) F_law fun _ _ _ _ _ _ us hl => match us, hl with | [_], _ => rfl
  refine ⟨fd_law, fun s v => b s [v] rfl, fun base _ _ TB => ?_⟩
  have B_is_day : Binds K fd_is_day ["number"] [] := F_is_day.bindsN fun _ _ _ _ _ _ us hl => match us, hl with | [_], _ => rfl
  have g_is_day := He.glo_ok X G (c.fact 0 (f := .glo "is_day") rfl)
  have C_is_day : Own P w K mg base "is_day" ["number"] 1 (sp_is_day) := ⟨_, fd_is_day, ok_is_day F_is_day T , g_is_day, F_is_day.kp, B_is_day⟩
  have B_check_count : Binds K fd_check_count ["many"] [] := F_check_count.bindsN fun _ _ _ _ _ _ us hl => match us, hl with | [_], _ => rfl
  have g_check_count := He.glo_ok X G (c.fact 1 (f := .glo "check_count") rfl)
  have C_check_count : OwnX P w K mg base "check_count" ["many"] 1 (sp_check_count K) := ⟨_, fd_check_count, ok_check_count F_check_count T , g_check_count, F_check_count.kp, B_check_count⟩
  have B_check_day : Binds K fd_check_day ["day"] [] := F_check_day.bindsN fun _ _ _ _ _ _ us hl => match us, hl with | [_], _ => rfl
  have g_check_day := He.glo_ok X G (c.fact 2 (f := .glo "check_day") rfl)
  have C_check_day : OwnX P w K mg base "check_day" ["day"] 2 (sp_check_day K) := ⟨_, fd_check_day, ok_check_day F_check_day T C_is_day, g_check_day, F_check_day.kp, B_check_day⟩
  have B_check_unlike : Binds K fd_check_unlike ["row"] [] := F_check_unlike.bindsN fun _ _ _ _ _ _ us hl => match us, hl with | [_], _ => rfl
  have g_check_unlike := He.glo_ok X G (c.fact 3 (f := .glo "check_unlike") rfl)
  have C_check_unlike : OwnX P w K mg base "check_unlike" ["row"] 1 (sp_check_unlike K) := ⟨_, fd_check_unlike, ok_check_unlike F_check_unlike T , g_check_unlike, F_check_unlike.kp, B_check_unlike⟩
  have B_check_row : Binds K fd_check_row ["many", "row"] [] := F_check_row.bindsN fun _ _ _ _ _ _ us hl => match us, hl with | [_, _], _ => rfl
  have g_check_row := He.glo_ok X G (c.fact 4 (f := .glo "check_row") rfl)
  have C_check_row : OwnX P w K mg base "check_row" ["many", "row"] 2 (sp_check_row K) := ⟨_, fd_check_row, ok_check_row F_check_row T C_check_unlike, g_check_row, F_check_row.kp, B_check_row⟩
  have B_check_run : Binds K fd_check_run ["start", "end"] [] := F_check_run.bindsN fun _ _ _ _ _ _ us hl => match us, hl with | [_, _], _ => rfl
  have g_check_run := He.glo_ok X G (c.fact 5 (f := .glo "check_run") rfl)
  have C_check_run : OwnX P w K mg base "check_run" ["start", "end"] 3 (sp_check_run K) := ⟨_, fd_check_run, ok_check_run F_check_run T C_check_day, g_check_run, F_check_run.kp, B_check_run⟩
  have B_check_way : Binds K fd_check_way ["days"] [] := F_check_way.bindsN fun _ _ _ _ _ _ us hl => match us, hl with | [_], _ => rfl
  have g_check_way := He.glo_ok X G (c.fact 6 (f := .glo "check_way") rfl)
  have C_check_way : OwnX P w K mg base "check_way" ["days"] 3 (sp_check_way K) := ⟨_, fd_check_way, ok_check_way F_check_way T C_check_count C_check_day, g_check_way, F_check_way.kp, B_check_way⟩
  have B_Span___init__ : Binds K fd_Span___init__ ["self", "first", "until"] [] := F_Span___init__.bindsN fun _ _ _ _ _ _ us hl => match us, hl with | [_, _, _], _ => rfl
  have C_Span___init__ : MakX P w K mg base "Span" ["self", "first", "until"] 1 (sp_Span___init__ K) := ⟨_, fd_Span___init__, He.mkr_ok (c.fact 20 (f := .mkr "Span") rfl), ok_Span___init__ F_Span___init__ T , He.glo_ok X G (c.fact 41 (f := .glo "Span") rfl), B_Span___init__⟩
  have g_turns := He.glo_ok X G (c.fact 7 (f := .glo "turns") rfl)
  have C_turns : OwnD P w K mg base "turns" s_turns ["row", "days", "start", "end"] [V.int 0, V.non] 4 (sp_turns K) := ⟨_, fd_turns, ok_turns F_turns T C_check_row C_check_run C_check_way C_Span___init__, g_turns, F_turns⟩
  have g_in_holding := He.glo_ok X G (c.fact 8 (f := .glo "in_holding") rfl)
  have C_in_holding : OwnD P w K mg base "in_holding" s_in_holding ["row", "days", "start", "end"] [V.int 0, V.non] 5 (sp_in_holding K) := ⟨_, fd_in_holding, ok_in_holding F_in_holding T C_turns, g_in_holding, F_in_holding⟩
  have B_lmix : Binds K fd_lmix ["_law_seed"] [] := F_lmix.bindsN fun _ _ _ _ _ _ us hl => match us, hl with | [_], _ => rfl
  have g_lmix := He.glo_ok X G (c.fact 9 (f := .glo "_law_mix") rfl)
  have C_lmix : Own P w K mg base "_law_mix" ["_law_seed"] 1 (sp_lmix) := ⟨_, fd_lmix, ok_lmix F_lmix T , g_lmix, F_lmix.kp, B_lmix⟩
  have B_lraw : Binds K fd_lraw ["_law_script", "_law_k"] [] := F_lraw.bindsN fun _ _ _ _ _ _ us hl => match us, hl with | [_, _], _ => rfl
  have g_lraw := He.glo_ok X G (c.fact 10 (f := .glo "_law_raw") rfl)
  have C_lraw : Own P w K mg base "_law_raw" ["_law_script", "_law_k"] 2 (sp_lraw K) := ⟨_, fd_lraw, ok_lraw F_lraw T C_lmix, g_lraw, F_lraw.kp, B_lraw⟩
  have B_ldigits : Binds K fd_ldigits ["_law_script", "_law_k", "_law_sizes"] [] := F_ldigits.bindsN fun _ _ _ _ _ _ us hl => match us, hl with | [_, _, _], _ => rfl
  have g_ldigits := He.glo_ok X G (c.fact 11 (f := .glo "_law_digits") rfl)
  have C_ldigits : Own P w K mg base "_law_digits" ["_law_script", "_law_k", "_law_sizes"] 3 (sp_ldigits K) := ⟨_, fd_ldigits, ok_ldigits F_ldigits T C_lraw, g_ldigits, F_ldigits.kp, B_ldigits⟩
  have B_ldays : Binds K fd_ldays ["_law_script", "_law_k"] [] := F_ldays.bindsN fun _ _ _ _ _ _ us hl => match us, hl with | [_, _], _ => rfl
  have g_ldays := He.glo_ok X G (c.fact 12 (f := .glo "_law_days") rfl)
  have C_ldays : Own P w K mg base "_law_days" ["_law_script", "_law_k"] 4 (sp_ldays K) := ⟨_, fd_ldays, ok_ldays F_ldays T C_ldigits, g_ldays, F_ldays.kp, B_ldays⟩
  have B_lrow : Binds K fd_lrow ["_law_script", "_law_k", "_law_many"] [] := F_lrow.bindsN fun _ _ _ _ _ _ us hl => match us, hl with | [_, _, _], _ => rfl
  have g_lrow := He.glo_ok X G (c.fact 13 (f := .glo "_law_row") rfl)
  have C_lrow : Own P w K mg base "_law_row" ["_law_script", "_law_k", "_law_many"] 4 (sp_lrow K) := ⟨_, fd_lrow, ok_lrow F_lrow T C_ldigits, g_lrow, F_lrow.kp, B_lrow⟩
  have B_lrun : Binds K fd_lrun ["_law_script", "_law_k", "_law_days_here"] [] := F_lrun.bindsN fun _ _ _ _ _ _ us hl => match us, hl with | [_, _, _], _ => rfl
  have g_lrun := He.glo_ok X G (c.fact 14 (f := .glo "_law_run") rfl)
  have C_lrun : Own P w K mg base "_law_run" ["_law_script", "_law_k", "_law_days_here"] 4 (sp_lrun K) := ⟨_, fd_lrun, ok_lrun F_lrun T C_ldigits, g_lrun, F_lrun.kp, B_lrun⟩
  have B_lholder : Binds K fd_lholder ["_law_row_here", "_law_days_here", "_law_day"] [] := F_lholder.bindsN fun _ _ _ _ _ _ us hl => match us, hl with | [_, _, _], _ => rfl
  have g_lholder := He.glo_ok X G (c.fact 15 (f := .glo "_law_holder") rfl)
  have C_lholder : Own P w K mg base "_law_holder" ["_law_row_here", "_law_days_here", "_law_day"] 1 (sp_lholder K) := ⟨_, fd_lholder, ok_lholder F_lholder T , g_lholder, F_lholder.kp, B_lholder⟩
  have B_lturns : Binds K fd_lturns ["_law_row_here", "_law_days_here", "_law_begin", "_law_stop"] [] := F_lturns.bindsN fun _ _ _ _ _ _ us hl => match us, hl with | [_, _, _, _], _ => rfl
  have g_lturns := He.glo_ok X G (c.fact 16 (f := .glo "_law_turns") rfl)
  have C_lturns : Own P w K mg base "_law_turns" ["_law_row_here", "_law_days_here", "_law_begin", "_law_stop"] 1 (sp_lturns K) := ⟨_, fd_lturns, ok_lturns F_lturns T , g_lturns, F_lturns.kp, B_lturns⟩
  have B_ldead : Binds K fd_ldead ["_law_row_here", "_law_days_here", "_law_begin", "_law_stop"] [] := F_ldead.bindsN fun _ _ _ _ _ _ us hl => match us, hl with | [_, _, _, _], _ => rfl
  have g_ldead := He.glo_ok X G (c.fact 17 (f := .glo "_law_dead") rfl)
  have C_ldead : Own P w K mg base "_law_dead" ["_law_row_here", "_law_days_here", "_law_begin", "_law_stop"] 2 (sp_ldead K) := ⟨_, fd_ldead, ok_ldead F_ldead T C_lturns, g_ldead, F_ldead.kp, B_ldead⟩
  have B_lsame : Binds K fd_lsame ["_law_told", "_law_due"] [] := F_lsame.bindsN fun _ _ _ _ _ _ us hl => match us, hl with | [_, _], _ => rfl
  have g_lsame := He.glo_ok X G (c.fact 18 (f := .glo "_law_same") rfl)
  have C0_lsame : Own P w K mg base "_law_same" ["_law_told", "_law_due"] 1 (sp_lsame K 0) := ⟨_, fd_lsame, ok_lsame0 F_lsame, g_lsame, F_lsame.kp, B_lsame⟩
  have C1_lsame : Own P w K mg base "_law_same" ["_law_told", "_law_due"] 2 (sp_lsame K 1) := ⟨_, fd_lsame, ok_lsame F_lsame T 0 C0_lsame, g_lsame, F_lsame.kp, B_lsame⟩
  have C_lsame : Own P w K mg base "_law_same" ["_law_told", "_law_due"] 3 (sp_lsame K 2) := ⟨_, fd_lsame, ok_lsame F_lsame T 1 C1_lsame, g_lsame, F_lsame.kp, B_lsame⟩
  exact ok_law F_law T TB (LH.law_code X G hfa F_law tl) C_in_holding C_ldays C_lrow C_lrun C_lholder C_ldead C_lsame
end K18
open PySem PySem.W PySem.Calls PyProof.Rows
set_option maxRecDepth 100000 in
set_option maxHeartbeats 0 in
theorem PySem.Challenge.cw_lifehold_k18_deaths_in_holding_holds : PySem.Challenge.rw_lifehold_k18_deaths_in_holding.Holds := by
  w_on; o_law
  refine HandSHeadRun.head_any (r := OpenLaw.row PySem.Challenge.rw_lifehold_k18_deaths_in_holding) (q := view (OpenLaw.row PySem.Challenge.rw_lifehold_k18_deaths_in_holding).prog [34]) (H := K18.hk) (ob := K18.ob) (M := 12000) (loose := K18.loose) (d := HandSHeadRun.topDef (OpenLaw.row PySem.Challenge.rw_lifehold_k18_deaths_in_holding).prog 34) (kwd := []) K18.ob_eq
    (by kernel_rfl) (fun s => by kernel_rfl) K18.run (by kernel_rfl) (by kernel_rfl) (by kernel_rfl) (by rfl) (by first | assumption | decide +kernel) (by decide +kernel) ⟨rfl, rfl, rfl, rfl, rfl, by decide +kernel⟩ ?hw ?hc
  case hw => w_witness2
  case hc =>
    refine LamX.walk_ofTsE (l := PySem.Challenge.rw_lifehold_k18_deaths_in_holding) (n := 63) (k := 6) (x := "_law_script") (CX := fun _ => L2.CX0) rfl (by decide) (by kernel_rfl) ⟨rfl, by decide, by decide⟩ ?F (fun _ _ _ _ _ z => z)
    intro w mg fa h Y G hmg0
    obtain ⟨K, tc, tb, KX, c, cm, tl, hT⟩ := Y
    have hmg : mg ("law" : PySem.Str) = some (.ref fa) := by
      have e : (HandSHeadRun.topDef (OpenLaw.row PySem.Challenge.rw_lifehold_k18_deaths_in_holding).prog 34).name = ("law" : PySem.Str) := by kernel_rfl
      rw [← e]
      exact hmg0
    obtain ⟨fd, hb, hF⟩ := K18.facts (P := (PySem.Challenge.rw_lifehold_k18_deaths_in_holding).prog) (w := w) KX G hmg c cm tl
    obtain ⟨_, t2, t3⟩ := LH.lawTab_ok tl
    exact ⟨K, KX, fd, [(tc, tb)], (K18.sp_law K tb), fun p hp => by rw [List.mem_singleton.mp hp]; exact hT, fun p hp => by rw [List.mem_singleton.mp hp]; exact t3, fun p hp => by rw [List.mem_singleton.mp hp]; exact PySem.W.codeHd_of_K KX t2, hb, fun H a ns hl _ hcs hS => ⟨a, ns, rfl, hS, hl, hcs _ (List.mem_singleton.mpr rfl), fun _ => rfl⟩, fun base k1 k2 tB => hF base k1 k2 (tB _ (List.mem_singleton.mpr rfl))⟩

#print axioms PySem.Challenge.cw_lifehold_k18_deaths_in_holding_holds
