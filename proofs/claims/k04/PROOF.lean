import PyProof.Rows.All
import Wide.All
import OpenK.AllK
import Wide.FinOn
import KE.KStateDown
import PyProof.EqAt
import PyProof.EqKinds
import PyProof.TupleCall
import HandS.ForMost
import HandS.Defaults
import HandS.Wide
import HandS.NoneIn
import HandS.IsInst
import HandS.Zip
import HandS.Codes
import HandS.Style
import HandS.Conv
import HandS.Deep
import HandS.Walk
import HandS.Head0
import HandS.Head1
import HandS.Head2
import HandS.HeadEnd
import HandS.HeadHook1
import HandS.HeadHook2
import KE.GoesNew
import HandS.HotCalls
import HandS.ExcIs
import HandS.Comp
import HandS.ExcCtx
import HandS.Text
import HandS.HeadHook3
import HandS.HeadHook4
import HandS.OwnEq
import KE.KxField
import HandS.FStr
import PyProof.StrBlock2
import HandS.TupAny
import HandS.NamedTupGet
import HandS.ExcInit
import HandS.ExcField
import KE.KSuper
import KE.KExcSuper
import HandS.ExcInitHot
import KE.KExcIs
import HandS.SortRule
import KE.DatumOrd
import HandS.DictSub
import KE.KCallOwn
import HandS.Small
import KE.IntTextLaws
import PySem.Challenge.RW_lifehold_k04_spans_written_and_read
set_option Elab.async false
set_option linter.all false
set_option maxRecDepth 100000
set_option maxHeartbeats 4000000
/-! own words over the hand layer -/
namespace LH
open PySem PySem.Spec PyProof.Rows L2
abbrev FnP (K : PySem.W.Frag) (x : Str) (st : Stmt) (f : Addr) (fd : FuncData) : Prop := FunD K x x (defArgs st) (defBody st) (defScope st) [] [] f fd
/-- a def of the text that lets nothing out, by its name -/
structure Own (P : Program) (w : World) (K : PySem.W.Frag) (mg : Str → Option Value) (base : Heap) (x : Str) (ps : List Str) (k : Nat) (sp : Sp) : Prop where
  ex : ∃ (f : Addr) (fd : FuncData), FnOk P w K mg base CX0 k f fd ps sp ∧ mg x = some (.ref f) ∧ PySem.W.keepIn K (.ref f) = true ∧ Binds K fd ps []
section
variable {X : Cx}
theorem pe_own {x : Str} {ps : List Str} {k : Nat} {sp : Sp} {e : Expr} {es : List Expr} {p pos : Pos} {t : TA} (C : Own X.prog X.w X.K X.mg X.base x ps k sp) (hr : Room k X.A) (ha : PA X (e :: es) t) (hg : Gl X x := by rfl)
    (hdb : (x == ("__debug__" : Str)) = false := by decide) (he : starEach (e :: es) X.env = (false, eval e X.env) :: starEach es X.env := by rfl) (hpl : (backTo pos (starEach es X.env)).any (·.1) = false := by rfl) :
    PE X (.Call (.Name x p) (e :: es) [] pos) (tCall sp [] E0 t) := by
  obtain ⟨f, fd, F, hm, hk, hb⟩ := C.ex
  exact pe_call F hr hg hm hk hb .nil pass0 ha hdb he hpl
theorem pe_own0 {x : Str} {ps : List Str} {k : Nat} {sp : Sp} {p pos : Pos} (C : Own X.prog X.w X.K X.mg X.base x ps k sp) (hr : Room k X.A) (hg : Gl X x := by rfl)
    (hdb : (x == ("__debug__" : Str)) = false := by decide) : PE X (.Call (.Name x p) [] [] pos) (tCall sp [] E0 tNil) := by
  obtain ⟨f, fd, F, hm, hk, hb⟩ := C.ex
  exact pe_call0 F hr hg hm hk hb .nil pass0 hdb
theorem pe_const {x : Str} {i : Int} {pos : Pos} (h : ∃ t, X.mg x = some (.int i t)) (hg : Gl X x := by rfl) (hd : (x == ("__debug__" : Str)) = false := by decide) : PE X (.Name x pos) (tC (.int i)) := by
  obtain ⟨t, h⟩ := h
  exact pe_glob hg h ⟨_, rfl⟩ hd
end
/-! heaps -/
theorem same_new {H : Hp} {p : Addr} {o : HO} (h : H p = none) : Same H (upd H p o) := fun a u e => by
  rw [upd_ne (ne_of_none e h)]
  exact e
/-- what H does not know may change -/
theorem same_mut {H H' : Hp} {p : Addr} {o : HO} (e : Same H H') (h : H p = none) : Same H (upd H' p o) := fun a u ha => by
  rw [upd_ne (ne_of_none ha h)]
  exact e a u ha
theorem same_free {H H' : Hp} (e : Same H H') {l : Addr} (h : H' l = none) : H l = none := e.free h
theorem same_t {K : PySem.W.Frag} {H H' : Hp} {a : Addr} {xs : List V} (e : Same H H') (h : SqT K H a xs) : SqT K H' a xs := by
  rcases h with (h | ⟨o, h⟩) | h
  · exact .inl (.inl (e _ _ h))
  · exact .inl (.inr ⟨o, e _ _ h⟩)
  · exact .inr h
theorem sz_of {n : Nat} (h : n ≤ 100000) : n ≤ sizeLine := Nat.le_trans h (by decide)
theorem sz_lt {n : Nat} (h : n < 100000) : n < sizeLine := Nat.lt_of_lt_of_le h (by decide)
theorem mulR {i j : Int} (h1 : -(2 ^ 64) < j) (h2 : j < 2 ^ 64) : CMul i j := .inr ⟨h1, h2⟩
theorem mulL {i j : Int} (h1 : -(2 ^ 64) < i) (h2 : i < 2 ^ 64) : CMul i j := .inl ⟨h1, h2⟩
theorem bool_tt (b : Bool) : (b = true) ∨ (b = false) := by cases b <;> simp
theorem get_ints {ns : List Int} {i : Nat} {y : V} (hi : (ns.map V.int)[i]? = some y) : ∃ z, ns[i]? = some z ∧ y = V.int z := by
  rw [List.getElem?_map] at hi
  cases e : ns[i]? with
  | none => rw [e] at hi; cases hi
  | some z => rw [e] at hi; exact ⟨z, rfl, (Option.some.inj hi).symm⟩
/-! the rules that speak of the written part, with that part named -/
section
variable {X : Cx} (K : PySem.W.Frag)
theorem ixl (h : X.K = K := by rfl) : IxR X (rIxL K) := by subst h; exact ix_list
theorem ixt (h : X.K = K := by rfl) : IxR X (rIxT K) := by subst h; exact ix_tup
theorem lenK (h : X.K = K := by rfl) : CallR X (.builtin "len") (fun vs H Q => ∃ p ys, vs = [.ref p] ∧ (SqL K H p ys ∨ SqT K H p ys) ∧ Q (.int ys.length) H) := by subst h; exact call_len_seq
theorem slK (h : X.K = K := by rfl) : SlR X (rSlL K) := by subst h; exact sl_list
theorem allK (hc : X.calm = true) (h : X.K = K := by rfl) : CallR X (.builtin "all") (rAll K) := by subst h; exact cr_all hc
theorem anyK (hc : X.calm = true) (h : X.K = K := by rfl) : CallR X (.builtin "any") (rAny K) := by subst h; exact cr_any hc
theorem sumK (hc : X.calm = true) (h : X.K = K := by rfl) : CallR X (.builtin "sum") (rSum K) := by subst h; exact cr_sum hc
theorem maxK (hc : X.calm = true) (h : X.K = K := by rfl) : CallR X (.builtin "max") (rMax K) := by subst h; exact cr_max hc
theorem minK (hc : X.calm = true) (h : X.K = K := by rfl) : CallR X (.builtin "min") (rMin K) := by subst h; exact cr_min hc
theorem isiK (h : X.K = K := by rfl) : CallR X (.builtin "isinstance") (rIsi K) := by subst h; exact call_isi
theorem lstK (h : X.K = K := by rfl) : CallR X (.type "list") (fun vs H Q => ∃ p ys, vs = [.ref p] ∧ (SqL K H p ys ∨ SqT K H p ys) ∧ ∀ l, H l = none → Q (.ref l) (upd H l (.lst ys))) := by subst h; exact call_list_of
theorem eqDK (hu : X.A.units + 64 < cLine) (h : X.K = K := by rfl) : OpR X (compareOp .Eq) (rEqD K) := by subst h; exact op_eqD hu
theorem neDK (hu : X.A.units + 64 < cLine) (h : X.K = K := by rfl) : OpR X (compareOp .NotEq) (rNeD K) := by subst h; exact op_neD hu
theorem pilK {tg l : Expr} {tl : TE} (hl : PE X l tl) (h : X.K = K := by rfl) : PI X tg l (iList K tl) := by subst h; exact pi_list hl
theorem pitK {tg l : Expr} {tl : TE} (hl : PE X l tl) (h : X.K = K := by rfl) : PI X tg l (iTup K tl) := by subst h; exact pi_tup hl
theorem pgtK {es : List Expr} {k : Nat} {t : TGs} {n : Nat} {pos : Pos} (hc : X.calm = true) (hh : PGs X es t) (h : X.K = K := by rfl) (hn : (assignEach es X.env).length = n := by rfl) (hst : (assignEach es X.env).findIdx? (·.1) = none := by rfl) :
    PG X (.Tuple es k pos) (gTup K n t) := by subst h; exact pg_tup hc hh hn hst
theorem pguK {es : List Expr} {k : Nat} {t : TGs} {n : Nat} {pos : Pos} (hc : X.calm = true) (hh : PGs X es t) (h : X.K = K := by rfl) (hn : (assignEach es X.env).length = n := by rfl) (hst : (assignEach es X.env).findIdx? (·.1) = none := by rfl) :
    PG X (.Tuple es k pos) (gUnl K n t) := by subst h; exact pg_unl hc hh hn hst
theorem inDK (hu : X.A.units + 65 < cLine) (h : X.K = K := by rfl) : OpR X (compareOp .In) (rInD K) := by subst h; exact op_inD hu
theorem notInDK (hu : X.A.units + 65 < cLine) (h : X.K = K := by rfl) : OpR X (compareOp .NotIn) (rNotInD K) := by subst h; exact op_notInD hu
theorem inSK (h : X.K = K := by rfl) : OpR X (compareOp .In) (rIn K false) := by subst h; exact op_in_seq
theorem notInSK (h : X.K = K := by rfl) : OpR X (compareOp .NotIn) (rIn K true) := by subst h; exact op_notIn_seq
end
theorem u65 {k : Nat} {A : Around} (hr : Room k A) : A.units + 65 < cLine := by
  have := hr.un
  omega
end LH

set_option Elab.async false
set_option linter.all false
set_option maxRecDepth 100000
set_option maxHeartbeats 4000000
/-! while an error is handled: walks that end, tuples taken apart -/
namespace LH
open PySem PySem.Spec PyProof.Rows L2 L2H HotX
section
variable {P : Program} {w : World} {A : Around} {E : Value → Shared → Prop} {s : Shared}
/-- StopIteration, made and raised -/
theorem stop_hot {α : Type} {x1 : Addr} {Q : α → Shared → Prop} (hot : HotAt A x1 s.heap)
    (hE : ∀ h' e, (∀ b o, s.heap.get? b = some o → h'.get? b = some o) → (∃ o, h'.get? e = some o ∧ o.cls = .type "StopIteration") → E (.ref e) { s with heap := h' }) :
    wpAny (model P w) A (newExc (.type "StopIteration") [] >>= fun e => (raiseNew e : Sem α)) Q E s := by
  obtain ⟨hh, o1, v1, g1, d1, c1⟩ := hot
  refine wpAny_bind ?_
  simp only [newExc, newTuple]
  refine wpAny_bind (wpAny_newObj_type ?_ (by size_fits))
  refine wpAny_bind (m := firstArgMember _ _) (wpAny_of_eq (a := Value.none) (by first | rfl | (simp only [firstArgMember]; rfl)) ?_)
  refine wpAny_newObj_type ?_ (by size_fits)
  refine raiseNew_hot ⟨hh, o1, v1, Heap.get?_push_of_some _ (Heap.get?_push_of_some _ g1), d1, c1⟩ (Nat.ne_of_lt (Heap.lt_size (Heap.get?_push_of_some _ g1))) (Heap.get?_push_size _ rfl) rfl (by first | (simp; done) | (simp; omega)) ?_
  refine hE _ _ (fun b o e => ?_) ⟨_, Heap.get?_update_self _ (Heap.get?_push_size _ rfl) rfl, rfl⟩
  rw [Heap.get?_update_other _ _ (Nat.ne_of_gt (Heap.lt_size (Heap.get?_push_of_some _ e)))]
  exact Heap.get?_push_of_some _ (Heap.get?_push_of_some _ e)
/-- a list's iterator at its end -/
theorem list_end_hot {it l x1 : Addr} {i : Nat} {items : Array Value} {Q : Value → Shared → Prop} (hot : HotAt A x1 s.heap) (hne : x1 ≠ it) (hit : s.heap.IsListIter it l i) (hl : s.heap.IsList l items) (hx : items[i]? = none)
    (hE : ∀ h' e, Heap.ExtBut it s.heap h' → (∃ o, h'.get? e = some o ∧ o.cls = .type "StopIteration") → E (.ref e) { s with heap := h' }) :
    wpAny (model P w) A (Builtin.SmallTypes.nextOf (.ref it)) Q E s := by
  obtain ⟨oi, gi, ci, di⟩ := id hit
  obtain ⟨ol, gl, _, nl, dl⟩ := hl
  obtain ⟨hh, o1, v1, g1, d1, c1⟩ := hot
  unfold Builtin.SmallTypes.nextOf
  refine wpAny_bind (wpAny_callSpecial?_slot (name := Str.ofString "__next__") hit.typeIs slot_listiter_next (wpAny_call_entry slot_listiter_next hit.typeIs entry_listiter_next ?_ (args_listiter_next _)))
  show wpAny _ _ (field (.ref it) 0 >>= _) _ _ s
  refine wpAny_bind (wpAny_field gi di (x := .ref l) rfl ?_)
  show wpAny _ _ (if (Value.ref l == Value.none) = true then _ else _) _ _ s
  rw [if_neg (show ¬ ((Value.ref l == Value.none) = true) from Bool.false_ne_true)]
  show wpAny _ _ (field (.ref it) 1 >>= _) _ _ s
  refine wpAny_bind (wpAny_field gi di (x := .int i 0) rfl ?_)
  show wpAny _ _ (seqItems? (.ref l) >>= _) _ _ s
  refine wpAny_bind (wpAny_seqItems gl dl ?_)
  simp only [Int.toNat_natCast, hx]
  refine wpAny_bind (wpAny_rule (wpAny_bind (wpAny_setField gi di (by simp) ?_)))
  refine stop_hot (x1 := x1) ⟨hh, o1, v1, ?_, d1, c1⟩ fun h' e k q => hE h' e (fun b o hb g => k b o ?_) q
  · rw [Heap.get?_update_other _ _ (Ne.symm hne)]
    exact g1
  · exact (Heap.SameBut.update ..).extBut b o hb g
/-- a tuple's iterator at its end -/
theorem tuple_end_hot {it t x1 : Addr} {i : Nat} {items : Array Value} {Q : Option Value → Shared → Prop} (hot : HotAt A x1 s.heap) (hne : x1 ≠ it) (hit : IsTupIter s.heap it t i) (ht : IsTup s.heap t items) (hx : items[i]? = none)
    (hQ : ∀ h', Heap.ExtBut it s.heap h' → Q none { s with heap := h' }) : wpAny (model P w) A (pyNext (.ref it)) Q E s := by
  obtain ⟨oi, gi, ci, di⟩ := id hit
  obtain ⟨ol, gl, _, nl, dl⟩ := ht
  obtain ⟨hh, o1, v1, g1, d1, c1⟩ := hot
  unfold pyNext
  refine wpAny_bind (wpAny_attempt (wpAny_callSpecial?_slot (name := Str.ofString "__next__") hit.typeIs slot_tupleiter_next (wpAny_call_entry slot_tupleiter_next hit.typeIs entry_tupleiter_next ?_ (args_tupleiter_next _))))
  show wpAny _ _ (field (.ref it) 0 >>= _) _ _ s
  refine wpAny_bind (wpAny_field gi di (x := .ref t) rfl ?_)
  show wpAny _ _ (if (Value.ref t == Value.none) = true then _ else _) _ _ s
  rw [if_neg (show ¬ ((Value.ref t == Value.none) = true) from Bool.false_ne_true)]
  show wpAny _ _ (field (.ref it) 1 >>= _) _ _ s
  refine wpAny_bind (wpAny_field gi di (x := .int i 0) rfl ?_)
  show wpAny _ _ (seqItems? (.ref t) >>= _) _ _ s
  refine wpAny_bind (wpAny_seqItems gl dl ?_)
  simp only [Int.toNat_natCast, hx]
  refine wpAny_bind (wpAny_rule (wpAny_bind (wpAny_setField gi di (by simp) ?_)))
  refine stop_hot (x1 := x1) ⟨hh, o1, v1, ?_, d1, c1⟩ fun h' e k ⟨oe, ge, ce⟩ => ?_
  · rw [Heap.get?_update_other _ _ (Ne.symm hne)]
    exact g1
  refine wpAny_bind (wpAny_isInstance (T := "StopIteration") (b := true) ⟨oe, ge, ce⟩ isSubtype_stop ?_)
  exact wpAny_pure (hQ _ fun b o hb g => k b o ((Heap.SameBut.update ..).extBut b o hb g))
/-- (a, b, ..) = a tuple -/
theorem unpack_hot {env : Env} {elts : List Expr} {kk : Nat} {pos : Pos} {t x1 : Addr} {items : Array Value} {Q : Unit → Shared → Prop} (hot : HotAt A x1 s.heap) (ht : IsTup s.heap t items)
    (hn : (assignEach elts env).length = items.size) (hst : (assignEach elts env).findIdx? (·.1) = none)
    (h : ∀ h', Heap.ExtBut s.heap.objs.size s.heap h' → wpAny (model P w) A (assignInOrder ((assignEach elts env).map (·.2)) items.toList) Q E { s with heap := h' }) :
    wpAny (model P w) A (assign (.Tuple elts kk pos) env (.ref t)) Q E s := by
  obtain ⟨hh, o1, v1, g1, d1, c1⟩ := hot
  have ntl : t ≠ s.heap.objs.size := by
    obtain ⟨o, g, _⟩ := ht
    exact Nat.ne_of_lt (Heap.lt_size g)
  have n1 : x1 ≠ s.heap.objs.size := Nat.ne_of_lt (Heap.lt_size g1)
  rw [assign_Tuple]
  refine wpAny_bind (wpAny_standAt ?_)
  unfold unpack
  rw [hn, hst]
  refine wpAny_bind (wpAny_holding ?_)
  unfold unpackItems notIterableAtAll
  refine wpAny_bind (wpAny_bind (wpAny_specialOf ht.typeIs slot_tuple_iter.lookup (wpAny_pure ?_)))
  simp only [Bool.false_eq_true, if_false]
  refine wpAny_bind (wpAny_holding (iter_tuple ht ?_))
  refine wpAny_bind (wpAny_holding (draw_tuple ntl items.size 0 _ _ ⟨_, Heap.get?_push_size _ rfl, rfl, rfl⟩ (ht.push _) (by omega) fun h1 i1 b1 => ?_))
  rw [show List.take items.size (List.drop 0 items.toList) = items.toList from by rw [List.drop_zero]; exact List.take_of_length_le (by simp)]
  rw [if_neg (by simp)]
  refine wpAny_bind (wpAny_holding (tuple_end_hot (x1 := x1) ⟨hh, o1, v1, b1.extBut _ _ n1 (Heap.get?_push_of_some _ g1), d1, c1⟩ n1 i1 ((ht.push _).extBut b1.extBut ntl) (by simp) fun h2 k2 => ?_))
  simp only [Option.isSome_none, Bool.false_eq_true, if_false]
  exact wpAny_pure (h h2 fun b o hb e => k2 b o hb (b1.extBut b o hb (Heap.get?_push_of_some _ e)))
end

/-! the handled error stands in every state of a context -/
def HotS (X : Cx) (x1 : Addr) : Prop := ∀ (pins : List (Addr × Obj)) (σ : L2.St) (H : Hp) (s : Shared), L2.Inv X pins σ H s → HotAt X.A x1 s.heap
theorem pg_tupX {X : Cx} {x1 : Addr} {es : List Expr} {k : Nat} {t : TGs} {n : Nat} {pos : Pos} (K : PySem.W.Frag) (hot : HotS X x1) (h : PGs X es t) (hK : X.K = K := by rfl) (hn : (assignEach es X.env).length = n := by rfl) (hst : (assignEach es X.env).findIdx? (·.1) = none := by rfl) :
    PG X (.Tuple es k pos) (gTup K n t) := by
  subst hK
  refine ⟨fun pins s σ H v u Q I r ⟨a, xs, e1, hq, hl, hw⟩ => ?_⟩
  subst e1
  cases r
  obtain ⟨its, rv, ht, _⟩ := I.tuple hq
  refine unpack_hot (hot pins σ H s I) ht (by simp [hn, ← hl, rv.length]) hst fun h' hx => ?_
  exact h.run pins _ σ H xs _ Q (I.kept (t' := s.toks) fun b o e => hx b o (Nat.ne_of_lt (Heap.lt_size e)) e) (by simpa using rv) hw
/-- what is walked while x1 is handled -/
structure TurnX (P : Program) (w : World) (K : PySem.W.Frag) (x1 : Addr) (tg : Expr) (J : It) (fp : List Addr) (it : Addr) (tn : Nat → Heap → Prop) : Prop where
  mem : it ∈ fp
  old : x1 ∉ fp
  obj : ∀ i h, tn i h → ∀ b ∈ fp, ∃ o, h.get? b = some o ∧ ∀ v, o.data ≠ .cell v
  keep : ∀ i h h', tn i h → (∀ b ∈ fp, ∀ o, h.get? b = some o → h'.get? b = some o) → tn i h'
  item : ∀ (X : Cx), X.prog = P → X.w = w → X.K = K → ∀ (i : Nat) (pins : List (Addr × Obj)) (s : Shared) (σ : L2.St) (H : Hp) (E : Value → Shared → Prop), L2.Inv X pins σ H s → HotAt X.A x1 s.heap → (∀ b ∈ fp, FpOk X pins H b) → tn i s.heap → J.go i H →
    wpAny (model P w) X.A (pyNext (.ref it)) (fun r s1 => ∃ u, r = some u ∧
      wpAny (model P w) X.A (letOwnedTupleGo tg (.ref it) u) (fun _ s2 => ∃ x H', L2.Inv X pins σ H' s2 ∧ RelV x u ∧ J.yld i H x H' ∧ tn (i + 1) s2.heap ∧ ∀ b ∈ fp, H' b = none) E s1) E s
  done : ∀ (X : Cx), X.prog = P → X.w = w → X.K = K → ∀ (i : Nat) (pins : List (Addr × Obj)) (s : Shared) (σ : L2.St) (H : Hp) (E : Value → Shared → Prop), L2.Inv X pins σ H s → HotAt X.A x1 s.heap → (∀ b ∈ fp, FpOk X pins H b) → tn i s.heap → J.stop i H →
    wpAny (model P w) X.A (pyNext (.ref it)) (fun r s1 => r = none ∧ L2.Inv X pins σ H s1) E s
  self : ∀ (A : Around) (i : Nat) (s : Shared) (Q : Value → Shared → Prop) (E : Value → Shared → Prop), tn i s.heap → Q (.ref it) s → wpAny (model P w) A (pyIter (.ref it)) Q E s
def PIXE (X : Cx) (x1 : Addr) (pins : List (Addr × Obj)) (σ : L2.St) (tg : Expr) (R : It → Hp → Prop) (itv : Value) (s2 : Shared) : Prop :=
  ∃ (it : Addr) (fp : List Addr) (tn : Nat → Heap → Prop) (J : It) (H' : Hp), itv = .ref it ∧ L2.Inv X pins σ H' s2 ∧ TurnX X.prog X.w X.K x1 tg J fp it tn ∧ tn 0 s2.heap ∧ (∀ b ∈ fp, FpOk X pins H' b) ∧ R J H'
structure PIX (X : Cx) (x1 : Addr) (tg iter : Expr) (wi : TI) : Prop where
  run : ∀ (pins : List (Addr × Obj)) (s : Shared) (σ : L2.St) (H : Hp) (R : It → Hp → Prop), L2.Inv X pins σ H s → wi σ H R →
    wpAny (model X.prog X.w) X.A (eval iter X.env) (fun v s1 => wpAny (model X.prog X.w) X.A (pyIter v) (PIXE X x1 pins σ tg R) X.xe s1) X.xe s
/-- zip of two lists -/
def ItzX (K : PySem.W.Frag) (a b : Addr) : It :=
  ⟨fun i H => ∃ xs ys : List V, SqL K H a xs ∧ SqL K H b ys ∧ i < xs.length ∧ i < ys.length,
    fun i H v H' => ∃ T x y, v = .ref T ∧ H T = none ∧ H' = upd H T (.tup [x, y]) ∧ (∀ xs, SqL K H a xs → xs[i]? = some x) ∧ ∀ ys, SqL K H b ys → ys[i]? = some y,
    fun i H => ∃ xs ys : List V, SqL K H a xs ∧ SqL K H b ys ∧ i = min xs.length ys.length⟩
theorem walk_zipX {K : PySem.W.Frag} {a b : Addr} {xs ys : List V} {n : Nat} (hn : n = min xs.length ys.length) :
    Walk (ItzX K a b) n (fun H => SqL K H a xs ∧ SqL K H b ys) (fun i H v H' => ∃ T x y, v = .ref T ∧ H T = none ∧ H' = upd H T (.tup [x, y]) ∧ xs[i]? = some x ∧ ys[i]? = some y) := by
  subst hn
  constructor
  · intro i H hi q
    exact ⟨xs, ys, q.1, q.2, by omega, by omega⟩
  · intro H q
    exact ⟨xs, ys, q.1, q.2, rfl⟩
  · intro i H v H' _ q y
    obtain ⟨T, x, z, h1, h2, h3, h4, h5⟩ := y
    exact ⟨T, x, z, h1, h2, h3, h4 xs q.1, h5 ys q.2⟩
theorem draws_hot {P : Program} {w : World} {A : Around} {x1 : Addr} {o1 : Obj} {v1 : Array Value} (hh : A.handled = some (.ref x1)) (d1 : o1.data = .fields v1) (c1 : v1[2]? = some .none) (it l : Addr) (hne : l ≠ it) (hx : x1 ≠ it) (items : Array Value) :
    Draws P w A it [it, l, x1] items.size (fun i v => items[i]? = some v) (fun i h => h.IsListIter it l i ∧ h.IsList l items ∧ h.get? x1 = some o1) where
  live := fun _ _ st => let ⟨o, ho, _⟩ := st.1; ⟨o, ho⟩
  frame := fun _ _ _ st hk => ⟨st.1.at fun o e => hk it (by simp) o e, st.2.1.at fun o e => hk l (by simp) o e, hk x1 (by simp) o1 st.2.2⟩
  item := fun i s Q E hi st hQ => by
    refine wpAny_nextOf_list_item st.1 st.2.1 (x := items[i]) (by simp [hi]) fun h' i' b' => ?_
    exact hQ _ h' s.toks (by simp [hi]) ⟨i', st.2.1.extBut b'.extBut hne, b'.extBut _ _ hx st.2.2⟩ b'
  done := fun s Q E st hE => list_end_hot (x1 := x1) ⟨hh, o1, v1, st.2.2, d1, c1⟩ hx st.1 st.2.1 (by simp) hE
abbrev fp2 (N : Addr) : List Addr := [N + 4, N + 2, N + 3, N, N + 1]
def tn2 (N a b : Addr) (i : Nat) (h : Heap) : Prop :=
  IsZip h (N + 4) (N + 2) (N + 3) .none ∧ IsTupOf2 h (N + 2) (.ref N) (.ref (N + 1)) ∧ (∃ a1 a2, IsTupOf2 h (N + 3) a1 a2) ∧ h.IsListIter N a i ∧ h.IsListIter (N + 1) b i
def goes2 {P : Program} {w : World} {A : Around} {elts : List Expr} {kk : Nat} {tpos : Pos} {N a b x1 : Addr} {o1 : Obj} {v1 : Array Value} (hh : A.handled = some (.ref x1)) (d1 : o1.data = .fields v1) (c1 : v1[2]? = some .none) (ha : a < N) (hb : b < N) (hx : x1 < N) (xs ys : Array Value) :=
  GoesN.zip2 (prog := P) (w := w) (A := A) (elts := elts) (x1 := kk) (pos := tpos) (zip_sep2 (N := N) (fp1 := [a, x1]) (fp2 := [b, x1]) (fun x h => by
      rcases List.mem_cons.mp h with h | h
      · rw [h]; exact ha
      · rw [List.mem_singleton.mp h]; exact hx) (fun x h => by
      rcases List.mem_cons.mp h with h | h
      · rw [h]; exact hb
      · rw [List.mem_singleton.mp h]; exact hx))
    (draws_hot (P := P) (w := w) (A := A.in1) (x1 := x1) hh d1 c1 N a (Nat.ne_of_lt ha) (Nat.ne_of_lt hx) xs) (draws_hot (P := P) (w := w) (A := A.in1) (x1 := x1) hh d1 c1 (N + 1) b (Nat.ne_of_lt (Nat.lt_succ_of_lt hb)) (Nat.ne_of_lt (Nat.lt_succ_of_lt hx)) ys)
theorem turn_zipX {P : Program} {w : World} {K : PySem.W.Frag} {elts : List Expr} {kk : Nat} {tpos : Pos} {N a b x1 : Addr} (ha : a < N) (hb : b < N) (hx : x1 < N) :
    TurnX P w K x1 (.Tuple elts kk tpos) (ItzX K a b) (fp2 N) (N + 4) (tn2 N a b) where
  mem := by simp
  old := fun z => by
    have e' : x1 = N + 4 ∨ x1 = N + 2 ∨ x1 = N + 3 ∨ x1 = N ∨ x1 = N + 1 := by simpa using z
    rcases e' with q | q | q | q | q <;> rw [q] at hx
    · exact absurd hx (Nat.not_lt.mpr (Nat.le_add_right _ _))
    · exact absurd hx (Nat.not_lt.mpr (Nat.le_add_right _ _))
    · exact absurd hx (Nat.not_lt.mpr (Nat.le_add_right _ _))
    · exact absurd hx (Nat.lt_irrefl _)
    · exact absurd hx (Nat.not_lt.mpr (Nat.le_add_right _ _))
  obj := fun i h st x hx => by
    obtain ⟨hz, hTI, ⟨a1, a2, hTO⟩, ⟨o1, e1, _, d1⟩, ⟨o2, e2, _, d2⟩⟩ := st
    have e' : x = N + 4 ∨ x = N + 2 ∨ x = N + 3 ∨ x = N ∨ x = N + 1 := by simpa using hx
    rcases e' with q | q | q | q | q
    · rw [q]; exact ⟨_, hz, fun v q => nomatch q⟩
    · rw [q]; exact ⟨_, hTI, fun v q => nomatch q⟩
    · rw [q]; exact ⟨_, hTO, fun v q => nomatch q⟩
    · rw [q]; exact ⟨o1, e1, fun v q => by rw [d1] at q; cases q⟩
    · rw [q]; exact ⟨o2, e2, fun v q => by rw [d2] at q; cases q⟩
  keep := fun i h h' st k => by
    obtain ⟨hz, hTI, ⟨a1, a2, hTO⟩, h1, h2⟩ := st
    exact ⟨k _ (by simp) _ hz, k _ (by simp) _ hTI, ⟨a1, a2, k _ (by simp) _ hTO⟩, h1.at fun o q => k _ (by simp) o q, h2.at fun o q => k _ (by simp) o q⟩
  item := by
    intro X hP hw hK i pins s σ H E I hot hf st hg
    subst hP hw hK
    obtain ⟨hh, o1, v1, g1, d1, c1⟩ := hot
    obtain ⟨hz, hTI, hTO, h1, h2⟩ := id st
    obtain ⟨xs, ys, hqx, hqy, lx, ly⟩ := hg
    obtain ⟨i1, rv1, p1, _⟩ := I.list hqx
    obtain ⟨i2, rv2, p2, _⟩ := I.list hqy
    have l1 := rv1.length
    have l2 := rv2.length
    refine (goes2 hh d1 c1 ha hb hx i1.toArray i2.toArray).goes i s _ E (by simp; omega) ⟨hz, hTI, hTO, ⟨h1, p1.isList, g1⟩, ⟨h2, p2.isList, g1⟩⟩ ?_
    rintro v h' tk ⟨T, x, y, rfl, hT, ex, ey, hTT⟩ ⟨hz', hTI', hTO', h1', h2'⟩ hk _
    obtain ⟨u1, f1, r1⟩ := rv1.get (List.getElem?_eq_getElem lx)
    obtain ⟨u2, f2, r2⟩ := rv2.get (List.getElem?_eq_getElem ly)
    rw [List.getElem?_toArray, f1] at ex
    rw [List.getElem?_toArray, f2] at ey
    cases ex
    cases ey
    have I1 : L2.Inv X pins σ (upd H T (.tup [xs[i], ys[i]])) { s with heap := h', toks := tk } :=
      I.turnedNew (t' := tk) (ch := fp2 N) (fun c o hb q => hk c o (fun q' => hb (by
        have e' : c = N + 4 ∨ c = N + 3 ∨ c = N ∨ c = N + 1 := by simpa using q'
        rcases e' with q | q | q | q <;> simp [q])) q) hf hT ⟨by show 2 ≤ sizeLine; decide, [x, y], .cons r1 (.cons r2 .nil), hTT⟩
    refine ⟨.ref T, _, I1, rfl, ⟨T, _, _, rfl, I.hok.fresh hT, rfl, fun l hl => by rw [I.list_inj hl hqx]; exact List.getElem?_eq_getElem lx, fun l hl => by rw [I.list_inj hl hqy]; exact List.getElem?_eq_getElem ly⟩, ⟨hz', hTI', hTO', h1'.1, h2'.1⟩, fun q hq => ?_⟩
    have hlt : q < s.heap.objs.size := by
      have e' : q = N + 4 ∨ q = N + 2 ∨ q = N + 3 ∨ q = N ∨ q = N + 1 := by simpa using hq
      obtain ⟨a1, a2, hTO⟩ := hTO
      rcases e' with z | z | z | z | z
      · rw [z]; exact Heap.lt_size hz
      · rw [z]; exact Heap.lt_size hTI
      · rw [z]; exact Heap.lt_size hTO
      · rw [z]; obtain ⟨_, e1, _⟩ := h1; exact Heap.lt_size e1
      · rw [z]; obtain ⟨_, e1, _⟩ := h2; exact Heap.lt_size e1
    rw [upd_ne (Nat.ne_of_lt (Nat.lt_of_lt_of_le hlt hT))]
    exact (hf q hq).1
  done := by
    intro X hP hw hK i pins s σ H E I hot hf st hg
    subst hP hw hK
    obtain ⟨hh, o1, v1, g1, d1, c1⟩ := hot
    obtain ⟨hz, hTI, hTO, h1, h2⟩ := id st
    obtain ⟨xs, ys, hqx, hqy, hi⟩ := hg
    obtain ⟨i1, rv1, p1, _⟩ := I.list hqx
    obtain ⟨i2, rv2, p2, _⟩ := I.list hqy
    have l1 := rv1.length
    have l2 := rv2.length
    have e : min i1.toArray.size i2.toArray.size = i := by
      simp only [List.size_toArray]
      omega
    have W := goes2 (P := X.prog) (w := X.w) (elts := elts) (kk := kk) (tpos := tpos) hh d1 c1 ha hb hx i1.toArray i2.toArray
    rw [e] at W
    refine W.stops s _ E ⟨hz, hTI, hTO, ⟨h1, p1.isList, g1⟩, ⟨h2, p2.isList, g1⟩⟩ fun h' tk hk _ => ?_
    exact I.turnedL (t' := tk) (ch := fp2 N) (fun c o hb q => hk c o (fun q' => hb (by
        have e' : c = N + 4 ∨ c = N + 3 ∨ c = N ∨ c = N + 1 := by simpa using q'
        rcases e' with q | q | q | q <;> simp [q])) q) hf
  self := fun A i s Q E st h => wpAny_pyIter_zip st.1 h
def iZipX (K : PySem.W.Frag) (ta : TA) : TI := fun σ H R => ta σ H fun vs H1 => ∃ a b xs ys, vs = [.ref a, .ref b] ∧ SqL K H1 a xs ∧ SqL K H1 b ys ∧ R (ItzX K a b) H1
theorem pi_zipX {X : Cx} {x1 : Addr} {e e2 : Expr} {ta : TA} {p pos tpos : Pos} {elts : List Expr} {kk : Nat} (K : PySem.W.Frag) (hot : HotS X x1) (hg : Gl X "zip") (hm : X.mg "zip" = none) (ha : PA X [e, e2] ta) (hK : X.K = K := by rfl)
    (hs : starEach [e, e2] X.env = (false, eval e X.env) :: starEach [e2] X.env := by rfl) (hpl : (backTo pos (starEach [e2] X.env)).any (·.1) = false := by rfl) :
    PIX X x1 (.Tuple elts kk tpos) (.Call (.Name "zip" p) [e, e2] [] pos) (iZipX K ta) := by
  subst hK
  refine ⟨fun pins s σ H R I h => Call_ (ld_blt I hg hm boot_zip (callWith_type1 (thn (ha.run pos pins s σ H _ I h) fun us s1 ⟨vs, H1, I1, r1, q1⟩ => ?_) hs hpl))⟩
  obtain ⟨a, b, xs, ys, ex, hqx, hqy, q⟩ := q1
  subst ex
  obtain ⟨_, o1, v1, g1, _, _⟩ := hot pins σ H1 s1 I1
  cases r1 with
  | cons r rr =>
    cases rr with
    | cons r' rr =>
      cases rr
      cases r
      cases r'
      obtain ⟨i1, rv1, p1, _⟩ := I1.list hqx
      obtain ⟨i2, rv2, p2, _⟩ := I1.list hqy
      refine zip_begins2 (begins_list a i1.toArray) (begins_list b i2.toArray) p1.isList p2.isList fun h' hz hTI hTO g1' g2' hsz hk => wpAny_pyIter_zip hz ?_
      have I2 : L2.Inv X pins σ H1 { s1 with heap := h' } := I1.kept (t' := s1.toks) hk
      refine ⟨s1.heap.objs.size + 4, fp2 s1.heap.objs.size, tn2 s1.heap.objs.size a b, _, H1, rfl, I2, turn_zipX p1.lt p2.lt (Heap.lt_size g1), ⟨hz, hTI, ⟨_, _, hTO⟩, ⟨_, g1', rfl, rfl⟩, ⟨_, g2', rfl, rfl⟩⟩, fun q hq => ?_, q⟩
      have e' : q = s1.heap.objs.size + 4 ∨ q = s1.heap.objs.size + 2 ∨ q = s1.heap.objs.size + 3 ∨ q = s1.heap.objs.size ∨ q = s1.heap.objs.size + 1 := by simpa using hq
      have hle : s1.heap.objs.size ≤ q := by
        rcases e' with z | z | z | z | z <;> rw [z] <;> first | exact Nat.le_refl _ | exact Nat.le_add_right _ _
      exact I1.fpOk hle (I1.hok.fresh hle)
end LH

set_option Elab.async false
set_option linter.all false
set_option maxRecDepth 100000
set_option maxHeartbeats 4000000
/-! [.. for .. in ..] while an error is handled -/
namespace LH
open PySem PySem.Spec PyProof.Rows L2 L2H HotX
/-- the handled error, as the context's own frames leave it alone -/
structure HotC2 (X : Cx) (x1 : Addr) (o1 : Obj) : Prop where
  hh : X.A.handled = some (.ref x1)
  fl : ∃ v1, o1.data = .fields v1 ∧ v1[2]? = some .none
  at_ : ∀ (pins : List (Addr × Obj)) (σ : L2.St) (H : Hp) (s : Shared), L2.Inv X pins σ H s → s.heap.get? x1 = some o1 ∧ H x1 = none ∧ x1 ∉ frs X.stack
theorem HotC2.hot {X : Cx} {x1 : Addr} {o1 : Obj} (h : HotC2 X x1 o1) : HotS X x1 := fun pins σ H s I => by
  obtain ⟨v1, d1, c1⟩ := h.fl
  exact ⟨h.hh, o1, v1, (h.at_ pins σ H s I).1, d1, c1⟩
/-- within a comprehension's block -/
theorem HotC2.blk {X : Cx} {x1 : Addr} {o1 : Obj} (h : HotC2 X x1 o1) {s : Shared} {H : Hp} {scope : Scope} {ce : Env} {fp : List Addr} (g : s.heap.get? x1 = some o1) (f : H x1 = none) (nf : x1 ∉ frs X.stack) (no : x1 ∉ fp) : HotS (X.blk s H scope ce fp) x1 := fun pins σ H' s' I => by
  obtain ⟨v1, d1, c1⟩ := h.fl
  exact ⟨h.hh, o1, v1, I.base.keep x1 o1 g f nf no, d1, c1⟩
theorem pe_lcX {X : Cx} {x1 : Addr} {o1 : Obj} {elt tg iter : Expr} {ifs : List Expr} {scope : Scope} {own : List (Str × Nat)} {pos : Pos} {wi : TI} {g : TG} {tt : TT} {te : TE} (hot : HotC2 X x1 o1) (hN : X.N.Nodup) (hi : PIX X x1 tg iter wi) (ok : BlkOk X.N X.env.scope scope own)
    (hg : ∀ (s : Shared) (H : Hp) (C : Addr) (cl : List (Str × Addr)) (fp : List Addr), HotS (X.blk s H scope (compEnvC scope cl C X.env) fp) x1 → PG (X.blk s H scope (compEnvC scope cl C X.env) fp) tg g)
    (ht : ∀ (s : Shared) (H : Hp) (C : Addr) (cl : List (Str × Addr)) (fp : List Addr), PTs (X.blk s H scope (compEnvC scope cl C X.env) fp) ifs tt)
    (he : ∀ (s : Shared) (H : Hp) (C : Addr) (cl : List (Str × Addr)) (fp : List Addr), PE (X.blk s H scope (compEnvC scope cl C X.env) fp) elt te) (hs : ∀ x, foldedSetIterable iter X.env x = pure x := by intro _; rfl) :
    PE X (.ListComp elt [⟨tg, iter, ifs, 0⟩] scope pos) (tLc wi g tt te (own.map (·.2))) := by
  refine ⟨fun pins s σ H Q I h => ?_⟩
  rw [eval_ListComp]
  have hfr : ∀ y ∈ scope.names, y.2 = .free → ∃ c, X.env.cells.lookup y.1 = some c := fun y hy e => (ok.free y hy e).elim (fun k => I.ok.has _ (.inl k)) fun k => I.ok.has _ (.inr k)
  refine wpAny_comprehension_free (use := none) rfl hs (closure_ok hfr) ok.kind (fun y hy e => by rw [ok.uniq y hy, e]) (thn (hi.run pins s σ H _ I h) fun xv s1 hx => thn hx fun itv s2 h2 => ?_)
  obtain ⟨it, fp, tn, J, H2, rfl, I2, T, st2, f2, q⟩ := h2
  obtain ⟨gx2, nx2, nfx⟩ := hot.at_ pins σ H2 s2 I2
  refine wpAny_newObj_type (newEnv_comp ?_) (by show 0 ≤ sizeLine; decide)
  obtain ⟨D, hD⟩ : ∃ D, s2.heap.objs.size = D := ⟨_, rfl⟩
  rw [hD]
  have nD : H2 D = none := I2.hok.fresh (Nat.le_of_eq hD)
  obtain ⟨W, ⟨m0, w0⟩, turn⟩ := q D nD
  obtain ⟨s3, hs3⟩ : ∃ s3 : Shared, ({ s2 with heap := s2.heap.push { cls := .type "list", data := .seq ([] : List Value).toArray } } : Shared) = s3 := ⟨_, rfl⟩
  have e3 : s3.heap = s2.heap.push { cls := .type "list", data := .seq ([] : List Value).toArray } := by rw [← hs3]
  have I3 : L2.Inv X pins σ (upd H2 D (.lst [])) s3 := by
    rw [← hs3]
    refine I2.laid (t' := s2.toks) (fun b o e => Heap.get?_push_of_some _ e) (Nat.le_of_eq hD) ⟨Nat.zero_le _, [], 0, .nil, ?_⟩
    rw [← hD]
    exact Heap.get?_push_size _ rfl
  have gx3 : s3.heap.get? x1 = some o1 := by
    rw [e3]
    exact Heap.get?_push_of_some _ gx2
  have nx3 : (upd H2 D (.lst [])) x1 = none := by
    rw [upd_ne (by rw [← hD]; exact Nat.ne_of_lt (Heap.lt_size gx2))]
    exact nx2
  have f3 : ∀ b ∈ fp, FpOk X pins (upd H2 D (.lst [])) b ∧ b < s3.heap.objs.size := fun b hb => by
    obtain ⟨o, e, _⟩ := T.obj _ _ st2 b hb
    have hlt := Heap.lt_size e
    refine ⟨⟨?_, (f2 b hb).2⟩, by rw [e3, Heap.size_push]; exact Nat.lt_succ_of_lt hlt⟩
    rw [upd_ne (by rw [← hD]; exact Nat.ne_of_lt hlt)]
    exact (f2 b hb).1
  have st3 : tn 0 s3.heap := T.keep _ _ _ st2 fun b _ o e => by rw [e3]; exact Heap.get?_push_of_some _ e
  have I4 := block_start I3 ok hN f3
  have hot4 : ∀ ce : Env, HotS (X.blk s3 (upd H2 D (.lst [])) scope ce fp) x1 := fun ce => hot.blk gx3 nx3 nfx T.old
  have pg := hg s3 (upd H2 D (.lst [])) s3.heap.objs.size (cellsFrom (s3.heap.objs.size + 1) scope.names (cloFrom X.env.cells scope.names [])) fp (hot4 _)
  have pt := ht s3 (upd H2 D (.lst [])) s3.heap.objs.size (cellsFrom (s3.heap.objs.size + 1) scope.names (cloFrom X.env.cells scope.names [])) fp
  have pe := he s3 (upd H2 D (.lst [])) s3.heap.objs.size (cellsFrom (s3.heap.objs.size + 1) scope.names (cloFrom X.env.cells scope.names [])) fp
  have n3 : ∀ b ∈ fp, (upd H2 D (.lst [])) b = none := fun b hb => (f3 b hb).1.1
  rw [hs3]
  show codeAny _ _ (.compStart (.ListComp elt [⟨tg, iter, ifs, 0⟩] scope pos) 0 (.ref it) (.ref D) (compEnvC scope (cellsFrom (s3.heap.objs.size + 1) scope.names (cloFrom X.env.cells scope.names [])) s3.heap.objs.size X.env)) _ { s3 with heap := pushCells (s3.heap.push { cls := .type "dict", data := .dict #[] }) scope.names }
  generalize hce : compEnvC scope (cellsFrom (s3.heap.objs.size + 1) scope.names (cloFrom X.env.cells scope.names [])) s3.heap.objs.size X.env = ce at I4 pg pt pe ⊢
  have hL : ce.locals = s3.heap.objs.size := by subst hce; rfl
  have hb4 := hot4 ce
  clear hot4
  generalize upd H2 D (.lst []) = H3 at *
  generalize hs4 : ({ s3 with heap := pushCells (s3.heap.push { cls := .type "dict", data := .dict #[] }) scope.names } : Shared) = s4 at I4 ⊢
  have st4 : tn 0 s4.heap := T.keep _ _ _ st3 fun b _ o e => by rw [← hs4]; exact pushCells_keeps _ _ _ _ (Heap.get?_push_of_some _ e)
  have own_ : ∀ {σ' : L2.St} {H' : Hp} {s' : Shared}, L2.Inv (X.blk s3 H3 scope ce fp) [] σ' H' s' → (∀ b ∈ fp, H' b = none) → ∀ b ∈ fp, FpOk (X.blk s3 H3 scope ce fp) [] H' b := fun {σ' H' s'} I' hn b hb =>
    ⟨hn b hb, (I'.ok.exf b hb).1, I'.ok.exfs b hb, .inl hb, fun x c e => (I'.ok.exf b hb).2 x c e, fun p hp => absurd (show p ∈ ([] : List (Addr × Obj)) ++ [] from hp) (by simp)⟩
  have loop : codeAny (model X.prog X.w) X.A (.compLoop (.ListComp elt [⟨tg, iter, ifs, 0⟩] scope pos) 0 (.ref it) (.ref D) ce) (compPost (model X.prog X.w) X.A X.xe none (EP X pins σ Q) (.ref D) s3.heap.objs.size) s4 := by
    refine compLoop_any (fun n s' => ∃ i H', L2.Inv (X.blk s3 H3 scope ce fp) [] (wipe σ (own.map (·.2))) H' s' ∧ tn i s'.heap ∧ (∀ b ∈ fp, H' b = none) ∧ W i n H') ?_ m0 ⟨0, H3, I4, st4, n3, w0⟩
    rintro n s5 ⟨i, H5, I5, st5, n5, w5⟩
    have hot5 := hb4 _ _ _ _ I5
    rcases turn i n H5 w5 with ⟨stop, qq⟩ | ⟨go, Nx, hNx, step⟩
    · refine thnF (T.done (X.blk s3 H3 scope ce fp) rfl rfl rfl i [] s5 _ H5 (fun _ _ => False) I5 hot5 (own_ I5 n5) st5 stop) fun r s6 ⟨hr, I6⟩ => ?_
      subst hr
      have I7 : L2.Inv X pins σ H5 s6 := I3.call' (ch := fp) I6.os I6.base I6.hok I6.bare fun b hb => ⟨(f3 b hb).1.2.2.2.1, (f3 b hb).1.2.1, (f3 b hb).1.2.2.2.2.1, (f3 b hb).1.2.2.2.2.2⟩
      have nC : H5 s3.heap.objs.size = none := by
        rw [← hL]
        exact I6.free
      obtain ⟨m, hn, _⟩ := I6.loc
      have hn : s6.heap.Ns s3.heap.objs.size m := by
        rw [← hL]
        exact hn
      obtain ⟨c0, c1, _, c3, c4, c5⟩ := I3.fpOk (Nat.le_refl _) nC
      exact ⟨m, hn, fun h'' sb => ⟨.ref D, H5, I7.turned (t' := s6.toks) (fun b o hb e => (sb.2 b hb).trans e) c0 c1 c3 c4 c5, rfl, qq⟩⟩
    · refine thnF (T.item (X.blk s3 H3 scope ce fp) rfl rfl rfl i [] s5 _ H5 (fun _ _ => False) I5 hot5 (own_ I5 n5) st5 go) fun r s6 ⟨u, hr, h6⟩ => ?_
      subst hr
      refine thnF h6 fun _ s7 ⟨x, H7, I7, r7, y7, st7, n7⟩ => ?_
      refine thnF (pg.run _ s7 _ H7 x u _ (I7.pinned (own_ I7 n7) (T.obj _ _ st7)) r7 (step x H7 y7)) fun _ s8 ⟨σ8, H8, I8, hw8, q8⟩ => ?_
      refine thnF (pt.run _ s8 σ8 H8 _ I8 q8) fun b s9 ⟨H9, I9, q9⟩ => ?_
      have next : ∀ {s' : Shared} {H' : Hp}, L2.Inv (X.blk s3 H3 scope ce fp) ([] ++ pinsAt fp s7.heap) σ8 H' s' → Nx H' → ∃ m, m < n ∧ ∃ i H', L2.Inv (X.blk s3 H3 scope ce fp) [] (wipe σ (own.map (·.2))) H' s' ∧ tn i s'.heap ∧ (∀ b ∈ fp, H' b = none) ∧ W i m H' := fun {s' H'} I' nx => by
        obtain ⟨m', hm, w'⟩ := hNx H' nx
        have stay : ∀ b ∈ fp, ∀ o, s7.heap.get? b = some o → s'.heap.get? b = some o ∧ H' b = none := fun b hb o e => by
          have z := I'.pin (b, o) (List.mem_append_right _ (List.mem_append_right _ (mem_pinsAt hb e)))
          exact ⟨z.1, z.2.1⟩
        refine ⟨m', hm, i + 1, H', (I'.unpinned (pins := [])).weak (by rw [← hw8, wipe_length]) (fun j v e => ?_), T.keep _ _ _ st7 fun b hb o e => (stay b hb o e).1, fun b hb => ?_, w'⟩
        · rw [← hw8] at e
          exact (wipe_some e).1
        · obtain ⟨o, e, _⟩ := T.obj _ _ st7 b hb
          exact (stay b hb o e).2
      cases b with
      | false =>
        simp only [Bool.false_eq_true, if_false] at q9 ⊢
        exact next I9 q9
      | true =>
        simp only [if_true] at q9 ⊢
        refine thnF (pe.run _ s9 σ8 H9 _ I9 q9) fun z s10 ⟨yv, H10, I10, r10, acc, hD10, hz10, nx⟩ => ?_
        exact app_ok (X := X.blk s3 H3 scope ce fp) I10 hD10 hz10 r10 fun s11 I11 => next I11 nx
  exact codeAny_compStart_list loop (T.self X.A 0 _ _ _ st4 loop)
end LH

set_option Elab.async false
set_option linter.all false
set_option maxRecDepth 100000
set_option maxHeartbeats 4000000
/-! a def that is handed the error which is handled -/
namespace LH
open PySem PySem.Spec PyProof.Rows L2 L2H HotX
abbrev SpE := Addr → Value → Option Addr → Sp
structure FnE (P : Program) (w : World) (K : PySem.W.Frag) (mg : Str → Option Value) (base : Heap) (k : Nat) (f : Addr) (fd : FuncData) (ps : List Str) (sp : SpE) : Prop where
  len : ∀ a c d vs H Q E, sp a c d vs H Q E → vs.length = ps.length
  run : ∀ (A : Around) (outer : List Env) (s : Shared) (H : Hp) (us : List Value) (vs : List V) (Q : VK) (E : XK) (p : Addr × Obj) (c : Value) (d : Option Addr), RoomH k A → Hot1 A p → PinOk outer H s p → L2N.Zn c d p.2 → Env0 P w K mg base A outer s H → BindsTo s fd ⟨us, []⟩ (ps.zip us) → Vals vs us → sp p.1 c d vs H Q E →
    codeAny (model P w) A (.call (.ref f) ⟨us, []⟩) (CR CX0 outer P w H s Q E) s
section
variable {P : Program} {w : World} {K : PySem.W.Frag} {mg : Str → Option Value} {base : Heap}
theorem okE {x qual : Str} {params : Arguments} {body : List Stmt} {scope : Scope} {dvs : List V} {kws : List (Str × V)} {f : Addr} {fd : FuncData} {N ps : List Str} {k : Nat} {sp : SpE} (F : FunD K x qual params body scope [] [] f fd) (S : FnScope N ps scope) (len : ∀ a c d vs H Q E, sp a c d vs H Q E → vs.length = ps.length)
    (hb : ∀ (cdv : Value) (A : Around) (outer : List Env) (s : Shared) (H : Hp) (vs : List V) (Q : VK) (E : XK) (p : Addr × Obj) (c : Value) (d : Option Addr), Hot1 A p → L2N.Zn c d p.2 → RoomH k (A.deeper (envOfC qual scope s.heap.objs.size f cdv)) → sp p.1 c d vs H Q E →
      ∃ t, PSs (cxH CX0 P w K mg base N qual scope f cdv A outer s H E p) body t ∧ t { nx := fun _ H' => Q .non H', rt := Q } (L2.start N vs) H) : FnE P w K mg base (k + 1) f fd ps sp := by
  obtain ⟨oc, od, dV, kV, doc, pm, an, cdv, ct, osl, rfl, lk, hcd, _, _⟩ := F.ex
  refine ⟨len, fun A outer s H us vs Q E p c d hr hot hpin hz e0 hbd r hsp => ?_⟩
  have kin : K.In s.heap := e0.mod.kin.keeps fun b o e => (e0.bs b o e).1
  have lim : s.heap.NoLimit := e0.mod.nolimit.keeps fun b o e => (e0.bs b o e).1
  have kd : ∀ y ∈ ps.zip us, scope.names.lookup y.1 = some .local ∨ (scope.names.lookup y.1 = some .cell ∧ ((cellsFrom (s.heap.objs.size + 1) scope.names []).lookup y.1).isSome = true) := fun ⟨n, v⟩ hy =>
    (S.par n (List.of_mem_zip hy).1).elim (fun q => .inl q) fun q => .inr ⟨q, PySem.W.cellsFrom_some _ _ _ (.inl q)⟩
  refine codeAny_call_function hr.depth (kin _ _ lk) rfl S.co S.gen rfl (PySem.W.codeRec_of kin hcd) (hbd _ _ _ _ (wpAny_newFunctionEnv_cells S.kind kd fun env he s1 x => ?_))
  subst he
  obtain ⟨t, ht, hq⟩ := hb cdv A outer s H vs Q E p c d hot hz (hr.deeper _) hsp
  refine ⟨lim.keeps x.toInCall.keep, codeAny_func (wpAny_mono (ht.run [] s1 (L2.start N vs) H _ (inv_startH S hpin e0 (len _ _ _ _ _ _ _ hsp) r x) hq) (fun fl s' hs => ?_) fun e s' hs => hs)⟩
  cases fl with
  | ret u =>
    obtain ⟨v, σ', H', J, rv, q⟩ := hs
    exact ⟨v, H', J.os, J.bare, J.base, J.hok, rv, q⟩
  | next =>
    obtain ⟨σ', H', J, q⟩ := hs
    exact ⟨V.non, H', J.os, J.bare, J.base, J.hok, rfl, q⟩
  | brk =>
    obtain ⟨_, _, _, z⟩ := hs
    exact z.elim
  | cont =>
    obtain ⟨_, _, _, z⟩ := hs
    exact z.elim
structure OwnE (P : Program) (w : World) (K : PySem.W.Frag) (mg : Str → Option Value) (base : Heap) (x : Str) (ps : List Str) (k : Nat) (sp : SpE) : Prop where
  ex : ∃ (f : Addr) (fd : FuncData), FnE P w K mg base k f fd ps sp ∧ mg x = some (.ref f) ∧ PySem.W.keepIn K (.ref f) = true ∧ Binds K fd ps []
end
theorem zn_hot {c : Value} {d : Option Addr} {o : Obj} (hz : L2N.Zn c d o) (hf : ∃ vs, o.data = .fields vs) : ∃ vs : Array Value, o.data = .fields vs ∧ vs[2]? = some .none := by
  obtain ⟨vs, e⟩ := hf
  exact ⟨vs, e, hz.2.2 vs e⟩
/-- the call, in the suite -/
def tCallE (sp : SpE) (a : Addr) (c : Value) (d : Option Addr) (t : TA) : TE := fun σ H Q => t σ H fun vs H1 => sp a c d vs H1 Q E0
theorem pe_callE {Y : Cx} {a : Addr} {oe : Obj} {pn : List (Addr × Obj)} {c : Value} {d : Option Addr} {x : Str} {ps : List Str} {k : Nat} {sp : SpE} {e : Expr} {es : List Expr} {p pos : Pos} {t : TA} (C : OwnE Y.prog Y.w Y.K Y.mg Y.base x ps k sp) (hr : RoomH k (Y.suite a ((a, oe) :: pn)).A) (hz : L2N.Zn c d oe) (hf : ∃ vs, oe.data = .fields vs)
    (ha : PA (Y.suite a ((a, oe) :: pn)) (e :: es) t) (hg : Gl (Y.suite a ((a, oe) :: pn)) x := by rfl)
    (hdb : (x == ("__debug__" : Str)) = false := by decide) (he : starEach (e :: es) (Y.suite a ((a, oe) :: pn)).env = (false, eval e (Y.suite a ((a, oe) :: pn)).env) :: starEach es (Y.suite a ((a, oe) :: pn)).env := by rfl) (hpl : (backTo pos (starEach es (Y.suite a ((a, oe) :: pn)).env)).any (·.1) = false := by rfl) :
    PE (Y.suite a ((a, oe) :: pn)) (.Call (.Name x p) (e :: es) [] pos) (tCallE sp a c d t) := by
  obtain ⟨f, fd, F, hm, hk, hb⟩ := C.ex
  refine ⟨fun pins s σ H Q I h => wpAny_Call_Name_kw (ld_glob I hg hm ?_ hdb)⟩
  refine PySem.W.callWith_K (h₀ := Y.base) I.ok.mod.kin hk (thn (ha.run pos pins s σ H _ I h) fun us s1 ⟨vs, H1, I1, r, q⟩ => ⟨I1.kIn, ?_⟩) he hpl
  have hl : us.length = ps.length := by rw [← r.length]; exact F.len _ _ _ _ _ _ _ q
  have b := hb s1 us I1.kIn (by rw [List.append_nil]; exact hl)
  rw [List.append_nil] at b
  obtain ⟨g1, g2, g3, g4, g5⟩ := I1.pin (a, oe) (List.mem_append_left _ List.mem_cons_self)
  refine wpAny_call (codeAny_mono (F.run _ _ s1 H1 us vs Q E0 (a, oe) c d hr ⟨rfl, zn_hot hz hf⟩ ⟨g1, g2, fun hm => (List.mem_cons.mp (I1.stkSub a hm)).elim g3 g4, g5⟩ hz I1.env0 b r q) fun r s' hq => ?_)
  match r, hq with
  | .error _, hq => exact hq.elim
  | .ok (.ret u), hq => exact I1.after hq
  | .ok .next, hq => exact hq.elim
  | .ok .brk, hq => exact hq.elim
  | .ok .cont, hq => exact hq.elim
/-- isinstance(e, c) of the pinned error -/
theorem isP {X : Cx} {p : Addr × Obj} {D : Addr} (K : PySem.W.Frag) (hp : p ∈ X.pn) (C : ExcC X.K D) (hz : L2N.Zn (.ref D) none p.2) (hf : ∃ vs, p.2.data = .fields vs) (hK : X.K = K := by rfl) : CallR X (.builtin "isinstance") (rIsE K D p.1) := by
  subst hK
  intro pins s σ H xs us Q I r ⟨c, cv, b, ex, hcv, e, q⟩
  subst ex
  cases r with
  | cons rx rr =>
    cases rr with
    | cons rt rr =>
      cases rr
      cases rx
      obtain rfl := hcv _ rt
      obtain ⟨hget, _⟩ := I.pin p (List.mem_append_left _ hp)
      obtain ⟨vs, hv⟩ := hf
      have J : PySem.W.InstAt s.heap p.1 p.2 D none := by
        obtain ⟨pa, oc, od, oda, osl⟩ := p
        obtain ⟨h1, h2, _⟩ := hz
        dsimp only at h1 h2 hv hget
        subst h1 h2 hv
        exact ⟨hget, rfl, rfl, trivial⟩
      exact PySem.W.kia_one (PySem.W.handS_kitx_exc C.hg C.hk C.hs C.hd C.ha C.hn C.ht C.hm) I.kIn J e (fun z => nomatch z) fun tk => ⟨.bl b, H, I.kept (t' := tk) fun _ _ z => z, rfl, q⟩
theorem takesN {X : Cx} : L2N.Takes X (fun _ _ _ _ => False) := fun _ _ x => by
  obtain ⟨_, _, _, _, _, _, _, _, _, _, _, _, _, _, _, _, z⟩ := x
  exact z.elim
/-- the handled error in such a def's own context -/
theorem hotH {CX : CXT} {P : Program} {w : World} {K : PySem.W.Frag} {mg : Str → Option Value} {base : Heap} {N : List Str} {qual : Str} {scope : Scope} {f : Addr} {cd : Value} {A : Around} {outer : List Env} {s : Shared} {H : Hp} {E : XK} {p : Addr × Obj} (hot : Hot1 A p) : HotC2 (cxH CX P w K mg base N qual scope f cd A outer s H E p) p.1 p.2 where
  hh := hot.1
  fl := hot.2
  at_ := fun pins σ H' s' I => by
    obtain ⟨g1, g2, g3, g4, g5⟩ := I.pin p (List.mem_append_left _ (List.mem_singleton.mpr rfl))
    exact ⟨g1, g2, fun hm => (List.mem_cons.mp (I.stkSub p.1 hm)).elim g3 g4⟩
/-! the errors' classes -/
def kinNames : List Str := ["BadDay", "BadCount", "BadTie", "CantBe", "BadRow", "BadName", "Taken", "Full", "Twice", "GivenUp", "Held", "Idle", "Against", "BadText", "NoLife", "NoHolding", "NoPresentment", "NoPlace", "Nothing"]
def leBase : List Value := [.type "LookupError", .type "Exception", .type "BaseException", .type "object"]
def upOf (look : Bool) : Str := if look then "Missing" else "HoldError"
structure ErrF (K : PySem.W.Frag) (D : Str) (look : Bool) : Prop where
  exc : ExcC K (He.ga K D)
  kin : ∀ c ∈ kinNames, PySem.W.kitOne K (.ref (He.ga K D)) (.ref (He.ga K c)) = some (decide (c = D))
  ve : PySem.W.kitOne K (.ref (He.ga K D)) (.type "ValueError") = some (!look)
  le : PySem.W.kitOne K (.ref (He.ga K D)) (.type "LookupError") = some look
  nw : PySem.W.excIn K (He.ga K D) (if look then leBase else He.veBase) (if look then "LookupError.__new__" else "ValueError.__new__") = true
  kp : PySem.W.keepIn K (.ref (He.ga K D)) = true
  bs : PySem.W.subIn K (.ref (He.ga K D)) (.type "BaseException") = some true
  ty : PySem.W.typeIn K (.ref (He.ga K D)) = some (.type "type")
  up : PySem.W.exmOne K (.ref (He.ga K D)) (.ref (He.ga K (upOf look))) = some true
  dn : PySem.W.exmOne K (.ref (He.ga K D)) (.ref (He.ga K (upOf (!look)))) = some false
def errB (K : PySem.W.Frag) (D : Str) (look : Bool) : Bool :=
  He.eqO (PySem.W.findIn K (.ref (He.ga K D)) "__getattribute__") (some (some (.builtin "BaseException.__getattribute__"))) &&
  (He.eqO (PySem.W.findIn K (.ref (He.ga K D)) "__getattr__") (some none) &&
  (decide (PySem.W.subIn K (.ref (He.ga K D)) (.type "BaseException") = some true) &&
  (PySem.W.hasDictIn K (He.ga K D) &&
  (He.eqO (PySem.W.findIn K (.ref (He.ga K D)) "__class__") (some (some (.builtin "object.__class__"))) &&
  (He.eqO (PySem.W.specialIn K (.builtin "object.__class__") "__get__") (some (some (.builtin "getset_descriptor.__get__"))) &&
  (decide (PySem.W.takesIn K (.builtin "object.__class__") = some true) &&
  (decide (PySem.W.mroIn K (He.ga K D) (.type "object") = some true) &&
  (kinNames.all (fun c => decide (PySem.W.kitOne K (.ref (He.ga K D)) (.ref (He.ga K c)) = some (decide (c = D)))) &&
  (decide (PySem.W.kitOne K (.ref (He.ga K D)) (.type "ValueError") = some (!look)) &&
  (decide (PySem.W.kitOne K (.ref (He.ga K D)) (.type "LookupError") = some look) &&
  (PySem.W.excIn K (He.ga K D) (if look then leBase else He.veBase) (if look then "LookupError.__new__" else "ValueError.__new__") &&
  (PySem.W.keepIn K (.ref (He.ga K D)) &&
  (decide (PySem.W.typeIn K (.ref (He.ga K D)) = some (.type "type")) &&
  (decide (PySem.W.exmOne K (.ref (He.ga K D)) (.ref (He.ga K (upOf look))) = some true) &&
  decide (PySem.W.exmOne K (.ref (He.ga K D)) (.ref (He.ga K (upOf (!look)))) = some false)))))))))))))))
theorem errB_ok {K : PySem.W.Frag} {D : Str} {look : Bool} (h : errB K D look = true) : ErrF K D look := by
  unfold errB at h
  obtain ⟨a1, h⟩ := He.ba h
  obtain ⟨a2, h⟩ := He.ba h
  obtain ⟨a3, h⟩ := He.ba h
  obtain ⟨a4, h⟩ := He.ba h
  obtain ⟨a5, h⟩ := He.ba h
  obtain ⟨a6, h⟩ := He.ba h
  obtain ⟨a7, h⟩ := He.ba h
  obtain ⟨a8, h⟩ := He.ba h
  obtain ⟨a9, h⟩ := He.ba h
  obtain ⟨b1, h⟩ := He.ba h
  obtain ⟨b2, h⟩ := He.ba h
  obtain ⟨b3, h⟩ := He.ba h
  obtain ⟨b4, h⟩ := He.ba h
  obtain ⟨b5, h⟩ := He.ba h
  obtain ⟨b6, b7⟩ := He.ba h
  exact ⟨⟨He.eqO_ok a1, He.eqO_ok a2, of_decide_eq_true a3, a4, He.eqO_ok a5, He.eqO_ok a6, of_decide_eq_true a7, of_decide_eq_true a8⟩, fun c hc => of_decide_eq_true (List.all_eq_true.mp a9 c hc), of_decide_eq_true b1, of_decide_eq_true b2, b3, b4, of_decide_eq_true a3, of_decide_eq_true b5, of_decide_eq_true b6, of_decide_eq_true b7⟩
/-- what raising alone asks -/
structure ErrW (K : PySem.W.Frag) (D : Str) (look : Bool) : Prop where
  nw : PySem.W.excIn K (He.ga K D) (if look then leBase else He.veBase) (if look then "LookupError.__new__" else "ValueError.__new__") = true
  kp : PySem.W.keepIn K (.ref (He.ga K D)) = true
  bs : PySem.W.subIn K (.ref (He.ga K D)) (.type "BaseException") = some true
  ty : PySem.W.typeIn K (.ref (He.ga K D)) = some (.type "type")
def errWB (K : PySem.W.Frag) (D : Str) (look : Bool) : Bool :=
  PySem.W.excIn K (He.ga K D) (if look then leBase else He.veBase) (if look then "LookupError.__new__" else "ValueError.__new__") &&
  (PySem.W.keepIn K (.ref (He.ga K D)) &&
  (decide (PySem.W.subIn K (.ref (He.ga K D)) (.type "BaseException") = some true) &&
  decide (PySem.W.typeIn K (.ref (He.ga K D)) = some (.type "type"))))
theorem errWB_ok {K : PySem.W.Frag} {D : Str} {look : Bool} (h : errWB K D look = true) : ErrW K D look := by
  unfold errWB at h
  obtain ⟨a1, h⟩ := He.ba h
  obtain ⟨a2, h⟩ := He.ba h
  obtain ⟨a3, a4⟩ := He.ba h
  exact ⟨a1, a2, of_decide_eq_true a3, of_decide_eq_true a4⟩
theorem ErrF.w {K : PySem.W.Frag} {D : Str} {look : Bool} (h : ErrF K D look) : ErrW K D look := ⟨h.nw, h.kp, h.bs, h.ty⟩
/-- a raising def, by its name -/
structure OwnX (P : Program) (w : World) (K : PySem.W.Frag) (mg : Str → Option Value) (base : Heap) (x : Str) (ps : List Str) (k : Nat) (sp : Sp) : Prop where
  ex : ∃ (f : Addr) (fd : FuncData), FnOk P w K mg base (L2N.CX P w) k f fd ps sp ∧ mg x = some (.ref f) ∧ PySem.W.keepIn K (.ref f) = true ∧ Binds K fd ps []
theorem pe_ownX {X : Cx} {W : WX} {x : Str} {ps : List Str} {k : Nat} {sp : Sp} {e : Expr} {es : List Expr} {p pos : Pos} {t : TA} (C : OwnX X.prog X.w X.K X.mg X.base x ps k sp) (hr : Room k X.A) (tk : L2N.Takes X W) (ha : PA X (e :: es) t) (hg : Gl X x := by rfl)
    (hdb : (x == ("__debug__" : Str)) = false := by decide) (he : starEach (e :: es) X.env = (false, eval e X.env) :: starEach es X.env := by rfl) (hpl : (backTo pos (starEach es X.env)).any (·.1) = false := by rfl) :
    PE X (.Call (.Name x p) (e :: es) [] pos) (tCallS sp (WE W) t) := by
  obtain ⟨f, fd, F, hm, hk, hb⟩ := C.ex
  exact pe_callS F hr hg hm hk hb (fun σ => L2N.passAt tk σ) ha hdb he hpl
theorem rise {X : Cx} {D : Str} {look : Bool} {m : Str} {j : Nat} {p p2 pos rp : Pos} {W : WX} (err : ErrW X.K D look) (gD : X.mg D = some (.ref (He.ga X.K D))) (hc : X.calm = true) (tk : L2N.Takes X W) (hg : Gl X D := by rfl) (hdb : (D == ("__debug__" : Str)) = false := by decide) :
    PS X (.Raise (some (.Call (.Name D p) [.Constant (.str m) j p2] [] pos)) none rp) (fun _ σ H => W (.ref (He.ga X.K D)) none σ H) := by
  cases look with
  | true => exact L2N.ps_raise hc tk (L2N.pmk_own PySem.F.excBase_LookupError err.nw gD err.kp (raises_own err.bs err.ty) hg hdb)
  | false => exact L2N.ps_raise hc tk (L2N.pmk_own PySem.F.excBase_ValueError err.nw gD err.kp (raises_own err.bs err.ty) hg hdb)
theorem roomS {k : Nat} {X : Cx} {a : Addr} {pn : List (Addr × Obj)} (hr : Room k X.A) : RoomH k (X.suite a pn).A := ⟨hr.dp, hr.un⟩
theorem is_ref {C : Addr} : ∀ u, RelV (V.ref C) u → u = .ref C := fun _ h => h
theorem is_ty {T : String} : ∀ u, RelV (V.ty T) u → u = .type T := fun _ h => h
def kinW : List Str := kinNames ++ [("odd" : Str)]
def kinF (D : Str) : List Bool := kinNames.map (fun c => decide (c = D)) ++ [false]
theorem kin_end {D : Str} (h : D ∈ kinNames) : (((kinW.zip (kinF D)).filter fun q => q.2).map fun q => q.1) = [D] := by
  simp only [kinNames, List.mem_cons, List.not_mem_nil, or_false] at h
  rcases h with rfl | rfl | rfl | rfl | rfl | rfl | rfl | rfl | rfl | rfl | rfl | rfl | rfl | rfl | rfl | rfl | rfl | rfl | rfl <;> decide +kernel
theorem kin_join {D : Str} (h : D ∈ kinNames) : Txt.join "" [D] = D ∧ D.length ≤ 100 := by
  simp only [kinNames, List.mem_cons, List.not_mem_nil, or_false] at h
  rcases h with rfl | rfl | rfl | rfl | rfl | rfl | rfl | rfl | rfl | rfl | rfl | rfl | rfl | rfl | rfl | rfl | rfl | rfl | rfl <;> decide +kernel
theorem pe_cls {X : Cx} {x : Str} {C : Addr} {pos : Pos} (h : X.mg x = some (.ref C)) (hg : Gl X x := by rfl) (hd : (x == ("__debug__" : Str)) = false := by decide) : PE X (.Name x pos) (tC (.ref C)) := pe_glob (v := .ref C) hg h rfl hd
end LH

set_option Elab.async false
set_option linter.all false
set_option maxRecDepth 100000
set_option maxHeartbeats 4000000
namespace LH
open PySem PySem.Spec PyProof.Rows L2
/-! ties -/
abbrev Tie := Int × Int × Int
def TieAt (H : Hp) (v : V) (t : Tie) : Prop := ∃ p, v = .ref p ∧ H p = some (.tup [.int t.1, .int t.2.1, .int t.2.2])
def TiesAt (H : Hp) : List V → List Tie → Prop
  | [], [] => True
  | v :: vs, t :: ts => TieAt H v t ∧ TiesAt H vs ts
  | _, _ => False
theorem TieAt.mono {H H' : Hp} {v : V} {t : Tie} (e : Same H H') (h : TieAt H v t) : TieAt H' v t := by
  obtain ⟨p, h1, h2⟩ := h
  exact ⟨p, h1, e _ _ h2⟩
theorem TiesAt.mono {H H' : Hp} (e : Same H H') : ∀ {vs : List V} {ts : List Tie}, TiesAt H vs ts → TiesAt H' vs ts
  | [], [], _ => trivial
  | _ :: _, _ :: _, h => ⟨h.1.mono e, TiesAt.mono e h.2⟩
theorem TiesAt.updL {H : Hp} {l : Addr} {o : HO} {zs : List V} (hl : H l = some (.lst zs)) : ∀ {vs : List V} {ts : List Tie}, TiesAt H vs ts → TiesAt (upd H l o) vs ts
  | [], [], _ => trivial
  | _ :: _, _ :: _, h => by
    obtain ⟨⟨p, h1, h2⟩, h3⟩ := h
    exact ⟨⟨p, h1, by rw [upd_ne (ne_of h2 hl (by intro z; cases z))]; exact h2⟩, TiesAt.updL hl h3⟩
theorem TiesAt.length {H : Hp} : ∀ {vs : List V} {ts : List Tie}, TiesAt H vs ts → vs.length = ts.length
  | [], [], _ => rfl
  | _ :: _, _ :: _, h => by simp [TiesAt.length h.2]
theorem TiesAt.app {H : Hp} : ∀ {vs ws : List V} {ts us : List Tie}, TiesAt H vs ts → TiesAt H ws us → TiesAt H (vs ++ ws) (ts ++ us)
  | [], _, [], _, _, h2 => h2
  | _ :: _, _, _ :: _, _, h, h2 => ⟨h.1, TiesAt.app h.2 h2⟩
theorem TiesAt.get {H : Hp} : ∀ {vs : List V} {ts : List Tie} {i : Nat} {v : V}, TiesAt H vs ts → vs[i]? = some v → ∃ t, ts[i]? = some t ∧ TieAt H v t
  | [], [], i, v, _, h2 => by simp at h2
  | v :: vs, t :: ts, 0, w, h, h2 => by
    have e : v = w := Option.some.inj h2
    subst e
    exact ⟨t, rfl, h.1⟩
  | v :: vs, t :: ts, i + 1, w, h, h2 => TiesAt.get (i := i) h.2 h2
theorem TiesAt.get' {H : Hp} {vs : List V} {ts : List Tie} {i : Nat} {t : Tie} (h : TiesAt H vs ts) (h2 : ts[i]? = some t) : ∃ v, vs[i]? = some v ∧ TieAt H v t := by
  have hi : i < vs.length := by
    rw [h.length]
    exact (List.getElem?_eq_some_iff.mp h2).1
  obtain ⟨t', e, q⟩ := h.get (List.getElem?_eq_getElem hi)
  rw [h2] at e
  cases e
  exact ⟨_, List.getElem?_eq_getElem hi, q⟩
theorem TiesAt.set {H : Hp} : ∀ {vs : List V} {ts : List Tie} {i : Nat} {v : V} {t : Tie}, TiesAt H vs ts → TieAt H v t → TiesAt H (vs.set i v) (ts.set i t)
  | [], [], _, _, _, _, _ => trivial
  | _ :: _, _ :: _, 0, _, _, h, h2 => ⟨h2, h.2⟩
  | _ :: _, _ :: _, i + 1, _, _, h, h2 => ⟨h.1, TiesAt.set (i := i) h.2 h2⟩
theorem TiesAt.take {H : Hp} : ∀ {vs : List V} {ts : List Tie} (n : Nat), TiesAt H vs ts → TiesAt H (vs.take n) (ts.take n)
  | [], [], n, _ => by simp [TiesAt]
  | _ :: _, _ :: _, 0, _ => trivial
  | _ :: _, _ :: _, n + 1, h => ⟨h.1, TiesAt.take n h.2⟩
theorem TiesAt.drop {H : Hp} : ∀ {vs : List V} {ts : List Tie} (n : Nat), TiesAt H vs ts → TiesAt H (vs.drop n) (ts.drop n)
  | [], [], n, _ => by simp [TiesAt]
  | _ :: _, _ :: _, 0, h => h
  | _ :: _, _ :: _, n + 1, h => TiesAt.drop n h.2
theorem TiesAt.rep {H : Hp} {vs : List V} {ts : List Tie} (h : TiesAt H vs ts) : ∀ n : Nat, TiesAt H (List.replicate n vs).flatten (List.replicate n ts).flatten
  | 0 => trivial
  | n + 1 => by
    rw [List.replicate_succ, List.replicate_succ, List.flatten_cons, List.flatten_cons]
    exact h.app (TiesAt.rep h n)
/-- a tie for so many lives -/
def TieOk (many : Int) (t : Tie) : Prop := -1 ≤ t.1 ∧ t.1 < many ∧ -1 ≤ t.2.1 ∧ t.2.1 < many ∧ t.1 ≠ t.2.1 ∧ -9999 ≤ t.2.2 ∧ t.2.2 ≤ 9999
instance (many : Int) (t : Tie) : Decidable (TieOk many t) := by unfold TieOk; infer_instance
/-- two ways -/
def Ways (c A B : Prop) : Prop := (c → A) ∧ (¬ c → B)
theorem Ways.yes {c A B : Prop} (h : c) (a : A) : Ways c A B := ⟨fun _ => a, fun z => absurd h z⟩
theorem Ways.no {c A B : Prop} (h : ¬ c) (b : B) : Ways c A B := ⟨fun z => absurd z h, fun _ => b⟩
theorem Ways.or {c A B : Prop} (a : c → A) (b : ¬ c → B) : Ways c A B := ⟨a, b⟩
def CountOk (m : Int) : Prop := 1 ≤ m ∧ m ≤ 10
instance (m : Int) : Decidable (CountOk m) := by unfold CountOk; infer_instance
def TiesOk (m : Int) (ts : List Tie) : Prop := ts.length ≤ 80 ∧ ∀ t ∈ ts, TieOk m t
instance (m : Int) (ts : List Tie) : Decidable (TiesOk m ts) := by unfold TiesOk; infer_instance
def dayOf (ds : List Int) (o : Int) : Int := if o < 0 then 0 else ds.getD o.toNat 0
def KeptW (ds : List Int) (t : Tie) : Prop := t.2.2 ≤ dayOf ds t.1 - dayOf ds t.2.1
instance (ds : List Int) (t : Tie) : Decidable (KeptW ds t) := by unfold KeptW; infer_instance
theorem dayOf_neg {ds : List Int} {o : Int} (h : o < 0) : dayOf ds o = 0 := if_pos h
theorem dayOf_get {ds : List Int} {o z : Int} (h : ¬ o < 0) (e : ds[o.toNat]? = some z) : dayOf ds o = z := by
  unfold dayOf
  rw [if_neg h, List.getD_eq_getElem?_getD, e]
  rfl
theorem at_ints {ds : List Int} {o : Int} (h : ¬ o < 0) (h2 : o < ds.length) : atI (ds.map V.int) o = some (V.int (dayOf ds o)) := by
  obtain ⟨z, e⟩ : ∃ z, ds[o.toNat]? = some z := ⟨_, List.getElem?_eq_getElem (by omega)⟩
  refine at_of (j := o.toNat) (by omega) ?_
  rw [List.getElem?_map, e, dayOf_get h e]
  rfl
/-! data -/
def tieD (t : Tie) : PyData := .tuple [.int t.1, .int t.2.1, .int t.2.2]
def tiesD (ts : List Tie) : PyData := .list (ts.map tieD)
def intsD (ns : List Int) : PyData := .list (ns.map PyData.int)
theorem dpAll_ints {K : PySem.W.Frag} {H : Hp} : ∀ ns : List Int, DpAll K H (ns.map V.int) (ns.map PyData.int)
  | [] => .nil
  | n :: ns => .cons (.int n) (dpAll_ints ns)
theorem dp_ints {K : PySem.W.Frag} {H : Hp} {a : Addr} {ns : List Int} (h : SqL K H a (ns.map V.int)) : Dp K H (.ref a) (intsD ns) := .lst h (dpAll_ints ns)
theorem dp_tie {K : PySem.W.Frag} {H : Hp} {v : V} {t : Tie} (h : TieAt H v t) : Dp K H v (tieD t) := by
  obtain ⟨p, rfl, h2⟩ := h
  exact .tup (SqT.of h2) (.cons (.int _) (.cons (.int _) (.cons (.int _) .nil)))
theorem dpAll_ties {K : PySem.W.Frag} {H : Hp} : ∀ {vs : List V} {ts : List Tie}, TiesAt H vs ts → DpAll K H vs (ts.map tieD)
  | [], [], _ => .nil
  | _ :: _, _ :: _, h => .cons (dp_tie h.1) (dpAll_ties h.2)
theorem dp_ties {K : PySem.W.Frag} {H : Hp} {a : Addr} {vs : List V} {ts : List Tie} (h : SqL K H a vs) (h2 : TiesAt H vs ts) : Dp K H (.ref a) (tiesD ts) := .lst h (dpAll_ties h2)
theorem lay_ints : ∀ ns : List Int, PyData.canLayAll0 (ns.map PyData.int) = true ∧ PyData.depthAll (ns.map PyData.int) = 0
  | [] => ⟨rfl, rfl⟩
  | n :: ns => by
    obtain ⟨h1, h2⟩ := lay_ints ns
    constructor
    · simp [PyData.canLayAll0, PyData.canLay0, h1]
    · simp [PyData.depthAll, PyData.depth, h2]
theorem lay_ties : ∀ ts : List Tie, PyData.canLayAll0 (ts.map tieD) = true ∧ PyData.depthAll (ts.map tieD) ≤ 1
  | [] => ⟨rfl, Nat.zero_le _⟩
  | n :: ns => by
    obtain ⟨h1, h2⟩ := lay_ties ns
    constructor
    · simp [PyData.canLayAll0, PyData.canLay0, h1, tieD]
    · simp [PyData.depthAll, PyData.depth, tieD]
      omega
theorem shaped_ints (ns : List Int) : SeqAt.shaped (intsD ns) = true := by
  obtain ⟨h1, h2⟩ := lay_ints ns
  simp [SeqAt.shaped, intsD, PyData.canLay0, PyData.depth, h1, h2]
theorem shaped_ties (ts : List Tie) : SeqAt.shaped (tiesD ts) = true := by
  obtain ⟨h1, h2⟩ := lay_ties ts
  simp [SeqAt.shaped, tiesD, PyData.canLay0, PyData.depth, h1]
  omega
theorem eqv_self {d : PyData} (h : SeqAt.shaped d = true) : PyData.eqv d d = true := SeqAt.eqv_refl d (SeqAt.canLay_of_shaped h)
theorem eqv_ints_nil (ns : List Int) : PyData.eqv (intsD ns) (.list []) = decide (ns = []) := by
  cases ns with
  | nil => rfl
  | cons n ns => simp [intsD, PyData.eqv, PyData.eqvAll]
theorem eqv_ties_nil (ts : List Tie) : PyData.eqv (tiesD ts) (.list []) = decide (ts = []) := by
  cases ts with
  | nil => rfl
  | cons n ns => simp [tiesD, PyData.eqv, PyData.eqvAll]
theorem dp_nil {K : PySem.W.Frag} {H : Hp} {a : Addr} (h : H a = some (.lst [])) : Dp K H (.ref a) (.list []) := .lst (SqL.of h) .nil
/-! isinstance -/
def tyN : PyData → String
  | .none => "NoneType" | .bool _ => "bool" | .int _ => "int" | .str _ => "str" | .list _ => "list" | .tuple _ => "tuple" | .dict _ => "dict"
theorem tyX_of {K : PySem.W.Frag} {H : Hp} {v : V} {d : PyData} (h : Dp K H v d) : TyX K H v (.type (tyN d)) := by
  cases h with
  | non => exact .base .non
  | bl b => exact .base (.bl b)
  | int i => exact .base (.int i)
  | str x => exact .base (.str x)
  | lst h _ =>
    rcases h with (h | ⟨o, h⟩) | ⟨o, its, n, h1, h2, _⟩
    · exact .base (.lst h)
    · exact .base (.frz h)
    · exact .kList h1 h2
  | tup h _ =>
    rcases h with (h | ⟨o, h⟩) | ⟨o, its, n, h1, h2, _⟩
    · exact .base (.tup h)
    · exact .fTuple h
    · exact .kTuple h1 h2
def isI (d : PyData) (c : String) : Bool := (kitB (tyN d) c).getD false
theorem kit_is {K : PySem.W.Frag} (d : PyData) {c : String} (hc : c = "list" ∨ c = "tuple" ∨ c = "bool" ∨ c = "int" ∨ c = "str") : PySem.W.kitOne K (.type (tyN d)) (.type c) = some (isI d c) := by
  refine kit_ty ?_
  unfold isI
  rcases hc with rfl | rfl | rfl | rfl | rfl <;> cases d <;> simp only [tyN] <;> decide +kernel
mutual
theorem dp_mono {K : PySem.W.Frag} {H H' : Hp} (e : Same H H') : ∀ (d : PyData) (v : V), Dp K H v d → Dp K H' v d
  | .none, _, h => by cases h; exact .non
  | .bool b, _, h => by cases h; exact .bl b
  | .int i, _, h => by cases h; exact .int i
  | .str x, _, h => by cases h; exact .str x
  | .list ds, _, h => by
    cases h with
    | lst h q => exact .lst (e.seq h) (dp_monoAll e ds _ q)
  | .tuple ds, _, h => by
    cases h with
    | tup h q => exact .tup (same_t e h) (dp_monoAll e ds _ q)
  | .dict _, _, h => by cases h
theorem dp_monoAll {K : PySem.W.Frag} {H H' : Hp} (e : Same H H') : ∀ (ds : List PyData) (vs : List V), DpAll K H vs ds → DpAll K H' vs ds
  | [], _, h => by cases h; exact .nil
  | d :: ds, _, h => by
    cases h with
    | cons h q => exact .cons (dp_mono e d _ h) (dp_monoAll e ds _ q)
end
theorem dpAll_get {K : PySem.W.Frag} {H : Hp} : ∀ {vs : List V} {ds : List PyData} {i : Nat} {v : V}, DpAll K H vs ds → vs[i]? = some v → ∃ d, ds[i]? = some d ∧ Dp K H v d
  | [], _, i, v, h, h2 => by simp at h2
  | w :: vs, _, 0, v, h, h2 => by
    cases h with
    | cons h q =>
      have e : w = v := Option.some.inj h2
      subst e
      exact ⟨_, rfl, h⟩
  | w :: vs, _, i + 1, v, h, h2 => by
    cases h with
    | cons h q => exact dpAll_get (i := i) q h2
theorem dpAll_len {K : PySem.W.Frag} {H : Hp} : ∀ {vs : List V} {ds : List PyData}, DpAll K H vs ds → vs.length = ds.length
  | [], _, h => by cases h; rfl
  | w :: vs, _, h => by
    cases h with
    | cons h q => simp [dpAll_len q]
end LH
namespace LH
open PySem PySem.Spec PyProof.Rows L2
theorem iteD {c A B : Prop} [Decidable c] (hc : c) (h : A) : if decide c = true then A else B := by
  rw [decide_eq_true hc]
  exact iteT h
theorem iteDF {c A B : Prop} [Decidable c] (hc : ¬ c) (h : B) : if decide c = true then A else B := by
  rw [decide_eq_false hc]
  exact iteF h
theorem iteB {b : Bool} {A B : Prop} (hb : b = true) (h : A) : if b = true then A else B := by
  rw [hb]
  exact iteT h
theorem iteBF {b : Bool} {A B : Prop} (hb : b = false) (h : B) : if b = true then A else B := by
  rw [hb]
  exact iteF h
/-- zip of two tuples, walked -/
theorem walk_zipT {K : PySem.W.Frag} {a b : Addr} {xs ys : List V} {n : Nat} (hn : n = min xs.length ys.length) :
    Walk (RZ.ItzT K a b) n (fun H => SqT K H a xs ∧ SqT K H b ys) (YPair (fun i => xs[i]?) (fun i => ys[i]?)) := by
  subst hn
  constructor
  · intro i H hi q
    have h1 : i < xs.length := by omega
    have h2 : i < ys.length := by omega
    exact ⟨xs, ys, xs[i], ys[i], q.1, q.2, by simp [h1], by simp [h2]⟩
  · intro H q
    exact ⟨xs, ys, q.1, q.2, by omega⟩
  · intro i H v H' _ q y
    obtain ⟨T, x, z, h1, h2, h3, h4, h5⟩ := y
    exact ⟨T, x, z, h1, h2, h3, h4 xs q.1, h5 ys q.2⟩
theorem isI_list (d : PyData) : isI d "list" = (match d with | .list _ => true | _ => false) := by
  unfold isI
  cases d <;> simp only [tyN] <;> decide +kernel
theorem isI_tuple (d : PyData) : isI d "tuple" = (match d with | .tuple _ => true | _ => false) := by
  unfold isI
  cases d <;> simp only [tyN] <;> decide +kernel
theorem isI_bool (d : PyData) : isI d "bool" = (match d with | .bool _ => true | _ => false) := by
  unfold isI
  cases d <;> simp only [tyN] <;> decide +kernel
theorem isI_int (d : PyData) : isI d "int" = (match d with | .bool _ => true | .int _ => true | _ => false) := by
  unfold isI
  cases d <;> simp only [tyN] <;> decide +kernel
theorem depthAll_get : ∀ {ds : List PyData} {i : Nat} {d : PyData}, ds[i]? = some d → d.depth ≤ PyData.depthAll ds
  | [], i, d, h => by simp at h
  | e :: ds, 0, d, h => by
    have q : e = d := Option.some.inj h
    subst q
    simp only [PyData.depthAll]
    omega
  | e :: ds, i + 1, d, h => by
    have := depthAll_get (ds := ds) (i := i) (d := d) h
    simp only [PyData.depthAll]
    omega
theorem canLayAll_get : ∀ {ds : List PyData} {i : Nat} {d : PyData}, PyData.canLayAll0 ds = true → ds[i]? = some d → d.canLay0 = true
  | [], i, d, _, h => by simp at h
  | e :: ds, 0, d, h0, h => by
    have q : e = d := Option.some.inj h
    subst q
    simp only [PyData.canLayAll0, Bool.and_eq_true] at h0
    exact h0.1
  | e :: ds, i + 1, d, h0, h => by
    simp only [PyData.canLayAll0, Bool.and_eq_true] at h0
    exact canLayAll_get (ds := ds) (i := i) (d := d) h0.2 h
theorem shaped_mk {d : PyData} (h : d.canLay0 = true) (h2 : d.depth ≤ 64) : SeqAt.shaped d = true := by
  unfold SeqAt.shaped
  rw [h, decide_eq_true h2]
  rfl
mutual
/-- a bound on the lengths within -/
def sizeD : PyData → Nat
  | .list ds => ds.length + sizeAll ds
  | .tuple ds => ds.length + sizeAll ds
  | .none => 0
  | .bool _ => 0
  | .int _ => 0
  | .str _ => 0
  | .dict _ => 0
def sizeAll : List PyData → Nat
  | [] => 0
  | d :: ds => sizeD d + sizeAll ds
end
theorem sizeAll_get : ∀ {ds : List PyData} {i : Nat} {d : PyData}, ds[i]? = some d → sizeD d ≤ sizeAll ds
  | [], i, d, h => by simp at h
  | e :: ds, 0, d, h => by
    have q : e = d := Option.some.inj h
    subst q
    simp only [sizeAll]
    omega
  | e :: ds, i + 1, d, h => by
    have := sizeAll_get (ds := ds) (i := i) (d := d) h
    simp only [sizeAll]
    omega
/-- 0 if o < 0 else days[o] -/
theorem if_day {K : PySem.W.Frag} {ds : List Int} {a : Addr} {o : Int} {i j : Nat} {σ : L2.St} {H : Hp} {Q : VK} (hS : SqL K H a (ds.map V.int)) (hi : σ[i]? = some (some (.int o))) (hj : σ[j]? = some (some (.ref a))) (ho : o < ds.length) (q : Q (.int (dayOf ds o)) H) :
    tIf (tTest (tOp (rI0 fun i j => .bl (decide (i < j))) (tVar i) (tC (.int 0)))) (tC (.int 0)) (tOp (rIxL K) (tVar j) (tVar i)) σ H Q := by
  refine ⟨_, hi, _, _, rfl, rfl, _, rfl, ?_⟩
  refine ite2 (fun c => ?_) (fun c => ?_)
  · rw [dayOf_neg (of_decide_eq_true c)] at q
    exact q
  · exact ⟨_, hj, _, hi, a, _, o, _, rfl, rfl, hS, at_ints (fun z => c (decide_eq_true z)) ho, q⟩
/-- 0 if o == 0 else days[o - 1] -/
theorem if_day1 {K : PySem.W.Frag} {ds : List Int} {a : Addr} {o : Int} {i j : Nat} {σ : L2.St} {H : Hp} {Q : VK} (hS : SqL K H a (ds.map V.int)) (hi : σ[i]? = some (some (.int o))) (hj : σ[j]? = some (some (.ref a))) (h0 : 0 ≤ o) (ho : o ≤ ds.length) (q : Q (.int (dayOf ds (o - 1))) H) :
    tIf (tTest (tOp rEq (tVar i) (tC (.int 0)))) (tC (.int 0)) (tOp (rIxL K) (tVar j) (tOp (rI0 fun i j => .int (i - j)) (tVar i) (tC (.int 1)))) σ H Q := by
  refine ⟨_, hi, rfl, _, rfl, ?_⟩
  refine ite2 (fun c => ?_) (fun c => ?_)
  · have c : V.int o = V.int 0 := of_decide_eq_true c
    have c2 : o = 0 := by injection c
    rw [dayOf_neg (by omega)] at q
    exact q
  · have hne : o ≠ 0 := fun z => c (decide_eq_true (by rw [z]))
    exact ⟨_, hj, _, hi, _, _, rfl, rfl, a, _, _, _, rfl, rfl, hS, at_ints (by omega) (by omega), q⟩
/-! what is drawn -/
structure GreatAt (H H' : Hp) (p l d : Addr) (xs : List V) (ts : List Tie) (ds : List Int) (m bad most : Int) : Prop where
  same : Same H H'
  np : H p = none
  nl : H l = none
  nd : H d = none
  tup : H' p = some (.tup [.int m, .ref l, .ref d, .int bad])
  lst : H' l = some (.lst xs)
  ties : TiesAt H' xs ts
  days : H' d = some (.lst (ds.map V.int))
  m1 : 1 ≤ m
  m10 : m ≤ 10
  dl : (ds.length : Int) = m
  dr : ∀ x ∈ ds, 0 ≤ x ∧ x ≤ 9999
  ok : ∀ t ∈ ts, TieOk m t
  kept : ∀ t ∈ ts, KeptW ds t
  tl : (ts.length : Int) ≤ most
  b0 : 0 ≤ bad
  b4 : bad < 4
theorem flat_one {α : Type} (x : α) : ∀ n : Nat, (List.replicate n [x]).flatten = List.replicate n x
  | 0 => rfl
  | n + 1 => by
    rw [List.replicate_succ, List.flatten_cons, flat_one x n, List.replicate_succ]
    rfl
theorem dayOf_range {ds : List Int} (h : ∀ x ∈ ds, 0 ≤ x ∧ x ≤ 9999) (o : Int) : 0 ≤ dayOf ds o ∧ dayOf ds o ≤ 9999 := by
  unfold dayOf
  split
  · omega
  · rw [List.getD_eq_getElem?_getD]
    cases e : ds[o.toNat]? with
    | none => simp
    | some z => exact h z (List.mem_of_getElem? e)
theorem emod_wrap {x M : Int} (h0 : 0 ≤ x) (h1 : x < 2 * M) (hM : 0 < M) : x % M = if x < M then x else x - M := by
  split
  · exact Int.emod_eq_of_lt h0 (by assumption)
  · rw [← Int.sub_emod_right]
    exact Int.emod_eq_of_lt (by omega) (by omega)
theorem cut_ints (ds : List Int) (lo hi : Option Int) : ∃ es : List Int, cutV (ds.map V.int) lo hi = es.map V.int ∧ es.length ≤ ds.length := by
  have hl := cutV_length (ds.map V.int) lo hi
  unfold cutV at hl ⊢
  rw [← List.map_drop, ← List.map_take] at hl ⊢
  exact ⟨_, rfl, by simpa using hl⟩
theorem dp_int_tup {K : PySem.W.Frag} {H : Hp} {p : Addr} {x : Str} {i : Int} (h : H p = some (.tup [.str x, .int i])) : Dp K H (.ref p) (.tuple [.str x, .int i]) := .tup (SqT.of h) (.cons (.str _) (.cons (.int _) .nil))
/-! faults of ways -/
def badDay (ds : List Int) (i : Nat) : Bool := !decide (0 ≤ ds.getD i 0 ∧ ds.getD i 0 ≤ 9999)
def badTie (ts : List Tie) (ds : List Int) (i : Nat) : Bool := !decide (KeptW ds (ts.getD i (0, 0, 0)))
def wfDue (m : Int) (ts : List Tie) (ds : List Int) : Option (Str × Int) :=
  if (ds.length : Int) ≠ m then some ("many", (ds.length : Int)) else
    match (List.range ds.length).find? (badDay ds) with
    | some i => some ("day", (i : Int))
    | none => match (List.range ts.length).find? (badTie ts ds) with
      | some i => some ("tie", (i : Int))
      | none => none
def dueD : Option (Str × Int) → PyData
  | none => .none
  | some (x, i) => .tuple [.str x, .int i]
theorem find_first {p : Nat → Bool} {n i : Nat} (hi : i < n) (h : p i = true) (hb : ∀ j, j < i → p j = false) : (List.range n).find? p = some i := by
  rw [List.find?_range_eq_some]
  refine ⟨h, List.mem_range.mpr hi, fun j hj => by rw [hb j hj]; rfl⟩
theorem find_none {p : Nat → Bool} {n : Nat} (hb : ∀ j, j < n → p j = false) : (List.range n).find? p = none := by
  rw [List.find?_eq_none]
  intro j hj
  rw [hb j (List.mem_range.mp hj)]
  exact Bool.false_ne_true
theorem getD_of {α : Type} {l : List α} {i : Nat} {x d : α} (h : l[i]? = some x) : l.getD i d = x := by
  rw [List.getD_eq_getElem?_getD, h]
  rfl
/-- the places, told as ints -/
def places (p : Nat → Bool) (n : Nat) : List Int := ((List.range n).filter p).map fun (j : Nat) => (j : Int)
theorem places_succ (p : Nat → Bool) (n : Nat) : places p (n + 1) = if p n = true then places p n ++ [(n : Int)] else places p n := by
  unfold places
  rw [List.range_succ, List.filter_append]
  cases h : p n with
  | true => simp [h]
  | false => simp [h]
theorem places_len (p : Nat → Bool) (n : Nat) : (places p n).length ≤ n := by
  unfold places
  rw [List.length_map]
  have := List.length_filter_le p (List.range n)
  simpa using this
theorem places_head (p : Nat → Bool) (n : Nat) : (places p n).head? = ((List.range n).find? p).map fun (j : Nat) => (j : Int) := by
  unfold places
  rw [List.head?_map, List.head?_filter]
theorem at_head {ns : List Int} {z : Int} (h : ns.head? = some z) : atI (ns.map V.int) 0 = some (V.int z) := by
  cases ns with
  | nil => cases h
  | cons n ns =>
    have e : n = z := Option.some.inj h
    subst e
    exact at_of (j := 0) rfl rfl
theorem due_shape (m : Int) (ts : List Tie) (ds : List Int) : SeqAt.shaped (dueD (wfDue m ts ds)) = true ∧ (dueD (wfDue m ts ds)).depth ≤ 1 ∧ sizeD (dueD (wfDue m ts ds)) ≤ 10 := by
  have key : ∀ (x : Str) (i : Int), PyData.canLay0 (.str x) = true → SeqAt.shaped (dueD (some (x, i))) = true ∧ (dueD (some (x, i))).depth ≤ 1 ∧ sizeD (dueD (some (x, i))) ≤ 10 := fun x i hx => by
    refine ⟨shaped_mk ?_ ?_, ?_, ?_⟩
    · simp only [dueD, PyData.canLay0, PyData.canLayAll0] at hx ⊢
      rw [hx]
      rfl
    · simp [dueD, PyData.depth, PyData.depthAll]
    · simp [dueD, PyData.depth, PyData.depthAll]
    · simp [dueD, sizeD, sizeAll]
  unfold wfDue
  split
  · exact key _ _ (by decide +kernel)
  · split
    · exact key _ _ (by decide +kernel)
    · split
      · exact key _ _ (by decide +kernel)
      · exact ⟨rfl, Nat.zero_le _, Nat.zero_le _⟩
/-- lo <= x <= hi, as a test -/
theorem t_between {lo hi z : Int} {tb : TE} {σ : L2.St} {H : Hp} {Q : Bool → Hp → Prop} (hb : ∀ Q' : VK, Q' (.int z) H → tb σ H Q') (q : Q (decide (lo ≤ z ∧ z ≤ hi)) H) :
    tTest (tChain (rI0 fun i j => .bl (decide (i ≤ j))) (rI0 fun i j => .bl (decide (i ≤ j))) (tC (.int lo)) tb (tC (.int hi))) σ H Q := by
  refine hb _ ⟨_, _, rfl, rfl, _, rfl, ?_⟩
  refine ite2 (fun c => ?_) (fun c => ?_)
  · have c : lo ≤ z := of_decide_eq_true c
    refine ⟨_, _, rfl, rfl, _, rfl, ?_⟩
    have e : decide (lo ≤ z ∧ z ≤ hi) = decide (z ≤ hi) := by simp [c]
    rw [e] at q
    exact q
  · refine ⟨_, rfl, ?_⟩
    have e : decide (lo ≤ z ∧ z ≤ hi) = false := decide_eq_false fun z => c (decide_eq_true z.1)
    rw [e] at q
    exact q
theorem shaped2 {d e : PyData} (hd : SeqAt.shaped d = true) (he : SeqAt.shaped e = true) (h1 : d.depth ≤ 10) (h2 : e.depth ≤ 10) : SeqAt.shaped (.list [d, e]) = true := by
  refine shaped_mk ?_ ?_
  · simp [PyData.canLay0, PyData.canLayAll0, SeqAt.canLay_of_shaped hd, SeqAt.canLay_of_shaped he]
  · simp [PyData.depth, PyData.depthAll]
    omega
theorem depth_ints (ns : List Int) : (intsD ns).depth ≤ 1 := by
  have := (lay_ints ns).2
  simp [intsD, PyData.depth, this]
theorem depth_ties (ts : List Tie) : (tiesD ts).depth ≤ 2 := by
  have := (lay_ties ts).2
  simp [tiesD, PyData.depth]
  omega
theorem dp_pair {K : PySem.W.Frag} {H : Hp} {a : Addr} {u v : V} {d e : PyData} (h : H a = some (.lst [u, v])) (hd : Dp K H u d) (he : Dp K H v e) : Dp K H (.ref a) (.list [d, e]) := .lst (SqL.of h) (.cons hd (.cons he .nil))
theorem at_ints_nat {ds : List Int} {i : Nat} {z o : Int} (e : o = (i : Int)) (h : ds[i]? = some z) : atI (ds.map V.int) o = some (V.int z) := at_of (j := i) e (by rw [List.getElem?_map, h]; rfl)
end LH

set_option Elab.async false
set_option linter.all false
set_option maxRecDepth 100000
set_option maxHeartbeats 4000000
/-! own classes: made, asked, compared; defs that may raise, called where nothing may leave -/
namespace LH
open PySem PySem.Spec PyProof.Rows L2
theorem passX0 {X : Cx} : Passes (L2N.CX X.prog X.w) X E0 := fun _ _ _ _ _ _ _ c => by
  obtain ⟨_, _, _, _, _, _, _, _, _, _, _, _, z⟩ := c
  exact z.elim
section
variable {P : Program} {w : World} {K : PySem.W.Frag} {mg : Str → Option Value} {base : Heap}
/-- a class that may be made by its name; sp: its __init__, which may raise -/
structure MakX (P : Program) (w : World) (K : PySem.W.Frag) (mg : Str → Option Value) (base : Heap) (x : Str) (ps : List Str) (k : Nat) (sp : Sp) : Prop where
  ex : ∃ (f : Addr) (fd : FuncData), Mk K (He.ga K x) f ∧ FnOk P w K mg base (L2N.CX P w) k f fd ps sp ∧ mg x = some (.ref (He.ga K x)) ∧ Binds K fd ps []
/-- a method, which may raise -/
structure MetX (P : Program) (w : World) (K : PySem.W.Frag) (mg : Str → Option Value) (base : Heap) (x m : Str) (ps : List Str) (k : Nat) (sp : Sp) : Prop where
  ex : ∃ (f : Addr) (fd : FuncData), Cls K (He.ga K x) ∧ Meth K (He.ga K x) m f ∧ FnOk P w K mg base (L2N.CX P w) k f fd ps sp ∧ Binds K fd ps []
end
def tMakeS (C : Addr) (sp : Sp) (E : L2.St → XK) (t : TA) : TE := fun σ H Q => t σ H fun vs H1 => ∀ x dx, H1 x = none → H1 dx = none → dx ≠ x →
  sp (.ref x :: vs) (upd (upd H1 dx (.own x)) x (.ins C dx [])) (fun v H2 => v = .non ∧ Q (.ref x) H2) (E σ)
def tMethS (C : Addr) (m : Str) (sp : Sp) (E : L2.St → XK) (ta : TE) (t : TA) : TE := fun σ H Q => ta σ H fun x H1 => ∃ a dx fs, x = .ref a ∧ H1 a = some (.ins C dx fs) ∧ fs.lookup m = none ∧
  t σ H1 fun vs H2 => sp (x :: vs) H2 Q (E σ)
section
variable {X : Cx} (K : PySem.W.Frag)
/-- a def that may raise, where nothing may leave -/
theorem pe_ownN {x : Str} {ps : List Str} {k : Nat} {sp : Sp} {e : Expr} {es : List Expr} {p pos : Pos} {t : TA} (C : OwnX X.prog X.w X.K X.mg X.base x ps k sp) (hr : Room k X.A) (ha : PA X (e :: es) t) (hg : Gl X x := by rfl)
    (hdb : (x == ("__debug__" : Str)) = false := by decide) (he : starEach (e :: es) X.env = (false, eval e X.env) :: starEach es X.env := by rfl) (hpl : (backTo pos (starEach es X.env)).any (·.1) = false := by rfl) :
    PE X (.Call (.Name x p) (e :: es) [] pos) (tCall sp [] E0 t) := by
  obtain ⟨f, fd, F, hm, hk, hb⟩ := C.ex
  exact pe_call F hr hg hm hk hb .nil passX0 ha hdb he hpl
theorem pe_mkN {x : Str} {ps : List Str} {k : Nat} {sp : Sp} {e : Expr} {es : List Expr} {p pos : Pos} {t : TA} (C : MakX X.prog X.w X.K X.mg X.base x ps k sp) (hr : Room (k + 1) X.A) (ha : PA X (e :: es) t) (hK : X.K = K := by rfl) (hg : Gl X x := by rfl)
    (hdb : (x == ("__debug__" : Str)) = false := by decide) (he : starEach (e :: es) X.env = (false, eval e X.env) :: starEach es X.env := by rfl) (hpl : (backTo pos (starEach es X.env)).any (·.1) = false := by rfl) :
    PE X (.Call (.Name x p) (e :: es) [] pos) (tMake (He.ga K x) sp [] E0 t) := by
  subst hK
  obtain ⟨f, fd, M, F, hm, hb⟩ := C.ex
  exact pe_make M F hr hg hm hb .nil passX0 ha hdb he hpl
theorem pe_mkX {W : WX} {x : Str} {ps : List Str} {k : Nat} {sp : Sp} {e : Expr} {es : List Expr} {p pos : Pos} {t : TA} (C : MakX X.prog X.w X.K X.mg X.base x ps k sp) (hr : Room (k + 1) X.A) (tk : L2N.Takes X W) (ha : PA X (e :: es) t) (hK : X.K = K := by rfl) (hg : Gl X x := by rfl)
    (hdb : (x == ("__debug__" : Str)) = false := by decide) (he : starEach (e :: es) X.env = (false, eval e X.env) :: starEach es X.env := by rfl) (hpl : (backTo pos (starEach es X.env)).any (·.1) = false := by rfl) :
    PE X (.Call (.Name x p) (e :: es) [] pos) (tMakeS (He.ga K x) sp (WE W) t) := by
  subst hK
  obtain ⟨f, fd, M, F, hm, hb⟩ := C.ex
  refine ⟨fun pins s σ H Q I h => ?_⟩
  refine wpAny_Call_Name_kw (ld_glob I hg hm ?_ hdb)
  refine PySem.W.callWith_K (h₀ := X.base) I.ok.mod.kin M.kp (thn (ha.run pos pins s σ H _ I h) fun us s1 ⟨vs, H1, I1, r, q⟩ => ⟨I1.kIn, ?_⟩) he hpl
  have hq := q (s1.heap.objs.size + 1) s1.heap.objs.size (I1.hok.fresh (Nat.le_succ _)) (I1.hok.fresh (Nat.le_refl _)) (Nat.ne_of_lt (Nat.lt_succ_self _))
  have I2 := Inv.made (C := He.ga X.K x) I1
  have r2 : Vals (V.ref (s1.heap.objs.size + 1) :: vs) (Value.ref (s1.heap.objs.size + 1) :: us) := .cons rfl r
  have hl : (Value.ref (s1.heap.objs.size + 1) :: us ++ []).length = ps.length := by
    have e := r2.length
    rw [F.len _ _ _ _ hq] at e
    rw [List.append_nil]
    exact e.symm
  have b2 := hb { s1 with heap := (s1.heap.push PySem.W.emptyDict).push (PySem.W.instObj (He.ga X.K x) s1.heap.objs.size) } (Value.ref (s1.heap.objs.size + 1) :: us) I2.kIn hl
  rw [List.append_nil] at b2
  refine wpAny_call (make_map (f := f) I1.kIn M.makes M.init (beq_iff_eq.mp M.fn) (codeAny_mono (F.run _ X.stack _ _ ⟨Value.ref (s1.heap.objs.size + 1) :: us, []⟩ (Value.ref (s1.heap.objs.size + 1) :: us) _ _ (WE W σ) (hr.make (He.ga X.K x) us [])
    (I2.env0.make (He.ga X.K x) us []) b2 r2 hq) fun r s' hq' => ?_))
  cases r with
  | error e => exact L2N.passAt tk σ pins _ _ e s' I2 hq'
  | ok fl =>
    cases fl with
    | ret u =>
      obtain ⟨v, H', I3, rv, ev, q3⟩ := I2.after hq'
      subst ev
      exact ⟨rv, ⟨V.ref (s1.heap.objs.size + 1), H', I3, rfl, q3⟩⟩
    | next => exact False.elim hq'
    | brk => exact False.elim hq'
    | cont => exact False.elim hq'
theorem pe_mtN {pl : Sem Bool} {x m : Str} {ps : List Str} {k : Nat} {sp : Sp} {o e : Expr} {es : List Expr} {apos pos : Pos} {ta : TE} {t : TA} (C : MetX X.prog X.w X.K X.mg X.base x m ps k sp) (hr : Room k X.A) (ho : PE X o ta) (ha : PA X (e :: es) t) (hK : X.K = K := by rfl)
    (hst : starEach (e :: es) X.env = (false, eval e X.env) :: starEach es X.env := by rfl) (hpl : (backTo pos (starEach es X.env)).any (·.1) = false := by rfl)
    (ht : eval (.Call (.Attribute o m apos) (e :: es) [] pos) X.env = (do
      let ov ← eval o X.env
      standAt apos.atName
      let (f, first) ← holding [ov] (getMethod ov m pl)
      callWith pos f first (backTo pos (starEach (e :: es) X.env)) (backToKw pos (keywordEach [] X.env))) := by rfl) :
    PE X (.Call (.Attribute o m apos) (e :: es) [] pos) (tMeth (He.ga K x) m sp [] E0 ta t) := by
  subst hK
  obtain ⟨f, fd, hc, hm, F, hb⟩ := C.ex
  exact pe_meth (pl := pl) ho hc hm F hr hb .nil passX0 ha hst hpl ht
theorem pe_mtX {pl : Sem Bool} {W : WX} {x m : Str} {ps : List Str} {k : Nat} {sp : Sp} {o e : Expr} {es : List Expr} {apos pos : Pos} {ta : TE} {t : TA} (C : MetX X.prog X.w X.K X.mg X.base x m ps k sp) (hr : Room k X.A) (tk : L2N.Takes X W) (ho : PE X o ta) (ha : PA X (e :: es) t) (hK : X.K = K := by rfl)
    (hst : starEach (e :: es) X.env = (false, eval e X.env) :: starEach es X.env := by rfl) (hpl : (backTo pos (starEach es X.env)).any (·.1) = false := by rfl)
    (ht : eval (.Call (.Attribute o m apos) (e :: es) [] pos) X.env = (do
      let ov ← eval o X.env
      standAt apos.atName
      let (f, first) ← holding [ov] (getMethod ov m pl)
      callWith pos f first (backTo pos (starEach (e :: es) X.env)) (backToKw pos (keywordEach [] X.env))) := by rfl) :
    PE X (.Call (.Attribute o m apos) (e :: es) [] pos) (tMethS (He.ga K x) m sp (WE W) ta t) := by
  subst hK
  obtain ⟨f, fd, hc, hm, F, hb⟩ := C.ex
  refine ⟨fun pins s σ H Q I h => ?_⟩
  refine PySem.W.methodCall_KW (pl := pl) (thn (ho.run pins s σ H _ I h) fun u s1 ⟨y, H1, I1, rx, a, dx, fs, ex, ea, l, q⟩ => ?_) ht
  subst ex
  obtain rfl : u = Value.ref a := rx
  refine getmeth_ok I1 ea hc hm l ?_
  refine PySem.W.callWith_K (first := [.ref a]) (h₀ := X.base) I.ok.mod.kin hm.kp (thn (ha.run pos pins s1 σ H1 _ I1 q) fun us s2 ⟨vs, H2, I2, r, q2⟩ => ⟨I2.kIn, ?_⟩) hst hpl
  exact run_fnS (us := .ref a :: us) (vs := .ref a :: vs) (E := WE W) F hr hb (L2N.passAt tk σ) I2 (.cons rfl r) q2
/-- e.f -/
theorem fldK {e : Expr} {f : Str} {pos : Pos} {ta : TE} (he : PE X e ta) (hb : attributeBase e f X.env (eval e X.env) = eval e X.env) (hK : X.K = K := by rfl) : PE X (.Attribute e f pos) (tFld K ta f) := by
  subst hK
  exact pe_fld he hb
theorem setfK {o value : Expr} {f : Str} {pos pos' : Pos} {ta tv : TE} (ha : PE X o ta) (hv : PE X value tv) (hs : swapsWith value (some (.Attribute o f pos')) pos.line X.env = pure false) (hK : X.K = K := by rfl) : PS X (.Assign [.Attribute o f pos'] value pos) (sFld K ta tv f) := by
  subst hK
  exact ps_fld ha hv hs
end
/-- x == y by x's own __eq__, which tells True or False -/
def rEqO (K : PySem.W.Frag) (C : Addr) (sp : Sp) : R2 := fun x y H Q => ∃ a dx fs t, x = .ref a ∧ H a = some (.ins C dx fs) ∧ TyX K H y t ∧ PySem.W.notFirst K C t = true ∧ sp [x, y] H (fun v H' => ∃ b, v = .bl b ∧ Q (.bl b) H') E0
section
variable {X : Cx} (K : PySem.W.Frag)
theorem rc_own {x : Str} {ps : List Str} {k : Nat} {sp : Sp} (C : MetX X.prog X.w X.K X.mg X.base x "__eq__" ps k sp) {A : Around} (hr : Room k A) (hfr : A.frames = X.A.frames) {pins : List (Addr × Obj)} {s : Shared} {σ : L2.St} {H : Hp} {a dx : Addr} {fs : List (Str × V)} {y : V} {v t : Value} {Q : VK}
    (I : L2.Inv X pins σ H s) (ry : RelV y v) (ha : H a = some (.ins (He.ga X.K x) dx fs)) (ty : TyX X.K H y t) (nf : PySem.W.notFirst X.K (He.ga X.K x) t = true) (h : sp [.ref a, y] H (fun v H' => ∃ b, v = .bl b ∧ Q (.bl b) H') E0) :
    wpAny (model X.prog X.w) A (richCompare .Eq (.ref a) v) (fun r s' => ∃ b H', r = .bool b ∧ L2.Inv X pins σ H' s' ∧ Q (.bl b) H') X.xe s := by
  obtain ⟨f, fd, hc, hm, F, hb⟩ := C.ex
  obtain ⟨mA, J, _⟩ := ins_get I.hok ha
  obtain ⟨od, J, _⟩ := J.look
  obtain ⟨m, hF⟩ := I.fr
  obtain ⟨P, Z, p, _⟩ := kit_of I ry ty
  refine PySem.W.cmp_K (op := .Eq) (tb := t) hr.units0 hF I.ok.mod.kin J (Z.ty _ _ I.kIn p) nf hm.at_ hm.fn ?_
  have e0 : Env0 X.prog X.w X.K X.mg X.base A X.stack s H := by
    have e := I.env0
    exact ⟨by rw [hfr]; exact e.frames, e.mod, e.bs, e.bsz, e.funs, e.frf, e.hok, e.bare⟩
  have hl := F.len _ _ _ _ h
  have r2 : Vals [V.ref a, y] [Value.ref a, v] := .cons rfl (.cons ry .nil)
  refine wpAny_call (codeAny_mono (F.run A X.stack s H ⟨[.ref a, v], []⟩ [.ref a, v] [.ref a, y] _ E0 hr e0 (by
    have := hb s [.ref a, v] I.kIn (by simpa using hl)
    simpa using this) r2 h) fun r s' hq => ?_)
  cases r with
  | error e =>
    obtain ⟨_, _, _, _, _, _, _, _, _, _, _, _, z⟩ := hq
    exact z.elim
  | ok fl =>
    cases fl with
    | ret w =>
      obtain ⟨z, H', I', rz, b, ez, q⟩ := I.after hq
      subst ez
      cases rz
      exact ⟨b, H', rfl, I', q⟩
    | next => exact False.elim hq
    | brk => exact False.elim hq
    | cont => exact False.elim hq
theorem eqO {x : Str} {ps : List Str} {k : Nat} {sp : Sp} (C : MetX X.prog X.w X.K X.mg X.base x "__eq__" ps k sp) (hr : Room k X.A) (hK : X.K = K := by rfl) : OpR X (compareOp .Eq) (rEqO K (He.ga K x) sp) := by
  subst hK
  intro pins s σ H a b v u Q I rx ry ⟨p, dx, fs, t, e1, hp, ty, nf, q⟩
  subst e1
  cases (show v = Value.ref p from rx)
  show wpAny (model X.prog X.w) X.A (richCompare .Eq _ u) (EP X pins σ Q) X.xe s
  refine wpAny_mono (rc_own C hr rfl I ry hp ty nf q) (fun r s' z => ?_) fun _ _ x => x
  obtain ⟨b, H', e, I', q⟩ := z
  subst e
  exact ⟨.bl b, H', I', rfl, q⟩
end
/-! a op1 b op2 c op3 d -/
def tChain3 (r r' r'' : R2) (ta tb tc td : TE) : TE := fun σ H Q => ta σ H fun x H1 => tb σ H1 fun y H2 => r x y H2 fun z H3 => ∃ k, z = .bl k ∧
  (if k = true then tc σ H3 fun w' H4 => r' y w' H4 fun z2 H5 => ∃ k2, z2 = .bl k2 ∧ (if k2 = true then td σ H5 fun v' H6 => r'' w' v' H6 Q else Q (.bl false) H5) else Q (.bl false) H3)
section
variable {X : Cx} {a b c d : Expr} {ta tb tc td : TE} {pos : Pos}
theorem pe_chain3 {op op' op'' : CmpOp} {r r' r'' : R2} (ho : OpR X (compareOp op) r) (ho' : OpR X (compareOp op') r') (ho'' : OpR X (compareOp op'') r'') (ha : PE X a ta) (hb : PE X b tb) (hc : PE X c tc) (hd : PE X d td)
    (hm : lastMarks [op, op', op''] [b, c, d] = false := by with_unfolding_all rfl) : PE X (.Compare a [op, op', op''] [b, c, d] pos) (tChain3 r r' r'' ta tb tc td) := by
  refine ⟨fun pins s σ H Q I h => ?_⟩
  refine Compare_chain (thn (ha.run pins s σ H _ I h) fun v s1 ⟨x, H1, I1, r1, q1⟩ => chain_link (thn (hb.run pins s1 σ H1 _ I1 q1) fun u s2 ⟨y, H2, I2, r2, q2⟩ =>
    thn (ho pins s2 σ H2 x y v u _ I2 r1 r2 q2) fun d s3 ⟨z, H3, I3, r3, k, e, q3⟩ => ?_)) hm
  subst e
  cases r3
  refine wpAny_truthy_bool ?_
  cases k with
  | false => exact ite_ff ⟨.bl false, H3, I3, rfl, q3⟩
  | true =>
    refine ite_tt (chain_link (thn (hc.run pins s3 σ H3 _ I3 q3) fun w' s4 ⟨z', H4, I4, r4, q4⟩ => thn (ho' pins s4 σ H4 y z' u w' _ I4 r2 r4 q4) fun d' s5 ⟨z2, H5, I5, r5, k2, e2, q5⟩ => ?_))
    subst e2
    cases r5
    refine wpAny_truthy_bool ?_
    cases k2 with
    | false => exact ite_ff ⟨.bl false, H5, I5, rfl, q5⟩
    | true => exact ite_tt (chain_last (thn (hd.run pins s5 σ H5 _ I5 q5) fun w2 s6 ⟨z3, H6, I6, r6, q6⟩ => ho'' pins s6 σ H6 z' z3 w' w2 Q I6 r4 r6 q6))
theorem pt_chain3 {op op' op'' : CmpOp} {r r' r'' : R2} (ho : OpR X (compareOp op) r) (ho' : OpR X (compareOp op') r') (ho'' : OpR X (compareOp op'') r'') (ha : PE X a ta) (hb : PE X b tb) (hc : PE X c tc) (hd : PE X d td)
    (hm : lastMarks [op, op', op''] [b, c, d] = false := by with_unfolding_all rfl) : PT X (.Compare a [op, op', op''] [b, c, d] pos) (tTest (tChain3 r r' r'' ta tb tc td)) := by
  refine ⟨fun pins s σ H Q I h => ?_⟩
  refine isTrue_chain (thn (ha.run pins s σ H _ I h) fun v s1 ⟨x, H1, I1, r1, q1⟩ => test_link (thn (hb.run pins s1 σ H1 _ I1 q1) fun u s2 ⟨y, H2, I2, r2, q2⟩ =>
    thn (ho pins s2 σ H2 x y v u _ I2 r1 r2 q2) fun d s3 ⟨z, H3, I3, r3, k, e, q3⟩ => ?_)) hm
  subst e
  cases r3
  refine wpAny_truthy_bool ?_
  cases k with
  | false =>
    obtain ⟨k', e', q'⟩ := q3
    cases e'
    exact ite_ff ⟨H3, I3, q'⟩
  | true =>
    refine ite_tt (test_link (thn (hc.run pins s3 σ H3 _ I3 q3) fun w' s4 ⟨z', H4, I4, r4, q4⟩ => thn (ho' pins s4 σ H4 y z' u w' _ I4 r2 r4 q4) fun d' s5 ⟨z2, H5, I5, r5, k2, e2, q5⟩ => ?_))
    subst e2
    cases r5
    refine wpAny_truthy_bool ?_
    cases k2 with
    | false =>
      obtain ⟨k', e', q'⟩ := q5
      cases e'
      exact ite_ff ⟨H5, I5, q'⟩
    | true =>
      refine ite_tt (test_last (thn (hd.run pins s5 σ H5 _ I5 q5) fun w2 s6 ⟨z3, H6, I6, r6, q6⟩ => thn (ho'' pins s6 σ H6 z' z3 w' w2 _ I6 r4 r6 q6) fun d2 s7 ⟨z4, H7, I7, r7, k3, e3, q7⟩ => ?_))
      subst e3
      cases r7
      exact wpAny_truthy_bool ⟨H7, I7, q7⟩
end
/-! spans -/
def spanF (f u : Int) : List (Str × V) := [("first", .int f), ("until", .int u)]
def SpanAt (K : PySem.W.Frag) (H : Hp) (v : V) (s : Int × Int) : Prop := ∃ a dx, v = .ref a ∧ H a = some (.ins (He.ga K "Span") dx (spanF s.1 s.2))
theorem SpanAt.mono {K : PySem.W.Frag} {H H' : Hp} {v : V} {s : Int × Int} (e : Same H H') (h : SpanAt K H v s) : SpanAt K H' v s := by
  obtain ⟨a, dx, h1, h2⟩ := h
  exact ⟨a, dx, h1, e _ _ h2⟩
def SpanOk (s : Int × Int) : Prop := 0 ≤ s.1 ∧ s.1 < s.2 ∧ s.2 ≤ 10000
instance (s : Int × Int) : Decidable (SpanOk s) := by unfold SpanOk; infer_instance
structure SpanF (K : PySem.W.Frag) : Prop where
  cl : Cls K (He.ga K "Span")
  n1 : NoAttr K (He.ga K "Span") "first"
  n2 : NoAttr K (He.ga K "Span") "until"
  ha : PySem.W.findIn K (.ref (He.ga K "Span")) "__class__" = some (some (.builtin "object.__class__"))
  hn : PySem.W.specialIn K (.builtin "object.__class__") "__get__" = some (some (.builtin "getset_descriptor.__get__"))
  ht : PySem.W.takesIn K (.builtin "object.__class__") = some true
  hm : PySem.W.mroIn K (He.ga K "Span") (.type "object") = some true
  ks : PySem.W.kitOne K (.ref (He.ga K "Span")) (.ref (He.ga K "Span")) = some true
  kd : ∀ t ∈ ["NoneType", "bool", "int", "str", "list", "tuple", "dict"], PySem.W.kitOne K (.type t) (.ref (He.ga K "Span")) = some false
  kn : ∀ t ∈ ["NoneType", "bool", "int", "str", "list", "tuple", "dict"], PySem.W.subIn K (.type t) (.ref (He.ga K "Span")) = some false
  kt : ∀ t ∈ ["bool", "int", "str", "list", "tuple"], PySem.W.kitOne K (.ref (He.ga K "Span")) (.type t) = some false
  nb : PySem.W.findIn K (.ref (He.ga K "Span")) "__bool__" = some none
def spanB (K : PySem.W.Frag) : Bool :=
  He.Fa.ok K (.cls "Span") && (He.Fa.ok K (.noat "Span" "first") && (He.Fa.ok K (.noat "Span" "until") &&
  (He.eqO (PySem.W.findIn K (.ref (He.ga K "Span")) "__class__") (some (some (.builtin "object.__class__"))) &&
  (He.eqO (PySem.W.specialIn K (.builtin "object.__class__") "__get__") (some (some (.builtin "getset_descriptor.__get__"))) &&
  (decide (PySem.W.takesIn K (.builtin "object.__class__") = some true) &&
  (decide (PySem.W.mroIn K (He.ga K "Span") (.type "object") = some true) &&
  (decide (PySem.W.kitOne K (.ref (He.ga K "Span")) (.ref (He.ga K "Span")) = some true) &&
  ((["NoneType", "bool", "int", "str", "list", "tuple", "dict"].all fun t => decide (PySem.W.kitOne K (.type t) (.ref (He.ga K "Span")) = some false)) &&
  ((["NoneType", "bool", "int", "str", "list", "tuple", "dict"].all fun t => decide (PySem.W.subIn K (.type t) (.ref (He.ga K "Span")) = some false)) &&
  ((["bool", "int", "str", "list", "tuple"].all fun t => decide (PySem.W.kitOne K (.ref (He.ga K "Span")) (.type t) = some false)) &&
  He.eqO (PySem.W.findIn K (.ref (He.ga K "Span")) "__bool__") (some none)))))))))))
theorem spanB_ok {K : PySem.W.Frag} (h : spanB K = true) : SpanF K := by
  unfold spanB at h
  obtain ⟨a1, h⟩ := He.ba h
  obtain ⟨a2, h⟩ := He.ba h
  obtain ⟨a3, h⟩ := He.ba h
  obtain ⟨a4, h⟩ := He.ba h
  obtain ⟨a5, h⟩ := He.ba h
  obtain ⟨a6, h⟩ := He.ba h
  obtain ⟨a7, h⟩ := He.ba h
  obtain ⟨a8, h⟩ := He.ba h
  obtain ⟨a9, h⟩ := He.ba h
  obtain ⟨b1, h⟩ := He.ba h
  obtain ⟨b2, b3⟩ := He.ba h
  exact ⟨He.cls_ok a1, He.noat_ok a2, He.noat_ok a3, He.eqO_ok a4, He.eqO_ok a5, of_decide_eq_true a6, of_decide_eq_true a7, of_decide_eq_true a8, fun t ht => of_decide_eq_true (List.all_eq_true.mp a9 t ht), fun t ht => of_decide_eq_true (List.all_eq_true.mp b1 t ht), fun t ht => of_decide_eq_true (List.all_eq_true.mp b2 t ht), He.eqO_ok b3⟩
theorem SpanAt.ty {K : PySem.W.Frag} {H : Hp} {v : V} {s : Int × Int} (F : SpanF K) (h : SpanAt K H v s) : TyX K H v (.ref (He.ga K "Span")) := by
  obtain ⟨a, dx, rfl, h⟩ := h
  exact .base (.ins h F.cl F.ha F.hn F.ht F.hm)
theorem tyN_mem (d : PyData) : tyN d ∈ ["NoneType", "bool", "int", "str", "list", "tuple", "dict"] := by
  cases d <;> simp [tyN]
theorem SpanF.nf {K : PySem.W.Frag} (F : SpanF K) (d : PyData) : PySem.W.notFirst K (He.ga K "Span") (.type (tyN d)) = true := by
  unfold PySem.W.notFirst
  rw [F.kn _ (tyN_mem d)]
  simp
theorem SpanF.nfs {K : PySem.W.Frag} : PySem.W.notFirst K (He.ga K "Span") (.ref (He.ga K "Span")) = true := by
  unfold PySem.W.notFirst
  simp
theorem span_first {f u : Int} : (spanF f u).lookup ("first" : Str) = some (V.int f) := rfl
theorem span_until {f u : Int} : (spanF f u).lookup ("until" : Str) = some (V.int u) := rfl
theorem span_put {f u : Int} : putF "until" (V.int u) (putF "first" (V.int f) []) = spanF f u := rfl
/-- a span or None; a pair or None -/
def SpanOpt (K : PySem.W.Frag) (H : Hp) (v : V) : Option (Int × Int) → Prop
  | none => v = .non
  | some s => SpanAt K H v s
def PairOpt (H : Hp) (v : V) : Option (Int × Int) → Prop
  | none => v = .non
  | some s => ∃ p, v = .ref p ∧ H p = some (.tup [.int s.1, .int s.2])
theorem SpanOpt.mono {K : PySem.W.Frag} {H H' : Hp} {v : V} : ∀ {o : Option (Int × Int)}, Same H H' → SpanOpt K H v o → SpanOpt K H' v o
  | none, _, h => h
  | some _, e, h => SpanAt.mono e h
theorem PairOpt.mono {H H' : Hp} {v : V} : ∀ {o : Option (Int × Int)}, Same H H' → PairOpt H v o → PairOpt H' v o
  | none, _, h => h
  | some _, e, ⟨p, h1, h2⟩ => ⟨p, h1, e _ _ h2⟩
/-- e.first, e.until -/
theorem t_first {K : PySem.W.Frag} (F : SpanF K) {ta : TE} {σ : L2.St} {H : Hp} {v : V} {s : Int × Int} {Q : VK} (h : SpanAt K H v s) (ha : ∀ Q' : VK, Q' v H → ta σ H Q') (q : Q (.int s.1) H) : tFld K ta "first" σ H Q := by
  obtain ⟨a, dx, rfl, h⟩ := h
  exact ha _ ⟨a, _, dx, _, _, rfl, h, F.cl, F.n1, span_first, q⟩
theorem t_until {K : PySem.W.Frag} (F : SpanF K) {ta : TE} {σ : L2.St} {H : Hp} {v : V} {s : Int × Int} {Q : VK} (h : SpanAt K H v s) (ha : ∀ Q' : VK, Q' v H → ta σ H Q') (q : Q (.int s.2) H) : tFld K ta "until" σ H Q := by
  obtain ⟨a, dx, rfl, h⟩ := h
  exact ha _ ⟨a, _, dx, _, _, rfl, h, F.cl, F.n2, span_until, q⟩
theorem t_var {i : Nat} {σ : L2.St} {H : Hp} {v : V} (h : σ[i]? = some (some v)) : ∀ Q' : VK, Q' v H → tVar i σ H Q' := fun _ q => ⟨v, h, q⟩
end LH

set_option Elab.async false
set_option linter.all false
set_option maxRecDepth 100000
set_option maxHeartbeats 4000000
/-! the head's facts over a fragment that is gathered once, each object once (a Nat as the set of what was seen) -/
namespace LH
open PySem PySem.Spec PyProof.Rows L2
noncomputable section
/-- a fragment with its spine laid bare -/
def frK {α : Type} (K : PySem.W.Frag) : (PySem.W.Frag → α) → α :=
  @List.rec (Addr × Obj) (fun _ => (PySem.W.Frag → α) → α) (fun k => k []) (fun x _ ih k => match x with | (a, o) => HandSHeadRun.frNat a fun a => match o with | ⟨c, d, dt, sl⟩ => ih fun r => k ((a, ⟨c, d, dt, sl⟩) :: r)) K
theorem frK_eq {α : Type} : ∀ (K : PySem.W.Frag) (k : PySem.W.Frag → α), frK K k = k K
  | [], k => rfl
  | (a, ⟨c, d, dt, sl⟩) :: r, k => by
    show HandSHeadRun.frNat a (fun a => frK r fun r => k ((a, ⟨c, d, dt, sl⟩) :: r)) = _
    rw [HandSHeadRun.frNat_eq, frK_eq r]
/-- those of bs that were not seen yet, put ahead of new -/
def addU {α : Type} (bs : List Addr) : Nat → List Addr → (Nat → List Addr → α) → α :=
  @List.rec Addr (fun _ => Nat → List Addr → (Nat → List Addr → α) → α) (fun seen new k => k seen new)
    (fun b _ ih seen new k => HandSHeadRun.frNat b fun b => match Nat.beq (Nat.land (Nat.shiftRight seen b) 1) 1 with
      | true => ih seen new k
      | false => HandSHeadRun.frNat (Nat.lor seen (Nat.shiftLeft 1 b)) fun seen => ih seen (b :: new) k) bs
/-- what the objects at as name, that was not seen yet -/
def addF {α : Type} (g : Addr → Option Obj) (as : List Addr) : Nat → List Addr → (Nat → List Addr → α) → α :=
  @List.rec Addr (fun _ => Nat → List Addr → (Nat → List Addr → α) → α) (fun seen new k => k seen new)
    (fun a _ ih seen new k => match g a with
      | some o => addU (He.refsD o) seen new fun seen new => ih seen new k
      | none => ih seen new k) as
/-- level by level -/
def levG (g : Addr → Option Obj) (n : Nat) : List Addr → Nat → List Addr → List Addr :=
  @Nat.rec (fun _ => List Addr → Nat → List Addr → List Addr) (fun front _ acc => front ++ acc)
    (fun _ ih front seen acc => addF g front seen [] fun seen new => ih new seen (front ++ acc)) n
def asG (g : Addr → Option Obj) (n : Nat) : List Addr := levG g n [mainGlobals] (Nat.shiftLeft 1 mainGlobals) []
def hookF (n : Nat) (fa : List He.Fa) (fn : List He.DefD) (ex : PySem.W.Frag → Bool) : PySem.W.Hook where
  α := He.AlD × Bool
  obs := fun s => (He.obsD fa fn (He.frT s.heap.get? (asG s.heap.get? n)), ex (He.frT s.heap.get? (asG s.heap.get? n)))
  val := fun _ => (He.valD fn, true)
  says := fun _ h => ∃ K : PySem.W.Frag, K.In h ∧ He.SaysD fa fn K ∧ ex K = true
  of := fun _ _ e => ⟨_, He.frT_in, congrArg Prod.fst e, congrArg Prod.snd e⟩
  keeps := fun _ _ _ ⟨K, hK, c⟩ k => ⟨K, PySem.W.Frag.In.keeps hK k, c⟩
def obF (n : Nat) (fa : List He.Fa) (fn : List He.DefD) (ex : PySem.W.Frag → Bool) (g : Addr → Option Obj) : He.AlD × Bool :=
  frK (He.frT g (asG g n)) fun K => (He.obsD fa fn K, ex K)
theorem obF_eq {n : Nat} {fa : List He.Fa} {fn : List He.DefD} {ex : PySem.W.Frag → Bool} {g : Addr → Option Obj} {s : Shared} (h : ∀ a, g a = s.heap.get? a) : obF n fa fn ex g = (hookF n fa fn ex).obs s := by
  have e : g = s.heap.get? := funext h
  rw [e]
  exact frK_eq _ _
def obS (n : Nat) (fa : List He.Fa) (fn : List He.DefD) (ex : PySem.W.Frag → Bool) (s : PySem.W.SharedT) : He.AlD × Bool := obF n fa fn ex (HandSHeadRun.getT s)
theorem obS_eq {n : Nat} {fa : List He.Fa} {fn : List He.DefD} {ex : PySem.W.Frag → Bool} (s : PySem.W.SharedT) : obS n fa fn ex s = (hookF n fa fn ex).obs s.abs := obF_eq (HandSHeadRun.getT_eq s)
theorem obsD_app {fa1 fa2 : List He.Fa} {fn1 fn2 : List He.DefD} {K : PySem.W.Frag} (h1 : He.obsD fa1 fn1 K = He.valD fn1) (h2 : He.obsD fa2 fn2 K = He.valD fn2) : He.obsD (fa1 ++ fa2) (fn1 ++ fn2) K = He.valD (fn1 ++ fn2) := by
  have a1 : ((fa1.all fun f => f.ok K) && fn1.all fun d => d.ok K) = true := congrArg Prod.fst h1
  have a2 : ((fa2.all fun f => f.ok K) && fn2.all fun d => d.ok K) = true := congrArg Prod.fst h2
  have b1 : (fn1.map fun d => He.fnW K d.at_) = fn1.map He.DefD.val := congrArg Prod.snd h1
  have b2 : (fn2.map fun d => He.fnW K d.at_) = fn2.map He.DefD.val := congrArg Prod.snd h2
  obtain ⟨c1, d1⟩ := Bool.and_eq_true_iff.mp a1
  obtain ⟨c2, d2⟩ := Bool.and_eq_true_iff.mp a2
  unfold He.obsD He.valD
  rw [List.all_append, List.all_append, c1, c2, d1, d2, List.map_append, List.map_append, b1, b2]
  rfl
/-- two runs that look at two parts of the facts: one that looks at both -/
theorem run_app {r : PySem.W.OpenRow} {q : Program} {n M : Nat} {loose : List PySem.Str} {w : World} {fa1 fa2 : List He.Fa} {fn1 fn2 : List He.DefD} {ex1 ex2 : PySem.W.Frag → Bool}
    (h1 : HandSHeadRun.RunEq r q (hookF n fa1 fn1 ex1) (obS n fa1 fn1 ex1) M loose w) (h2 : HandSHeadRun.RunEq r q (hookF n fa2 fn2 ex2) (obS n fa2 fn2 ex2) M loose w) :
    HandSHeadRun.RunEq r q (hookF n (fa1 ++ fa2) (fn1 ++ fn2) ex1) (obS n (fa1 ++ fa2) (fn1 ++ fn2) ex1) M loose w := by
  intro os
  have a := h1 os
  have b := h2 os
  revert a b
  generalize HandSHeadRun.endF (HandSHeadRun.stepQ (HandSHeadRun.denQ HandSHeadRun.tabQ) r.prog w) M r.prog w os = e
  intro a b
  cases e with
  | none => cases a
  | some s =>
    have a' := Option.some.inj a
    have b' := Option.some.inj b
    have a1 := congrArg Prod.fst a'
    have a2 := congrArg (fun z => z.2.1) a'
    have a3 : obS n fa1 fn1 ex1 s = (He.valD fn1, true) := congrArg (fun z => z.2.2) a'
    have b3 : obS n fa2 fn2 ex2 s = (He.valD fn2, true) := congrArg (fun z => z.2.2) b'
    unfold obS obF at a3 b3
    rw [frK_eq] at a3 b3
    have c3 : obS n (fa1 ++ fa2) (fn1 ++ fn2) ex1 s = (He.valD (fn1 ++ fn2), true) := by
      unfold obS obF
      rw [frK_eq, obsD_app (congrArg Prod.fst a3) (congrArg Prod.fst b3)]
      exact congrArg (fun z => (He.valD (fn1 ++ fn2), z)) (congrArg Prod.snd a3)
    show some (_, _, _) = some (_, _, _)
    refine congrArg some (Prod.ext a1 (Prod.ext a2 c3))
end
end LH

set_option Elab.async false
set_option linter.all false
set_option maxRecDepth 100000
set_option maxHeartbeats 4000000
/-! {x:04d} -/
namespace LH
open PySem PySem.Spec PyProof.Rows L2 PySem.W
open Builtin Builtin.Str Builtin.Int Builtin.Float
/-- a number with noughts ahead, four signs at the least -/
def zTxt (a : Int) : PySem.Str := ⟨(List.replicate (4 - (Nat.toDigits 10 a.natAbs).length) 48).toArray⟩ ++ PySem.Str.ofString (toString a)
theorem zTxt_len {a : Int} (h0 : 0 ≤ a) (h1 : a < 100000) : (zTxt a).length ≤ sizeLine := by
  have e : zTxt a = intSpecText ⟨48, 61, none, false, false, some 4, none, none, some 100⟩ a := (intSpecText_zero (f := ⟨48, 61, none, false, false, some 4, none, none, some 100⟩) rfl rfl rfl rfl h0).symm
  rw [e, intSpecText_length a rfl rfl]
  have := digits10_le (k := 5) (n := a.natAbs) (by decide) (by omega)
  rw [sizeLine_eq, if_neg (by omega)]
  show max 4 _ ≤ _
  omega
theorem meets_04d {a : Int} {t : Tok} (h0 : 0 ≤ a) (h1 : a < 100000) (u : Tok) : Meets («int.__format__» ⟨[.int a t, .str (PySem.Str.ofString "04d") u], []⟩) (fun _ R s => ∀ t' k, R (.ok (.ret (.str (zTxt a) t'))) { s with toks := k }) := by
  apply KPc.meets_of
  intro prog w A E s Q h
  unfold Builtin.«int.__format__»
  refine wpAny_bind (wpAny_of_eq (a := (_, _)) rfl ?_)
  refine wpAny_bind (wpAny_of_eq (a := _) rfl ?_)
  kxf_if
  refine wpAny_bind (wpAny_typeNameOf (T := "str") (typeIs_str _ _ _) (by decide) fun _ => ?_)
  refine wpAny_bind (wpAny_of_eq (a := some _) rfl ?_)
  kxf_if
  kxf_if
  refine wpAny_bind (wpAny_typeNameOfCut_int ?_)
  have hp : parseFormatSpec (PySem.Str.ofString "04d").cps.toList "int" 62 = .ok ⟨48, 61, none, false, false, some 4, none, none, some 100⟩ := by kernel_rfl
  rw [hp]
  dsimp only
  kxf_if
  have hlog : a.natAbs.log2 < 1920 := by
    by_cases z : a.natAbs = 0
    · rw [z]; decide
    · exact (Nat.log2_lt z).mpr (Nat.lt_of_lt_of_le (show a.natAbs < 2 ^ 17 by omega) (Nat.pow_le_pow_right (by decide) (by decide)))
  refine wpAny_bind (m := Builtin.overDigitLimit? a) (wpAny_of_eq (PyProof.Rows.overDigitLimit_small hlog) ?_)
  show wpAny _ _ (retStr _) _ _ _
  have he : ∀ X : PySem.Str, X = zTxt a → wpAny (model prog w) A (retStr X) s Q E := fun X e => KXf.ret_text e (by rw [e]; exact zTxt_len h0 h1) h
  refine he _ ?_
  refine Eq.trans (b := intSpecText ⟨48, 61, none, false, false, some 4, none, none, some 100⟩ a) ?_ (intSpecText_zero (f := ⟨48, 61, none, false, false, some 4, none, none, some 100⟩) rfl rfl rfl rfl h0)
  have hneg : decide (a < 0) = false := decide_eq_false (by omega)
  unfold intSpecText
  rw [hneg]
  conv => lhs; whnf
  simp [intField']
def tF4 (te : TE) : TE := fun σ H Q => te σ H fun x H1 => ∃ a : Int, x = .int a ∧ 0 ≤ a ∧ a < 100000 ∧ Q (.str (zTxt a)) H1
theorem pe_f4 {X : Cx} {e spec : Expr} {te : TE} {pos : Pos} (he : PE X e te) (hs : PE X spec (fun _ H Q => Q (.str "04d") H)) : PE X (.FormattedValue e (-1) (some spec) pos) (tF4 te) := by
  refine ⟨fun pins s σ H Q I h => ?_⟩
  refine wpAny_FormattedValue_spec (thn (he.run pins s σ H _ I h) fun v s1 hv => ?_)
  obtain ⟨x, H1, I1, r1, a, rfl, h0, h1, q⟩ := hv
  obtain ⟨t, rfl⟩ := r1
  refine thn (hs.run pins s1 σ H1 (fun v H' => v = V.str "04d" ∧ H' = H1) I1 ⟨rfl, rfl⟩) fun u s2 hu => ?_
  obtain ⟨y, H2, I2, r2, ey, eH⟩ := hu
  subst ey
  subst eH
  obtain ⟨t2, rfl⟩ := r2
  exact ⟨_, _, rfl, KXf.field_int rfl (by decide +kernel) (by decide +kernel) (meets_04d h0 h1) fun t' k => ⟨.str _, H2, I2.tok _, ⟨_, rfl⟩, q⟩⟩
end LH

set_option Elab.async false
set_option linter.all false
set_option maxRecDepth 100000
set_option maxHeartbeats 4000000
/-! texts: a text so many times; rows that are tuples of texts and ints -/
namespace LH
open PySem PySem.Spec PyProof.Rows L2
/-- '0' * n -/
def rMulS : R2 := fun x y H Q => ∃ (a : PySem.Str) (n : Int), x = .str a ∧ y = .int n ∧ MulOk a n ∧ Q (.str (Txt.mul a n)) H
theorem op_mulS {X : Cx} : OpR X (binaryOp .Mult) rMulS := by
  intro pins s σ H x y v u Q I rx ry h
  obtain ⟨a, n, rfl, rfl, ok, q⟩ := h
  obtain ⟨t, rfl⟩ := rx
  obtain ⟨t', rfl⟩ := ry
  exact SB.mul ok fun t' k => ⟨.str _, H, I.tok _, ⟨_, rfl⟩, q⟩
section
variable {X : Cx} (K : PySem.W.Frag)
theorem slAK (h : X.K = K := by rfl) : SlR X (rSlA K) := by subst h; exact sl_tupA
theorem catTK (h : X.K = K := by rfl) : OpR X (binaryOp .Add) (rCatT K) := by subst h; exact op_catT
end
end LH

set_option Elab.async false
set_option linter.all false
set_option maxRecDepth 100000
set_option maxHeartbeats 4000000
namespace LH
/-! gaps: the mathematics -/
def nd (n : Nat) (o : Int) : Nat := if o < 0 then n else o.toNat
theorem nd_neg {n : Nat} {o : Int} (h : o < 0) : nd n o = n := if_pos h
theorem nd_nat {n : Nat} {o : Int} (h : ¬ o < 0) : nd n o = o.toNat := if_neg h
theorem nd_le {n : Nat} {o : Int} (h : o < n) : nd n o ≤ n := by
  unfold nd
  split <;> omega
/-- the lives of a tie are lives -/
def TieIx (m : Int) (t : Tie) : Prop := -1 ≤ t.1 ∧ t.1 < m ∧ -1 ≤ t.2.1 ∧ t.2.1 < m ∧ True
theorem TieOk.ix {m : Int} {t : Tie} (h : TieOk m t) : TieIx m t := ⟨h.1, h.2.1, h.2.2.1, h.2.2.2.1, trivial⟩
structure Feas (n : Nat) (ts : List Tie) (φ : Nat → Int) : Prop where
  z : φ n = 0
  lo : ∀ i, i < n → 0 ≤ φ i
  hi : ∀ i, i < n → φ i ≤ 9999
  ke : ∀ t ∈ ts, t.2.2 ≤ φ (nd n t.1) - φ (nd n t.2.1)
theorem Feas.lo' {n : Nat} {ts : List Tie} {φ : Nat → Int} (f : Feas n ts φ) {i : Nat} (h : i ≤ n) : 0 ≤ φ i := by
  rcases Nat.lt_or_ge i n with h1 | h1
  · exact f.lo i h1
  · have e : i = n := by omega
    rw [e, f.z]
    exact Int.le_refl _
def bareG (n i j : Nat) : Int := if j = n then 0 else if i = j then 0 else -9999
def tieG (n : Nat) (g : Nat → Nat → Int) (t : Tie) : Nat → Nat → Int := fun i j => if i = nd n t.1 ∧ j = nd n t.2.1 then max (g i j) t.2.2 else g i j
def viaG (g : Nat → Nat → Int) (m : Nat) : Nat → Nat → Int := fun i j => max (g i j) (g i m + g m j)
def startG (n : Nat) (ts : List Tie) : Nat → Nat → Int := ts.foldl (tieG n) (bareG n)
def upG (n : Nat) (ts : List Tie) : Nat → Nat → Nat → Int
  | 0 => startG n ts
  | m + 1 => viaG (upG n ts m) m
def gapsG (n : Nat) (ts : List Tie) : Nat → Nat → Int := upG n ts (n + 1)
theorem bare_le {n : Nat} {ts : List Tie} {φ : Nat → Int} (f : Feas n ts φ) {i j : Nat} (hi : i ≤ n) (hj : j ≤ n) : bareG n i j ≤ φ i - φ j := by
  unfold bareG
  have h1 := f.lo' hi
  split
  · rename_i e
    rw [e, f.z]
    omega
  · split
    · rename_i e
      rw [e]
      omega
    · have := f.hi j (by omega)
      omega
theorem fold_le {n : Nat} {ts : List Tie} {φ : Nat → Int} (f : Feas n ts φ) : ∀ (l : List Tie) (g : Nat → Nat → Int), (∀ t ∈ l, t ∈ ts) → (∀ i j, i ≤ n → j ≤ n → g i j ≤ φ i - φ j) → ∀ i j, i ≤ n → j ≤ n → l.foldl (tieG n) g i j ≤ φ i - φ j
  | [], g, _, h, i, j, hi, hj => h i j hi hj
  | t :: l, g, hs, h, i, j, hi, hj => by
    refine fold_le f l (tieG n g t) (fun u hu => hs u (List.mem_cons_of_mem _ hu)) (fun i j hi hj => ?_) i j hi hj
    unfold tieG
    have h1 := h i j hi hj
    split
    · rename_i e
      have := f.ke t (hs t List.mem_cons_self)
      rw [e.1, e.2] at h1 ⊢
      omega
    · exact h1
theorem up_le {n : Nat} {ts : List Tie} {φ : Nat → Int} (f : Feas n ts φ) : ∀ (m : Nat), m ≤ n + 1 → ∀ i j, i ≤ n → j ≤ n → upG n ts m i j ≤ φ i - φ j
  | 0, _, i, j, hi, hj => fold_le f ts (bareG n) (fun _ h => h) (fun _ _ h1 h2 => bare_le f h1 h2) i j hi hj
  | m + 1, hm, i, j, hi, hj => by
    have h1 := up_le f m (by omega) i j hi hj
    have h2 := up_le f m (by omega) i m hi (by omega)
    have h3 := up_le f m (by omega) m j (by omega) hj
    show max (upG n ts m i j) (upG n ts m i m + upG n ts m m j) ≤ _
    omega
theorem fold_ge {n : Nat} : ∀ (l : List Tie) (g : Nat → Nat → Int) (i j : Nat), g i j ≤ l.foldl (tieG n) g i j
  | [], g, i, j => Int.le_refl _
  | t :: l, g, i, j => by
    refine Int.le_trans ?_ (fold_ge l (tieG n g t) i j)
    unfold tieG
    split <;> omega
theorem fold_tie {n : Nat} : ∀ (l : List Tie) (g : Nat → Nat → Int) (t : Tie), t ∈ l → t.2.2 ≤ l.foldl (tieG n) g (nd n t.1) (nd n t.2.1)
  | [], g, t, h => absurd h List.not_mem_nil
  | u :: l, g, t, h => by
    rcases List.mem_cons.mp h with rfl | h
    · refine Int.le_trans ?_ (fold_ge l (tieG n g t) _ _)
      unfold tieG
      rw [if_pos ⟨rfl, rfl⟩]
      omega
    · exact fold_tie l (tieG n g u) t h
theorem up_mono {n : Nat} {ts : List Tie} : ∀ (m k : Nat) (i j : Nat), upG n ts m i j ≤ upG n ts (m + k) i j
  | m, 0, i, j => Int.le_refl _
  | m, k + 1, i, j => by
    refine Int.le_trans (up_mono m k i j) ?_
    show upG n ts (m + k) i j ≤ max (upG n ts (m + k) i j) _
    omega
theorem up_mono' {n : Nat} {ts : List Tie} {m k : Nat} (h : m ≤ k) (i j : Nat) : upG n ts m i j ≤ upG n ts k i j := by
  have := up_mono (n := n) (ts := ts) m (k - m) i j
  rw [show m + (k - m) = k by omega] at this
  exact this
theorem start_bare {n : Nat} {ts : List Tie} (m i j : Nat) : bareG n i j ≤ upG n ts m i j := Int.le_trans (fold_ge ts (bareG n) i j) (up_mono' (Nat.zero_le m) i j)
theorem diag_ge {n : Nat} {ts : List Tie} (m i : Nat) : 0 ≤ upG n ts m i i := by
  refine Int.le_trans ?_ (start_bare m i i)
  unfold bareG
  split
  · exact Int.le_refl _
  · rw [if_pos rfl]
    exact Int.le_refl _
theorem close {n : Nat} {ts : List Tie} : ∀ (m : Nat), m ≤ n + 1 → (∀ i, i ≤ n → upG n ts m i i = 0) → ∀ k, k < m → ∀ i j, upG n ts m i k + upG n ts m k j ≤ upG n ts m i j
  | 0, _, _, k, hk, _, _ => absurd hk (Nat.not_lt_zero k)
  | m + 1, hm, hd, k, hk, i, j => by
    have hd' : ∀ i, i ≤ n → upG n ts m i i = 0 := fun i hi => by
      have h1 := up_mono (n := n) (ts := ts) m 1 i i
      have h2 := diag_ge (n := n) (ts := ts) m i
      have h3 := hd i hi
      omega
    have hmm := hd' m (by omega)
    have ih := close m (by omega) hd'
    show viaG (upG n ts m) m i k + viaG (upG n ts m) m k j ≤ viaG (upG n ts m) m i j
    unfold viaG
    rcases Nat.lt_or_ge k m with h1 | h1
    · have a1 := ih k h1 i j
      have a2 := ih k h1 m j
      have a3 := ih k h1 i m
      have a4 := ih k h1 m m
      omega
    · have e : k = m := by omega
      subst e
      omega
theorem Feas.diag {n : Nat} {ts : List Tie} {φ : Nat → Int} (f : Feas n ts φ) (i : Nat) (hi : i ≤ n) : gapsG n ts i i = 0 := by
  have h1 := up_le f (n + 1) (Nat.le_refl _) i i hi hi
  have h2 := diag_ge (n := n) (ts := ts) (n + 1) i
  unfold gapsG
  omega
theorem gap_close {n : Nat} {ts : List Tie} (hd : ∀ i, i ≤ n → gapsG n ts i i = 0) {k : Nat} (hk : k ≤ n) (i j : Nat) : gapsG n ts i k + gapsG n ts k j ≤ gapsG n ts i j := close (n + 1) (Nat.le_refl _) hd k (by omega) i j
theorem gap_tie {n : Nat} {ts : List Tie} {t : Tie} (h : t ∈ ts) : t.2.2 ≤ gapsG n ts (nd n t.1) (nd n t.2.1) := Int.le_trans (fold_tie ts (bareG n) t h) (up_mono' (Nat.zero_le _) _ _)
theorem gap_lo {n : Nat} {ts : List Tie} (i : Nat) : 0 ≤ gapsG n ts i n := by
  refine Int.le_trans ?_ (start_bare (n + 1) i n)
  unfold bareG
  rw [if_pos rfl]
  exact Int.le_refl _
theorem gap_hi {n : Nat} {ts : List Tie} (i j : Nat) : -9999 ≤ gapsG n ts i j := by
  refine Int.le_trans ?_ (start_bare (n + 1) i j)
  unfold bareG
  split
  · decide
  · split <;> decide
/-- where none is later than itself, the gaps to any one k are a way, moved so that the beginning stands at 0 -/
theorem feas_gap {n : Nat} {ts : List Tie} (hok : ∀ t ∈ ts, TieIx (n : Int) t) (hd : ∀ i, i ≤ n → gapsG n ts i i = 0) {k : Nat} (hk : k ≤ n) : Feas n ts (fun i => gapsG n ts i k - gapsG n ts n k) := by
  refine ⟨?_, fun i hi => ?_, fun i hi => ?_, fun t ht => ?_⟩
  · show gapsG n ts n k - gapsG n ts n k = 0
    omega
  · have h1 := gap_close hd (Nat.le_refl n) i k
    have h2 := gap_lo (n := n) (ts := ts) i
    show 0 ≤ gapsG n ts i k - gapsG n ts n k
    omega
  · have h1 := gap_close hd (Nat.le_of_lt hi) n k
    have h2 := gap_hi (n := n) (ts := ts) n i
    show gapsG n ts i k - gapsG n ts n k ≤ 9999
    omega
  · have ok := hok t ht
    have h1 := gap_close hd (nd_le (n := n) ok.2.2.2.1) (nd n t.1) k
    have h2 := gap_tie (n := n) ht
    show t.2.2 ≤ gapsG n ts (nd n t.1) k - gapsG n ts n k - (gapsG n ts (nd n t.2.1) k - gapsG n ts n k)
    omega
theorem feas_least {n : Nat} {ts : List Tie} (hok : ∀ t ∈ ts, TieIx (n : Int) t) (hd : ∀ i, i ≤ n → gapsG n ts i i = 0) : Feas n ts (fun i => gapsG n ts i n) := by
  have f := feas_gap hok hd (Nat.le_refl n)
  have e := hd n (Nat.le_refl n)
  simp only [e, Int.sub_zero] at f
  exact f
theorem gap_le {n : Nat} {ts : List Tie} {φ : Nat → Int} (f : Feas n ts φ) {i j : Nat} (hi : i ≤ n) (hj : j ≤ n) : gapsG n ts i j ≤ φ i - φ j := up_le f (n + 1) (Nat.le_refl _) i j hi hj
/-- ties can be just where no one is later than itself -/
theorem can_iff {n : Nat} {ts : List Tie} (hok : ∀ t ∈ ts, TieIx (n : Int) t) : (∃ φ, Feas n ts φ) ↔ ∀ i, i ≤ n → gapsG n ts i i = 0 :=
  ⟨fun ⟨_, f⟩ => f.diag, fun hd => ⟨_, feas_least hok hd⟩⟩
/-! days raised -/
def valD (ds : List Int) (n i : Nat) : Int := if i = n then 0 else ds.getD i 0
/-- a life that is not yet at its least day is raised by one that is -/
theorem support {n : Nat} {ts : List Tie} (hok : ∀ t ∈ ts, TieIx (n : Int) t) {φ : Nat → Int} (f : Feas n ts φ) (least : ∀ ψ, Feas n ts ψ → ∀ i, i < n → φ i ≤ ψ i) (u : Nat → Prop) (hu : ∀ i, u i → i < n ∧ 0 < φ i) (he : ∃ i, u i) :
    ∃ t ∈ ts, u (nd n t.1) ∧ ¬ u (nd n t.2.1) ∧ φ (nd n t.1) ≤ φ (nd n t.2.1) + t.2.2 := by
  rcases Classical.em (∃ t ∈ ts, u (nd n t.1) ∧ ¬ u (nd n t.2.1) ∧ φ (nd n t.1) ≤ φ (nd n t.2.1) + t.2.2) with h | h
  · exact h
  · exfalso
    have nu : ¬ u n := fun z => Nat.lt_irrefl n (hu n z).1
    obtain ⟨i, hi⟩ := he
    classical
    have g : Feas n ts (fun i => if u i then φ i - 1 else φ i) := by
      refine ⟨?_, fun i hi => ?_, fun i hi => ?_, fun t ht => ?_⟩
      · rw [if_neg nu, f.z]
      · split
        · rename_i z
          have := (hu i z).2
          omega
        · exact f.lo i hi
      · have := f.hi i hi
        split <;> omega
      · have h0 := f.ke t ht
        by_cases h1 : u (nd n t.1)
        · by_cases h2 : u (nd n t.2.1)
          · rw [if_pos h1, if_pos h2]
            omega
          · rw [if_pos h1, if_neg h2]
            have h3 : ¬ φ (nd n t.1) ≤ φ (nd n t.2.1) + t.2.2 := fun z => h ⟨t, ht, h1, h2, z⟩
            omega
        · rw [if_neg h1]
          split <;> omega
    have l := least _ g i (hu i hi).1
    try dsimp only at l
    rw [if_pos hi] at l
    omega
theorem filter_lt {α : Type} (p q : α → Bool) : ∀ (l : List α), (∀ x ∈ l, p x = true → q x = true) → (∃ x ∈ l, q x = true ∧ p x = false) → (l.filter p).length < (l.filter q).length
  | [], _, h => by
    obtain ⟨x, hx, _⟩ := h
    cases hx
  | a :: l, h, he => by
    have hl : (l.filter p).length ≤ (l.filter q).length := by
      have : ∀ (l : List α), (∀ x ∈ l, p x = true → q x = true) → (l.filter p).length ≤ (l.filter q).length := fun l => by
        induction l with
        | nil => intro _; exact Nat.le_refl _
        | cons a l ih =>
          intro h
          have i1 := ih fun x hx => h x (List.mem_cons_of_mem _ hx)
          have i2 := h a List.mem_cons_self
          cases hp : p a with
          | true =>
            rw [List.filter_cons_of_pos hp, List.filter_cons_of_pos (i2 hp)]
            simp only [List.length_cons]
            omega
          | false =>
            rw [List.filter_cons_of_neg (by rw [hp]; exact Bool.false_ne_true)]
            cases hq : q a with
            | true =>
              rw [List.filter_cons_of_pos hq]
              simp only [List.length_cons]
              omega
            | false =>
              rw [List.filter_cons_of_neg (by rw [hq]; exact Bool.false_ne_true)]
              exact i1
      exact this l fun x hx => h x (List.mem_cons_of_mem _ hx)
    obtain ⟨x, hx, hq, hp⟩ := he
    rcases List.mem_cons.mp hx with rfl | hx
    · rw [List.filter_cons_of_neg (by rw [hp]; exact Bool.false_ne_true), List.filter_cons_of_pos hq]
      simp only [List.length_cons]
      omega
    · have ih := filter_lt p q l (fun x hx => h x (List.mem_cons_of_mem _ hx)) ⟨x, hx, hq, hp⟩
      have i2 := h a List.mem_cons_self
      cases hpa : p a with
      | true =>
        rw [List.filter_cons_of_pos hpa, List.filter_cons_of_pos (i2 hpa)]
        simp only [List.length_cons]
        omega
      | false =>
        rw [List.filter_cons_of_neg (by rw [hpa]; exact Bool.false_ne_true)]
        cases hqa : q a with
        | true =>
          rw [List.filter_cons_of_pos hqa]
          simp only [List.length_cons]
          omega
        | false =>
          rw [List.filter_cons_of_neg (by rw [hqa]; exact Bool.false_ne_true)]
          exact ih
/-- how many lives stand at their least day -/
def finals (n : Nat) (φ : Nat → Int) (ds : List Int) : Nat := ((List.range n).filter fun i => decide (ds.getD i 0 = φ i)).length
theorem finals_le (n : Nat) (φ : Nat → Int) (ds : List Int) : finals n φ ds ≤ n := by
  unfold finals
  have := List.length_filter_le (fun i => decide (ds.getD i 0 = φ i)) (List.range n)
  simpa using this
theorem finals_all {n : Nat} {φ : Nat → Int} {ds : List Int} (h : n ≤ finals n φ ds) : ∀ i, i < n → ds.getD i 0 = φ i := by
  intro i hi
  rcases Decidable.em (ds.getD i 0 = φ i) with z | z
  · exact z
  · exfalso
    have := filter_lt (fun i => decide (ds.getD i 0 = φ i)) (fun _ => true) (List.range n) (fun _ _ _ => rfl) ⟨i, List.mem_range.mpr hi, rfl, decide_eq_false z⟩
    have e : ((List.range n).filter fun _ => true).length = n := by
      rw [List.filter_eq_self.mpr fun _ _ => rfl, List.length_range]
    unfold finals at h
    omega
/-- one round over the ties: from ds to es -/
structure Round (n : Nat) (ts : List Tie) (ds es : List Int) (moved : Bool) : Prop where
  len : es.length = n
  ge : ∀ i, i < n → ds.getD i 0 ≤ es.getD i 0
  le : ∀ φ, Feas n ts φ → (∀ i, i < n → ds.getD i 0 ≤ φ i) → ∀ i, i < n → es.getD i 0 ≤ φ i
  ke : ∀ t ∈ ts, 0 ≤ t.1 → valD ds n (nd n t.2.1) + t.2.2 ≤ es.getD t.1.toNat 0
  mv : moved = true → ∃ i, i < n ∧ ds.getD i 0 < es.getD i 0
  st : moved = false → es = ds
/-- what holds between two rounds -/
structure Rounds (n : Nat) (ts : List Tie) (r : Nat) (ds : List Int) (moved : Bool) : Prop where
  len : ds.length = n
  lo : ∀ i, i < n → 0 ≤ ds.getD i 0
  le : ∀ φ, Feas n ts φ → ∀ i, i < n → ds.getD i 0 ≤ φ i
  pr : (∀ i, i ≤ n → gapsG n ts i i = 0) → moved = true → r ≤ n ∧ r ≤ finals n (fun i => gapsG n ts i n) ds
  fx : moved = false → ∀ t ∈ ts, 0 ≤ t.1 → valD ds n (nd n t.2.1) + t.2.2 ≤ ds.getD t.1.toNat 0
theorem Rounds.next {n : Nat} {ts : List Tie} (hok : ∀ t ∈ ts, TieIx (n : Int) t) {r : Nat} {ds es : List Int} {mv : Bool} (h : Rounds n ts r ds true) (q : Round n ts ds es mv) : Rounds n ts (r + 1) es mv := by
  refine ⟨q.len, fun i hi => Int.le_trans (h.lo i hi) (q.ge i hi), fun φ f => q.le φ f (h.le φ f), fun hd hm => ?_, fun hm t ht h0 => ?_⟩
  rotate_left
  · have e := q.st hm
    have := q.ke t ht h0
    rw [e] at this ⊢
    exact this
  obtain ⟨h1, h2⟩ := h.pr hd rfl
  have f := feas_least hok hd
  have lst : ∀ ψ, Feas n ts ψ → ∀ i, i < n → gapsG n ts i n ≤ ψ i := fun ψ g i hi => by
    have := gap_le g (Nat.le_of_lt hi) (Nat.le_refl n)
    rw [g.z] at this
    omega
  have b1 := h.le _ f
  have b2 := q.le _ f b1
  rcases Nat.lt_or_ge (finals n (fun i => gapsG n ts i n) ds) n with h3 | h3
  · have key : finals n (fun i => gapsG n ts i n) ds < finals n (fun i => gapsG n ts i n) es := by
      refine filter_lt _ _ _ (fun i hi z => ?_) ?_
      · have z := of_decide_eq_true z
        have hi := List.mem_range.mp hi
        have c1 := q.ge i hi
        have c2 := b2 i hi
        exact decide_eq_true (show es.getD i 0 = gapsG n ts i n by
          have c2 : es.getD i 0 ≤ gapsG n ts i n := c2
          have z : ds.getD i 0 = gapsG n ts i n := z
          omega)
      · have ex : ∃ i, i < n ∧ ds.getD i 0 < gapsG n ts i n := by
          rcases Classical.em (∃ i, i < n ∧ ds.getD i 0 < gapsG n ts i n) with z | z
          · exact z
          · exfalso
            have : finals n (fun i => gapsG n ts i n) ds = n := by
              unfold finals
              rw [List.filter_eq_self.mpr fun i hi => decide_eq_true ?_]
              · simp
              · have hi := List.mem_range.mp hi
                have c := b1 i hi
                have c2 : ¬ ds.getD i 0 < gapsG n ts i n := fun y => z ⟨i, hi, y⟩
                have c : ds.getD i 0 ≤ gapsG n ts i n := c
                show ds.getD i 0 = gapsG n ts i n
                omega
            omega
        obtain ⟨t, ht, u1, u2, u3⟩ := support hok f lst (fun i => i < n ∧ ds.getD i 0 < gapsG n ts i n) (fun i hi => ⟨hi.1, by have := h.lo i hi.1; have := hi.2; omega⟩) ex
        have ok := hok t ht
        have t0 : ¬ t.1 < 0 := fun z => by
          rw [nd_neg z] at u1
          exact Nat.lt_irrefl n u1.1
        rw [nd_nat t0] at u1 u3
        refine ⟨t.1.toNat, List.mem_range.mpr u1.1, decide_eq_true ?_, decide_eq_false (by have := u1.2; show ¬ ds.getD _ 0 = gapsG n ts _ n; omega)⟩
        have k1 := q.ke t ht (by omega)
        have k2 := b2 _ u1.1
        have k3 : gapsG n ts (nd n t.2.1) n ≤ valD ds n (nd n t.2.1) := by
          unfold valD
          split
          · rename_i e
            rw [e, hd n (Nat.le_refl n)]
            exact Int.le_refl _
          · rename_i e
            have hle := nd_le (n := n) ok.2.2.2.1
            have : ¬ ds.getD (nd n t.2.1) 0 < gapsG n ts (nd n t.2.1) n := fun y => u2 ⟨by omega, y⟩
            omega
        have k2 : es.getD t.1.toNat 0 ≤ gapsG n ts t.1.toNat n := k2
        show es.getD t.1.toNat 0 = gapsG n ts t.1.toNat n
        omega
    have := finals_le n (fun i => gapsG n ts i n) es
    omega
  · exfalso
    obtain ⟨i, hi, lt⟩ := q.mv hm
    have e := finals_all h3 i hi
    have := b2 i hi
    try dsimp only at this e
    omega
theorem Rounds.still {n : Nat} {ts : List Tie} {r : Nat} {ds : List Int} (h : Rounds n ts r ds false) : Rounds n ts (r + 1) ds false := ⟨h.len, h.lo, h.le, (fun _ z => Bool.noConfusion z), h.fx⟩
theorem Rounds.zero (n : Nat) (ts : List Tie) : Rounds n ts 0 (List.replicate n 0) true := by
  have e : ∀ i, (List.replicate n (0 : Int)).getD i 0 = 0 := fun i => by
    rw [List.getD_eq_getElem?_getD, List.getElem?_replicate]
    split <;> rfl
  exact ⟨by simp, fun i _ => by rw [e]; exact Int.le_refl _, fun φ f i hi => by rw [e]; exact f.lo i hi, (fun _ _ => ⟨Nat.zero_le _, Nat.zero_le _⟩), (fun z => Bool.noConfusion z)⟩
/-- at the end: still moving means that they can't be -/
theorem Rounds.end_ {n : Nat} {ts : List Tie} {ds : List Int} (h : Rounds n ts (n + 2) ds true) : ¬ ∀ i, i ≤ n → gapsG n ts i i = 0 := fun hd => by
  have := (h.pr hd rfl).1
  omega
/-! days as ways -/
def wayF (n : Nat) (ds : List Int) : Nat → Int := fun i => if i = n then 0 else ds.getD i 0
theorem dayOf_nd {n : Nat} {ds : List Int} {o : Int} (h1 : o < n) : dayOf ds o = wayF n ds (nd n o) := by
  unfold dayOf wayF nd
  by_cases h : o < 0
  · rw [if_pos h, if_pos h, if_pos rfl]
  · rw [if_neg h, if_neg h, if_neg (by omega)]
/-- a way that keeps the ties -/
structure Way (n : Nat) (ts : List Tie) (ds : List Int) : Prop where
  len : ds.length = n
  rg : ∀ x ∈ ds, 0 ≤ x ∧ x ≤ 9999
  kp : ∀ t ∈ ts, KeptW ds t
theorem Way.feas {n : Nat} {ts : List Tie} {ds : List Int} (hok : ∀ t ∈ ts, TieIx (n : Int) t) (w : Way n ts ds) : Feas n ts (wayF n ds) := by
  have get : ∀ i, i < n → wayF n ds i ∈ ds := fun i hi => by
    unfold wayF
    rw [if_neg (by omega), List.getD_eq_getElem?_getD, List.getElem?_eq_getElem (by rw [w.len]; exact hi)]
    exact List.getElem_mem _
  refine ⟨if_pos rfl, fun i hi => (w.rg _ (get i hi)).1, fun i hi => (w.rg _ (get i hi)).2, fun t ht => ?_⟩
  have ok := hok t ht
  have := w.kp t ht
  unfold KeptW at this
  rw [dayOf_nd (n := n) ok.2.1, dayOf_nd (n := n) ok.2.2.2.1] at this
  exact this
theorem Feas.way {n : Nat} {ts : List Tie} {φ : Nat → Int} (hok : ∀ t ∈ ts, TieIx (n : Int) t) (f : Feas n ts φ) : Way n ts ((List.range n).map φ) := by
  have e : ∀ i, i ≤ n → wayF n ((List.range n).map φ) i = φ i := fun i hi => by
    unfold wayF
    split
    · rename_i e
      rw [e, f.z]
    · rw [List.getD_eq_getElem?_getD, List.getElem?_map, List.getElem?_range (by omega)]
      rfl
  refine ⟨by simp, fun x hx => ?_, fun t ht => ?_⟩
  · obtain ⟨i, hi, rfl⟩ := List.mem_map.mp hx
    exact ⟨f.lo i (List.mem_range.mp hi), f.hi i (List.mem_range.mp hi)⟩
  · have ok := hok t ht
    unfold KeptW
    rw [dayOf_nd (n := n) ok.2.1, dayOf_nd (n := n) ok.2.2.2.1, e _ (nd_le ok.2.1), e _ (nd_le ok.2.2.2.1)]
    exact f.ke t ht
def Can (n : Nat) (ts : List Tie) : Prop := ∃ φ, Feas n ts φ
theorem Can.iff {n : Nat} {ts : List Tie} (hok : ∀ t ∈ ts, TieIx (n : Int) t) : Can n ts ↔ ∀ i, i ≤ n → gapsG n ts i i = 0 := can_iff hok
/-- a round, as far as the ties l -/
structure RoundP (n : Nat) (ts l : List Tie) (ds es : List Int) (moved : Bool) : Prop where
  len : es.length = n
  ge : ∀ i, i < n → ds.getD i 0 ≤ es.getD i 0
  le : ∀ φ, Feas n ts φ → (∀ i, i < n → ds.getD i 0 ≤ φ i) → ∀ i, i < n → es.getD i 0 ≤ φ i
  ke : ∀ t ∈ l, 0 ≤ t.1 → valD ds n (nd n t.2.1) + t.2.2 ≤ es.getD t.1.toNat 0
  mv : moved = true → ∃ i, i < n ∧ ds.getD i 0 < es.getD i 0
  st : moved = false → es = ds
theorem RoundP.start {n : Nat} {ts : List Tie} {ds : List Int} (h : ds.length = n) : RoundP n ts [] ds ds false :=
  ⟨h, fun _ _ => Int.le_refl _, fun _ _ q => q, (fun t ht => absurd ht List.not_mem_nil), (fun z => Bool.noConfusion z), fun _ => rfl⟩
theorem RoundP.done {n : Nat} {ts : List Tie} {ds es : List Int} {mv : Bool} (h : RoundP n ts ts ds es mv) : Round n ts ds es mv := ⟨h.len, h.ge, h.le, h.ke, h.mv, h.st⟩
theorem valD_day {n : Nat} {ds : List Int} {o : Int} (h : o < n) : dayOf ds o = valD ds n (nd n o) := by
  unfold dayOf valD nd
  by_cases h1 : o < 0
  · rw [if_pos h1, if_pos h1, if_pos rfl]
  · rw [if_neg h1, if_neg h1, if_neg (by omega)]
theorem RoundP.pass {n : Nat} {ts l : List Tie} {ds es : List Int} {mv : Bool} {t : Tie} (h : RoundP n ts l ds es mv) (ok : TieIx (n : Int) t) (c : ¬ (0 ≤ t.1 ∧ es.getD t.1.toNat 0 < dayOf es t.2.1 + t.2.2)) : RoundP n ts (l ++ [t]) ds es mv := by
  refine ⟨h.len, h.ge, h.le, fun u hu h0 => ?_, h.mv, h.st⟩
  rcases List.mem_append.mp hu with hu | hu
  · exact h.ke u hu h0
  · rw [List.mem_singleton.mp hu] at h0 ⊢
    have e : valD ds n (nd n t.2.1) ≤ dayOf es t.2.1 := by
      rw [valD_day (n := n) ok.2.2.2.1]
      unfold valD
      split
      · exact Int.le_refl _
      · exact h.ge _ (by have := nd_le (n := n) ok.2.2.2.1; omega)
    omega
theorem getD_set {es : List Int} {i j : Nat} {x : Int} (hj : j < es.length) : (es.set j x).getD i 0 = if i = j then x else es.getD i 0 := by
  rw [List.getD_eq_getElem?_getD, List.getElem?_set]
  by_cases e : j = i
  · subst e
    rw [if_pos rfl, if_pos hj, if_pos rfl]
    rfl
  · rw [if_neg e, if_neg (Ne.symm e), List.getD_eq_getElem?_getD]
theorem RoundP.raise {n : Nat} {ts l : List Tie} {ds es : List Int} {mv : Bool} {t : Tie} (h : RoundP n ts l ds es mv) (ht : t ∈ ts) (ok : TieIx (n : Int) t) (c0 : 0 ≤ t.1) (c : es.getD t.1.toNat 0 < dayOf es t.2.1 + t.2.2) : RoundP n ts (l ++ [t]) ds (es.set t.1.toNat (dayOf es t.2.1 + t.2.2)) true := by
  have hj : t.1.toNat < es.length := by
    have := ok.2.1
    have := h.len
    omega
  have up : ∀ i, es.getD i 0 ≤ (es.set t.1.toNat (dayOf es t.2.1 + t.2.2)).getD i 0 := fun i => by
    rw [getD_set hj]
    split
    · rename_i e
      rw [e]
      omega
    · exact Int.le_refl _
  have e0 : valD ds n (nd n t.2.1) ≤ dayOf es t.2.1 := by
    rw [valD_day (n := n) ok.2.2.2.1]
    unfold valD
    split
    · exact Int.le_refl _
    · exact h.ge _ (by have := nd_le (n := n) ok.2.2.2.1; omega)
  refine ⟨by rw [List.length_set]; exact h.len, fun i hi => Int.le_trans (h.ge i hi) (up i), fun φ f q i hi => ?_, fun u hu h0 => ?_, fun _ => ⟨t.1.toNat, by have := h.len; omega, ?_⟩, fun z => Bool.noConfusion z⟩
  · rw [getD_set hj]
    split
    · rename_i e
      have k := f.ke t ht
      rw [nd_nat (by omega)] at k
      have d : dayOf es t.2.1 ≤ φ (nd n t.2.1) := by
        rw [valD_day (n := n) ok.2.2.2.1]
        unfold valD
        split
        · rename_i e2
          rw [e2, f.z]
          exact Int.le_refl _
        · exact h.le φ f q _ (by have := nd_le (n := n) ok.2.2.2.1; omega)
      rw [e]
      omega
    · exact h.le φ f q i hi
  · rcases List.mem_append.mp hu with hu | hu
    · exact Int.le_trans (h.ke u hu h0) (up _)
    · rw [List.mem_singleton.mp hu, getD_set hj, if_pos rfl]
      omega
  · have := h.ge t.1.toNat (by have := h.len; omega)
    rw [getD_set hj, if_pos rfl]
    omega
/-- at the end of all rounds: where they can be, the days keep all -/
theorem Rounds.keeps {n : Nat} {ts : List Tie} {r : Nat} {ds : List Int} (hok : ∀ t ∈ ts, TieIx (n : Int) t) (h : Rounds n ts r ds false) (c : Can n ts) : ∀ t ∈ ts, KeptW ds t := by
  intro t ht
  have ok := hok t ht
  obtain ⟨φ, f⟩ := c
  unfold KeptW
  by_cases h0 : t.1 < 0
  · rw [dayOf_neg h0, valD_day (n := n) ok.2.2.2.1]
    have k := f.ke t ht
    rw [nd_neg h0, f.z] at k
    have d : valD ds n (nd n t.2.1) ≤ φ (nd n t.2.1) := by
      unfold valD
      split
      · rename_i e2
        rw [e2, f.z]
        exact Int.le_refl _
      · exact h.le φ f _ (by have := nd_le (n := n) ok.2.2.2.1; omega)
    omega
  · have k := h.fx rfl t ht (by omega)
    rw [valD_day (n := n) ok.2.2.2.1]
    have e : dayOf ds t.1 = ds.getD t.1.toNat 0 := if_neg h0
    rw [e]
    omega
/-- the gaps hang on what is kept alone -/
theorem gaps_congr {n : Nat} {ts us : List Tie} (h1 : ∀ t ∈ ts, TieIx (n : Int) t) (h2 : ∀ t ∈ us, TieIx (n : Int) t) (e : ∀ φ, Feas n ts φ ↔ Feas n us φ) (c : Can n ts) {i j : Nat} (hi : i ≤ n) (hj : j ≤ n) : gapsG n ts i j = gapsG n us i j := by
  have c2 : Can n us := by
    obtain ⟨φ, f⟩ := c
    exact ⟨φ, (e φ).mp f⟩
  have d1 := (can_iff h1).mp c
  have d2 := (can_iff h2).mp c2
  have a1 := gap_le ((e _).mp (feas_gap h1 d1 hj)) hi hj
  have a2 := gap_le ((e _).mpr (feas_gap h2 d2 hj)) hi hj
  have b1 := d1 j hj
  have b2 := d2 j hj
  omega
/-- the least days, as a list -/
theorem least_is {n : Nat} {ts : List Tie} (hok : ∀ t ∈ ts, TieIx (n : Int) t) {ds : List Int} (w : Way n ts ds) (l : ∀ φ, Feas n ts φ → ∀ i, i < n → ds.getD i 0 ≤ φ i) : ds = (List.range n).map fun i => gapsG n ts i n := by
  have c := w.feas hok
  have d := (can_iff hok).mp ⟨_, c⟩
  apply List.ext_getElem?
  intro i
  rcases Nat.lt_or_ge i n with h | h
  · have h1 := l _ (feas_least hok d) i h
    have h2 := gap_le c (Nat.le_of_lt h) (Nat.le_refl n)
    have e1 : wayF n ds i = ds.getD i 0 := if_neg (by omega)
    rw [e1, c.z] at h2
    have e2 : ds[i]? = some (ds.getD i 0) := by
      rw [List.getD_eq_getElem?_getD, List.getElem?_eq_getElem (by rw [w.len]; exact h)]
      rfl
    rw [e2, List.getElem?_map, List.getElem?_range h]
    show some (ds.getD i 0) = some (gapsG n ts i n)
    congr 1
    omega
  · rw [List.getElem?_eq_none (by rw [w.len]; exact h), List.getElem?_eq_none (by simpa using h)]
/-- the greatest days -/
theorem greatest {n : Nat} {ts : List Tie} (hok : ∀ t ∈ ts, TieIx (n : Int) t) (d : ∀ i, i ≤ n → gapsG n ts i i = 0) {k : Nat} (hk : k < n) : (∃ φ, Feas n ts φ ∧ φ k = - gapsG n ts n k) ∧ ∀ φ, Feas n ts φ → φ k ≤ - gapsG n ts n k := by
  refine ⟨⟨_, feas_gap hok d (Nat.le_of_lt hk), ?_⟩, fun φ f => ?_⟩
  · have := d k (Nat.le_of_lt hk)
    show gapsG n ts k k - gapsG n ts n k = _
    omega
  · have := gap_le f (Nat.le_refl n) (Nat.le_of_lt hk)
    rw [f.z] at this
    omega
end LH

set_option Elab.async false
set_option linter.all false
set_option maxRecDepth 100000
set_option maxHeartbeats 4000000
namespace LH
open PySem PySem.Spec PyProof.Rows L2
/-! a square of numbers, a list for each row -/
def rowL (n : Nat) (r : Nat → Int) : List Int := (List.range (n + 1)).map r
structure MatAt (H : Hp) (as : List Addr) (R : Nat → Nat → Int) (n : Nat) : Prop where
  len : as.length = n + 1
  nd : as.Nodup
  row : ∀ i a, as[i]? = some a → H a = some (.lst ((rowL n (R i)).map V.int))
theorem rowL_len (n : Nat) (r : Nat → Int) : (rowL n r).length = n + 1 := by simp [rowL]
theorem rowL_get {n j : Nat} (r : Nat → Int) (h : j ≤ n) : (rowL n r)[j]? = some (r j) := by
  unfold rowL
  rw [List.getElem?_map, List.getElem?_range (by omega)]
  rfl
theorem rowL_congr {n : Nat} {r q : Nat → Int} (h : ∀ j, j ≤ n → r j = q j) : rowL n r = rowL n q := by
  unfold rowL
  exact List.map_congr_left fun j hj => h j (by have := List.mem_range.mp hj; omega)
theorem MatAt.mono {H H' : Hp} {as : List Addr} {R : Nat → Nat → Int} {n : Nat} (e : Same H H') (h : MatAt H as R n) : MatAt H' as R n := ⟨h.len, h.nd, fun i a ha => e _ _ (h.row i a ha)⟩
theorem MatAt.congr {H : Hp} {as : List Addr} {R R' : Nat → Nat → Int} {n : Nat} (h : MatAt H as R n) (e : ∀ i j, i ≤ n → j ≤ n → R i j = R' i j) : MatAt H as R' n :=
  ⟨h.len, h.nd, fun i a ha => by
    have hi : i < as.length := (List.getElem?_eq_some_iff.mp ha).1
    rw [← rowL_congr fun j hj => e i j (by have := h.len; omega) hj]
    exact h.row i a ha⟩
theorem MatAt.get {H : Hp} {as : List Addr} {R : Nat → Nat → Int} {n : Nat} (h : MatAt H as R n) {i : Nat} (hi : i ≤ n) : ∃ a, as[i]? = some a ∧ H a = some (.lst ((rowL n (R i)).map V.int)) := by
  have q : i < as.length := by rw [h.len]; omega
  exact ⟨_, List.getElem?_eq_getElem q, h.row i _ (List.getElem?_eq_getElem q)⟩
/-- places from the end, too -/
theorem at_nd {α : Type} {l : List α} {n : Nat} {o : Int} {v : α} (hl : l.length = n + 1) (h1 : -1 ≤ o) (h2 : o ≤ n) (e : l[nd n o]? = some v) : atI l o = some v := by
  unfold atI ixN
  rw [hl]
  by_cases h : o < 0
  · have e1 : o = -1 := by omega
    subst e1
    rw [nd_neg h] at e
    rw [if_neg (by omega), if_pos (by omega), show ((-1 : Int) + ((n + 1 : Nat) : Int)).toNat = n by omega]
    exact e
  · rw [nd_nat h] at e
    rw [if_pos (by omega), if_pos (by omega)]
    exact e
theorem ix_nd {m n : Nat} {o : Int} (hl : m = n + 1) (h1 : -1 ≤ o) (h2 : o ≤ n) : ixN m o = some (nd n o) := by
  unfold ixN
  by_cases h : o < 0
  · have e1 : o = -1 := by omega
    subst e1
    rw [nd_neg h, if_neg (by omega), if_pos (by omega), show ((-1 : Int) + ((m : Nat) : Int)).toNat = n by omega]
  · rw [nd_nat h, if_pos (by omega), if_pos (by omega)]
theorem get_refs {as : List Addr} {i : Nat} {a : Addr} (h : as[i]? = some a) : (as.map V.ref)[i]? = some (V.ref a) := by
  rw [List.getElem?_map, h]
  rfl
theorem row_at {n : Nat} {r : Nat → Int} {o : Int} (h1 : -1 ≤ o) (h2 : o ≤ n) (hn : nd n o ≤ n) : atI ((rowL n r).map V.int) o = some (V.int (r (nd n o))) :=
  at_nd (by simp [rowL_len]) h1 h2 (by rw [List.getElem?_map, rowL_get r hn]; rfl)
theorem rowL_set {n j : Nat} {r : Nat → Int} {x : Int} (h : j ≤ n) : (rowL n r).set j x = rowL n (fun k => if k = j then x else r k) := by
  apply List.ext_getElem?
  intro k
  rcases Nat.lt_or_ge k (n + 1) with h1 | h1
  · rw [rowL_get _ (by omega), List.getElem?_set]
    by_cases e : j = k
    · subst e
      rw [if_pos rfl, rowL_len, if_pos (by omega), if_pos rfl]
    · rw [if_neg e, rowL_get _ (by omega), if_neg (Ne.symm e)]
  · rw [List.getElem?_eq_none (by rw [List.length_set, rowL_len]; exact h1), List.getElem?_eq_none (by rw [rowL_len]; exact h1)]
/-- one cell stored -/
theorem MatAt.set {H : Hp} {as : List Addr} {R : Nat → Nat → Int} {n i j : Nat} {a : Addr} {x : Int} (h : MatAt H as R n) (ha : as[i]? = some a) (hj : j ≤ n) :
    MatAt (upd H a (.lst (((rowL n (R i)).map V.int).set j (V.int x)))) as (fun k l => if k = i ∧ l = j then x else R k l) n := by
  refine ⟨h.len, h.nd, fun k b hb => ?_⟩
  by_cases e : k = i
  · subst e
    rw [ha] at hb
    cases hb
    rw [upd_same, ← List.map_set, rowL_set hj]
    congr 4
    funext l
    by_cases q : l = j <;> simp [q]
  · have ne : b ≠ a := fun z => e (nd_ix h.nd (by rw [z] at hb; exact hb) ha)
    rw [upd_ne ne, h.row k b hb]
    congr 4
    funext l
    rw [if_neg fun z => e z.1]
theorem max_if (a b : Int) : (if b > a then b else a) = max a b := by
  split <;> omega
/-- the first row of a square of gaps -/
theorem row0_eq (n : Nat) : List.replicate n (-9999 : Int) ++ [0] = rowL n (fun j => if j = n then 0 else -9999) := by
  apply List.ext_getElem?
  intro k
  rcases Nat.lt_trichotomy k n with h | h | h
  · rw [List.getElem?_append_left (by simpa using h), List.getElem?_replicate, if_pos h, rowL_get _ (by omega), if_neg (by omega)]
  · subst h
    rw [List.getElem?_append_right (by simp), rowL_get _ (Nat.le_refl _), if_pos rfl]
    simp
  · rw [List.getElem?_eq_none (by simp; omega), List.getElem?_eq_none (by rw [rowL_len]; omega)]
theorem all_diag {n : Nat} {R : Nat → Nat → Int} : ((List.range (n + 1)).map fun i => decide (R i i = 0)).all id = true ↔ ∀ i, i ≤ n → R i i = 0 := by
  rw [List.all_map, List.all_eq_true]
  constructor
  · intro h i hi
    have := h i (List.mem_range.mpr (by omega))
    exact of_decide_eq_true this
  · intro h i hi
    exact decide_eq_true (h i (by have := List.mem_range.mp hi; omega))
def retE (st : Stmt) : Expr := match st with
  | .Return (some e) _ => e
  | _ => .Constant .none 0 ⟨0, 0, 0, 0⟩
def lcScope (e : Expr) : Scope := match e with
  | .ListComp _ _ sc _ => sc
  | _ => { kind := .function, names := [], isGenerator := false, isCoroutine := false }
structure MaybeAt (H H' : Hp) (p l : Addr) (xs : List V) (ts : List Tie) (m most : Int) : Prop where
  same : Same H H'
  np : H p = none
  nl : H l = none
  tup : H' p = some (.tup [.int m, .ref l])
  lst : H' l = some (.lst xs)
  ties : TiesAt H' xs ts
  m1 : 1 ≤ m
  m10 : m ≤ 10
  ok : ∀ t ∈ ts, TieOk m t
  tl : (ts.length : Int) ≤ most
/-- what the law's own raising of days tells -/
def EarlyIs (n : Nat) (ts : List Tie) (H H' : Hp) (v : V) : Prop :=
  (v = .non ∧ ¬ Can n ts) ∨ ∃ (p : Addr) (ds : List Int), v = .ref p ∧ H p = none ∧ H' p = some (.lst (ds.map V.int)) ∧ Way n ts ds ∧ ∀ φ, Feas n ts φ → ∀ i, i < n → ds.getD i 0 ≤ φ i
theorem Way.can {n : Nat} {ts : List Tie} {ds : List Int} (hok : ∀ t ∈ ts, TieIx (n : Int) t) (w : Way n ts ds) : Can n ts := ⟨_, w.feas hok⟩
theorem TieOk.mono {m m' : Int} {t : Tie} (h : TieOk m t) (e : m ≤ m') : TieOk m' t := by
  unfold TieOk at *
  omega
theorem mem_rep {α : Type} {x : α} {l : List α} : ∀ {k : Nat}, x ∈ (List.replicate k l).flatten → x ∈ l
  | 0, h => by simp at h
  | k + 1, h => by
    rw [List.replicate_succ, List.flatten_cons] at h
    rcases List.mem_append.mp h with h | h
    · exact h
    · exact mem_rep h
theorem ties_cut {H : Hp} {zs : List V} {us : List Tie} (h : TiesAt H zs us) (k : Nat) : ∃ vs : List Tie, TiesAt H (cutV zs none (some (k : Int))) vs ∧ vs.length ≤ k ∧ ∀ t ∈ vs, t ∈ us := by
  unfold cutV
  refine ⟨_, (h.drop _).take _, ?_, fun t ht => List.mem_of_mem_drop (List.mem_of_mem_take ht)⟩
  rw [List.length_take]
  refine Nat.le_trans (Nat.min_le_left _ _) ?_
  rw [HT.sIx_nat, HT.sIx_none]
  omega
theorem rep_len {α : Type} (l : List α) (k : Nat) : (List.replicate k l).flatten.length = k * l.length := by simp
theorem cut_back {α : Type} (f : α → V) {xs : List α} {n : Nat} (h : xs.length = n + 1) : cutV (xs.map f) none (some (-1)) = (xs.take n).map f := by
  unfold cutV
  have e : HT.sIx (n + 1) (n + 1) (some (-1)) = n := by
    simp only [HT.sIx]
    first | omega | (simp; omega) | simp
  rw [List.length_map, h, HT.sIx_none, e, List.drop_zero, Nat.sub_zero, List.map_take]
theorem cut_last {as : List Addr} {n : Nat} (h : as.length = n + 1) : cutV (as.map V.ref) none (some (-1)) = (as.take n).map V.ref := cut_back _ h
theorem cut_row {n : Nat} {r : Nat → Int} : cutV ((rowL n r).map V.int) none (some (-1)) = ((List.range n).map r).map V.int := by
  rw [cut_back _ (rowL_len n r)]
  unfold rowL
  rw [← List.map_take, List.take_range]
  simp
end LH

set_option Elab.async false
set_option linter.all false
set_option maxRecDepth 100000
set_option maxHeartbeats 4000000
namespace LH
open PySem PySem.Spec PyProof.Rows L2
/-! lives by other numbers -/
def renO (fs : List Nat) (o : Int) : Int := if o < 0 then -1 else ((fs.getD o.toNat 0 : Nat) : Int)
def renT (fs : List Nat) (t : Tie) : Tie := (renO fs t.1, renO fs t.2.1, t.2.2)
def renN (fs : List Nat) (n i : Nat) : Nat := if i = n then n else fs.getD i 0
section
variable {n : Nat} {fs : List Nat} (hp : fs.Perm (List.range n))
include hp
theorem perm_len : fs.length = n := by
  rw [hp.length_eq, List.length_range]
theorem perm_lt {i : Nat} (hi : i < n) : fs.getD i 0 < n := by
  have h : fs.getD i 0 ∈ fs := by
    rw [List.getD_eq_getElem?_getD, List.getElem?_eq_getElem (by rw [perm_len hp]; exact hi)]
    exact List.getElem_mem _
  exact List.mem_range.mp (hp.mem_iff.mp h)
theorem perm_nd : fs.Nodup := hp.nodup_iff.mpr List.nodup_range
theorem perm_inj {i j : Nat} (hi : i < n) (hj : j < n) (e : fs.getD i 0 = fs.getD j 0) : i = j := by
  have l := perm_len hp
  have a : fs[i]? = some (fs.getD i 0) := by
    rw [List.getD_eq_getElem?_getD, List.getElem?_eq_getElem (by omega)]
    rfl
  have b : fs[j]? = some (fs.getD i 0) := by
    rw [e, List.getD_eq_getElem?_getD, List.getElem?_eq_getElem (by omega)]
    rfl
  exact nd_ix (perm_nd hp) a b
theorem perm_sur {j : Nat} (hj : j < n) : ∃ i, i < n ∧ fs.getD i 0 = j := by
  have h : j ∈ fs := hp.mem_iff.mpr (List.mem_range.mpr hj)
  obtain ⟨i, hi⟩ := List.getElem?_of_mem h
  have hl : i < fs.length := (List.getElem?_eq_some_iff.mp hi).1
  exact ⟨i, by rw [perm_len hp] at hl; exact hl, getD_of hi⟩
theorem renN_le {i : Nat} (hi : i ≤ n) : renN fs n i ≤ n := by
  unfold renN
  split
  · exact Nat.le_refl _
  · exact Nat.le_of_lt (perm_lt hp (by omega))
theorem renN_inj {i j : Nat} (hi : i ≤ n) (hj : j ≤ n) (e : renN fs n i = renN fs n j) : i = j := by
  unfold renN at e
  by_cases a : i = n
  · by_cases b : j = n
    · omega
    · rw [if_pos a, if_neg b] at e
      have := perm_lt hp (i := j) (by omega)
      omega
  · by_cases b : j = n
    · rw [if_neg a, if_pos b] at e
      have := perm_lt hp (i := i) (by omega)
      omega
    · rw [if_neg a, if_neg b] at e
      exact perm_inj hp (by omega) (by omega) e
theorem nd_ren {o : Int} (h2 : o < n) : nd n (renO fs o) = renN fs n (nd n o) := by
  unfold renO
  by_cases h : o < 0
  · rw [if_pos h, nd_neg (by decide), nd_neg h]
    unfold renN
    rw [if_pos rfl]
  · rw [if_neg h, nd_nat (by omega), nd_nat h]
    unfold renN
    rw [if_neg (by omega)]
    omega
theorem feas_ren {ts : List Tie} (hok : ∀ t ∈ ts, TieIx (n : Int) t) (ψ : Nat → Int) : Feas n (ts.map (renT fs)) ψ ↔ Feas n ts (fun i => ψ (renN fs n i)) := by
  have zz : renN fs n n = n := if_pos rfl
  constructor
  · intro f
    refine ⟨by rw [zz]; exact f.z, fun i hi => ?_, fun i hi => ?_, fun t ht => ?_⟩
    · have e : renN fs n i = fs.getD i 0 := if_neg (by omega)
      rw [e]
      exact f.lo _ (perm_lt hp hi)
    · have e : renN fs n i = fs.getD i 0 := if_neg (by omega)
      rw [e]
      exact f.hi _ (perm_lt hp hi)
    · have k := f.ke (renT fs t) (List.mem_map_of_mem ht)
      have ok := hok t ht
      unfold renT at k
      dsimp only at k
      rw [nd_ren hp ok.2.1, nd_ren hp ok.2.2.2.1] at k
      exact k
  · intro f
    refine ⟨by have := f.z; rw [zz] at this; exact this, fun j hj => ?_, fun j hj => ?_, fun u hu => ?_⟩
    · obtain ⟨i, hi, e⟩ := perm_sur hp hj
      have := f.lo i hi
      have e2 : renN fs n i = fs.getD i 0 := if_neg (by omega)
      rw [e2, e] at this
      exact this
    · obtain ⟨i, hi, e⟩ := perm_sur hp hj
      have := f.hi i hi
      have e2 : renN fs n i = fs.getD i 0 := if_neg (by omega)
      rw [e2, e] at this
      exact this
    · obtain ⟨t, ht, rfl⟩ := List.mem_map.mp hu
      have ok := hok t ht
      have k := f.ke t ht
      unfold renT
      dsimp only
      rw [nd_ren hp ok.2.1, nd_ren hp ok.2.2.2.1]
      exact k
theorem ren_back (φ : Nat → Int) : ∃ ψ : Nat → Int, ∀ i, i ≤ n → ψ (renN fs n i) = φ i := by
  classical
  refine ⟨fun j => if h : ∃ i, i ≤ n ∧ renN fs n i = j then φ h.choose else 0, fun i hi => ?_⟩
  have h : ∃ k, k ≤ n ∧ renN fs n k = renN fs n i := ⟨i, hi, rfl⟩
  show (if h : ∃ k, k ≤ n ∧ renN fs n k = renN fs n i then φ h.choose else 0) = φ i
  rw [dif_pos h]
  exact congrArg φ (renN_inj hp h.choose_spec.1 hi h.choose_spec.2)
theorem feas_val {ts : List Tie} {φ χ : Nat → Int} (hok : ∀ t ∈ ts, TieIx (n : Int) t) (f : Feas n ts φ) (e : ∀ i, i ≤ n → χ i = φ i) : Feas n ts χ := by
  refine ⟨by rw [e n (Nat.le_refl n)]; exact f.z, fun i hi => by rw [e i (Nat.le_of_lt hi)]; exact f.lo i hi, fun i hi => by rw [e i (Nat.le_of_lt hi)]; exact f.hi i hi, fun t ht => ?_⟩
  have ok := hok t ht
  rw [e _ (nd_le ok.2.1), e _ (nd_le ok.2.2.2.1)]
  exact f.ke t ht
theorem can_ren {ts : List Tie} (hok : ∀ t ∈ ts, TieIx (n : Int) t) : Can n (ts.map (renT fs)) ↔ Can n ts := by
  constructor
  · rintro ⟨ψ, f⟩
    exact ⟨_, (feas_ren hp hok ψ).mp f⟩
  · rintro ⟨φ, f⟩
    obtain ⟨ψ, e⟩ := ren_back hp φ
    exact ⟨ψ, (feas_ren hp hok ψ).mpr (feas_val hp hok f e)⟩
theorem ren_ok {m : Int} {t : Tie} (hm : m = (n : Int)) (h : TieOk m t) : TieOk m (renT fs t) := by
  subst hm
  obtain ⟨h1, h2, h3, h4, h5, h6, h7⟩ := h
  unfold TieOk renT
  dsimp only
  have r : ∀ o : Int, -1 ≤ o → o < n → -1 ≤ renO fs o ∧ renO fs o < n := fun o a b => by
    unfold renO
    split
    · omega
    · have := perm_lt hp (i := o.toNat) (by omega)
      omega
  obtain ⟨a1, a2⟩ := r _ h1 h2
  obtain ⟨b1, b2⟩ := r _ h3 h4
  refine ⟨a1, a2, b1, b2, fun e => h5 ?_, h6, h7⟩
  unfold renO at e
  by_cases c1 : t.1 < 0
  · by_cases c2 : t.2.1 < 0
    · omega
    · rw [if_pos c1, if_neg c2] at e
      omega
  · by_cases c2 : t.2.1 < 0
    · rw [if_neg c1, if_pos c2] at e
      omega
    · rw [if_neg c1, if_neg c2] at e
      have := perm_inj hp (i := t.1.toNat) (j := t.2.1.toNat) (by omega) (by omega) (by omega)
      omega
theorem gap_ren {ts : List Tie} (hok : ∀ t ∈ ts, TieIx (n : Int) t) (hok2 : ∀ t ∈ ts.map (renT fs), TieIx (n : Int) t) (c : Can n ts) {i j : Nat} (hi : i ≤ n) (hj : j ≤ n) : gapsG n (ts.map (renT fs)) (renN fs n i) (renN fs n j) = gapsG n ts i j := by
  have d1 := (can_iff hok).mp c
  have d2 := (can_iff hok2).mp ((can_ren hp hok).mpr c)
  have a1 := gap_le ((feas_ren hp hok _).mp (feas_gap hok2 d2 (renN_le hp hj))) hi hj
  obtain ⟨ψ, e⟩ := ren_back hp (fun i => gapsG n ts i j - gapsG n ts n j)
  have a2 := gap_le ((feas_ren hp hok ψ).mpr (feas_val hp hok (feas_gap hok d1 hj) e)) (renN_le hp hi) (renN_le hp hj)
  rw [e i hi, e j hj] at a2
  have b1 := d1 j hj
  have b2 := d2 _ (renN_le hp hj)
  omega
end
/-! another order, ties twice, weaker ones beside -/
def weakT (less : Int) (t : Tie) : Tie := (t.1, t.2.1, if t.2.2 - less > -9999 then t.2.2 - less else -9999)
def tie0 : Tie := (0, 0, 0)
theorem feas_other {n : Nat} {ts : List Tie} {ps : List Nat} {less : Int} (hl : 0 ≤ less) (hok : ∀ t ∈ ts, TieOk (n : Int) t) (hp : ps.Perm (List.range ts.length)) (φ : Nat → Int) :
    Feas n ts φ ↔ Feas n (ps.map (fun j => ts.getD j tie0) ++ ts.take 5 ++ (ts.drop 5).map (weakT less)) φ := by
  have mem : ∀ t, t ∈ ps.map (fun j => ts.getD j tie0) ↔ t ∈ ts := fun t => by
    constructor
    · intro h
      obtain ⟨j, hj, rfl⟩ := List.mem_map.mp h
      have hj := List.mem_range.mp (hp.mem_iff.mp hj)
      rw [List.getD_eq_getElem?_getD, List.getElem?_eq_getElem hj]
      exact List.getElem_mem _
    · intro h
      obtain ⟨j, hj⟩ := List.getElem?_of_mem h
      have hl := (List.getElem?_eq_some_iff.mp hj).1
      exact List.mem_map.mpr ⟨j, hp.mem_iff.mpr (List.mem_range.mpr hl), getD_of hj⟩
  constructor
  · intro f
    refine ⟨f.z, f.lo, f.hi, fun t ht => ?_⟩
    rcases List.mem_append.mp ht with ht | ht
    · rcases List.mem_append.mp ht with ht | ht
      · exact f.ke t ((mem t).mp ht)
      · exact f.ke t (List.mem_of_mem_take ht)
    · obtain ⟨u, hu, rfl⟩ := List.mem_map.mp ht
      have hu := List.mem_of_mem_drop hu
      have k := f.ke u hu
      have ok := hok u hu
      have l1 := f.lo' (nd_le (n := n) ok.2.1)
      have h2 : φ (nd n u.2.1) ≤ 9999 := by
        rcases Nat.lt_or_ge (nd n u.2.1) n with z | z
        · exact f.hi _ z
        · have := nd_le (n := n) ok.2.2.2.1
          have e : nd n u.2.1 = n := by omega
          rw [e, f.z]
          decide
      unfold weakT
      dsimp only
      split <;> omega
  · intro f
    exact ⟨f.z, f.lo, f.hi, fun t ht => f.ke t (List.mem_append_left _ (List.mem_append_left _ ((mem t).mpr ht)))⟩
theorem ok_other {n : Nat} {ts : List Tie} {ps : List Nat} {less : Int} (hl : 0 ≤ less) (hok : ∀ t ∈ ts, TieOk (n : Int) t) (hp : ps.Perm (List.range ts.length)) :
    ∀ t ∈ ps.map (fun j => ts.getD j tie0) ++ ts.take 5 ++ (ts.drop 5).map (weakT less), TieOk (n : Int) t := by
  intro t ht
  rcases List.mem_append.mp ht with ht | ht
  · rcases List.mem_append.mp ht with ht | ht
    · obtain ⟨j, hj, rfl⟩ := List.mem_map.mp ht
      have hj := List.mem_range.mp (hp.mem_iff.mp hj)
      refine hok _ ?_
      rw [List.getD_eq_getElem?_getD, List.getElem?_eq_getElem hj]
      exact List.getElem_mem _
    · exact hok t (List.mem_of_mem_take ht)
  · obtain ⟨u, hu, rfl⟩ := List.mem_map.mp ht
    have ok := hok u (List.mem_of_mem_drop hu)
    unfold weakT
    unfold TieOk at ok ⊢
    dsimp only
    split <;> omega
theorem cut_ties_to (k : Nat) (xs : List V) : cutV xs none (some (k : Int)) = xs.take k := by
  unfold cutV
  rw [HT.sIx_nat, HT.sIx_none, List.drop_zero, Nat.sub_zero]
  rcases Nat.le_total k xs.length with h | h
  · rw [Nat.min_eq_left h]
  · rw [Nat.min_eq_right h, List.take_length, List.take_of_length_le h]
theorem cut_from (k : Nat) (xs : List V) : cutV xs (some (k : Int)) none = xs.drop k := by
  unfold cutV
  rw [HT.sIx_nat, HT.sIx_none]
  rcases Nat.le_total k xs.length with h | h
  · rw [Nat.min_eq_left h, ← List.length_drop, List.take_length]
  · rw [Nat.min_eq_right h, List.drop_length, List.drop_eq_nil_of_le h, List.take_nil]
theorem erase_map {α β : Type} (f : α → β) : ∀ (l : List α) (i : Nat), (l.map f).eraseIdx i = (l.eraseIdx i).map f
  | [], _ => rfl
  | _ :: _, 0 => rfl
  | a :: l, i + 1 => by
    show f a :: (l.map f).eraseIdx i = f a :: (l.eraseIdx i).map f
    rw [erase_map f l i]
theorem perm_erase {α : Type} : ∀ {l : List α} {i : Nat} {x : α}, l[i]? = some x → (x :: l.eraseIdx i).Perm l
  | [], i, x, h => by simp at h
  | a :: l, 0, x, h => by
    have e : a = x := Option.some.inj h
    subst e
    exact List.Perm.refl _
  | a :: l, i + 1, x, h => by
    have ih := perm_erase (l := l) (i := i) (x := x) h
    show (x :: a :: l.eraseIdx i).Perm (a :: l)
    exact (List.Perm.swap a x _).trans (List.Perm.cons a ih)
theorem ties_pick {H : Hp} {xs : List V} {ts : List Tie} (h : TiesAt H xs ts) : ∀ ps : List Nat, (∀ j ∈ ps, j < xs.length) → TiesAt H (ps.map fun j => xs.getD j .non) (ps.map fun j => ts.getD j tie0)
  | [], _ => trivial
  | j :: ps, hp => by
    have hj := hp j List.mem_cons_self
    obtain ⟨t, ht, hv⟩ := h.get (List.getElem?_eq_getElem hj)
    refine ⟨?_, ties_pick h ps fun k hk => hp k (List.mem_cons_of_mem _ hk)⟩
    show TieAt H (xs.getD j .non) (ts.getD j tie0)
    rw [List.getD_eq_getElem?_getD, List.getElem?_eq_getElem hj, getD_of ht]
    exact hv
/-- -1 if o < 0 else names[o] -/
theorem if_name {K : PySem.W.Frag} {fs : List Nat} {a : Addr} {o : Int} {i j : Nat} {σ : L2.St} {H : Hp} {Q : VK} (hS : SqL K H a ((fs.map fun j : Nat => (j : Int)).map V.int)) (hi : σ[i]? = some (some (.int o))) (hj : σ[j]? = some (some (.ref a))) (ho : o < fs.length) (q : Q (.int (renO fs o)) H) :
    tIf (tTest (tOp (rI0 fun i j => .bl (decide (i < j))) (tVar i) (tC (.int 0)))) (tUn (rU fun i => .int (-i)) (tC (.int 1))) (tOp (rIxL K) (tVar j) (tVar i)) σ H Q := by
  refine ⟨_, hi, _, _, rfl, rfl, _, rfl, ?_⟩
  refine ite2 (fun c => ?_) (fun c => ?_)
  · have c : o < 0 := of_decide_eq_true c
    unfold renO at q
    rw [if_pos c] at q
    exact ⟨_, rfl, q⟩
  · have c : ¬ o < 0 := fun z => c (decide_eq_true z)
    unfold renO at q
    rw [if_neg c] at q
    have hl : o.toNat < fs.length := by omega
    refine ⟨_, hj, _, hi, a, _, o, _, rfl, rfl, hS, at_of (j := o.toNat) (by omega) ?_, q⟩
    rw [List.getElem?_map, List.getElem?_map, List.getElem?_eq_getElem hl, List.getD_eq_getElem?_getD, List.getElem?_eq_getElem hl]
    rfl
theorem get_nats {fs : List Nat} {i : Nat} {y : V} (hi : ((fs.map fun j : Nat => (j : Int)).map V.int)[i]? = some y) : ∃ j, fs[i]? = some j ∧ y = V.int (j : Int) := by
  rw [List.getElem?_map, List.getElem?_map] at hi
  cases e : fs[i]? with
  | none => rw [e] at hi; cases hi
  | some j => rw [e] at hi; exact ⟨j, rfl, (Option.some.inj hi).symm⟩
theorem at_nats {fs : List Nat} {i : Nat} {o : Int} (e : o = (i : Int)) (h : i < fs.length) : atI ((fs.map fun j : Nat => (j : Int)).map V.int) o = some (V.int ((fs.getD i 0 : Nat) : Int)) := by
  refine at_of (j := i) e ?_
  rw [List.getElem?_map, List.getElem?_map, List.getElem?_eq_getElem h, List.getD_eq_getElem?_getD, List.getElem?_eq_getElem h]
  rfl
theorem at_rangeI {n i : Nat} {f : Nat → Int} {o : Int} (e : o = (i : Int)) (h : i < n) : atI (((List.range n).map f).map V.int) o = some (V.int (f i)) := by
  refine at_of (j := i) e ?_
  rw [List.getElem?_map, List.getElem?_map, List.getElem?_range h]
  rfl
theorem shaped_bb (a b : Bool) : SeqAt.shaped (.list [.bool a, .bool b]) = true := rfl
end LH

set_option Elab.async false
set_option linter.all false
set_option maxRecDepth 100000
set_option maxHeartbeats 4000000
namespace LH
/-! days raised with their causes -/
section
variable (n : Nat) (ev : List Tie)
def srcP (p : Nat) : Nat := nd n (ev.getD p tie0).1
def dstP (p : Nat) : Nat := nd n (ev.getD p tie0).2.1
def wtP (p : Nat) : Int := (ev.getD p tie0).2.2
/-- the one behind, by the causes -/
def nx (C : Nat → Option Nat) (v : Nat) : Nat := match C v with
  | some p => dstP n ev p
  | none => v
def itN (C : Nat → Option Nat) : Nat → Nat → Nat
  | 0, v => v
  | k + 1, v => itN C k (nx n ev C v)
/-- k causes, one behind another, from v -/
def Ch (C : Nat → Option Nat) : Nat → Nat → Prop
  | 0, _ => True
  | k + 1, v => (∃ p, C v = some p) ∧ Ch C k (nx n ev C v)
def sumC (C : Nat → Option Nat) : Nat → Nat → Int
  | 0, _ => 0
  | k + 1, v => (match C v with | some p => wtP ev p | none => 0) + sumC C k (nx n ev C v)
/-- v is met within k steps from x -/
def Met (C : Nat → Option Nat) (v : Nat) : Nat → Nat → Prop
  | 0, _ => False
  | k + 1, x => x = v ∨ Met C v k (nx n ev C x)
structure Pred (D : Nat → Int) (C : Nat → Option Nat) : Prop where
  a : ∀ v p, C v = some p → p < ev.length ∧ srcP n ev p = v ∧ D v ≤ D (dstP n ev p) + wtP ev p
  b : ∀ v k, 0 < k → Ch n ev C k v → itN n ev C k v = v → 0 < sumC n ev C k v
def setI (D : Nat → Int) (v : Nat) (x : Int) : Nat → Int := fun i => if i = v then x else D i
def setC (C : Nat → Option Nat) (v p : Nat) : Nat → Option Nat := fun i => if i = v then some p else C i
end
section
variable {n : Nat} {ev : List Tie}
theorem Pred.start : Pred n ev (fun _ => 0) (fun _ => none) := by
  refine ⟨(fun v p h => by cases h), fun v k hk h => ?_⟩
  cases k with
  | zero => exact absurd hk (Nat.lt_irrefl 0)
  | succ k =>
    obtain ⟨⟨p, hp⟩, _⟩ := h
    cases hp
/-- along causes that are new in one place the old days rise by no more than the leasts -/
theorem chain_le {D : Nat → Int} {C : Nat → Option Nat} (h : Pred n ev D C) {v p : Nat} (hs : srcP n ev p = v) (hlt : D v < D (dstP n ev p) + wtP ev p) : ∀ (k x : Nat), Ch n ev (setC C v p) k x →
    D x ≤ D (itN n ev (setC C v p) k x) + sumC n ev (setC C v p) k x ∧ (Met n ev (setC C v p) v k x → D x < D (itN n ev (setC C v p) k x) + sumC n ev (setC C v p) k x) ∧
    (¬ Met n ev (setC C v p) v k x → Ch n ev C k x ∧ itN n ev C k x = itN n ev (setC C v p) k x ∧ sumC n ev C k x = sumC n ev (setC C v p) k x)
  | 0, x, _ => ⟨by simp [itN, sumC], fun z => z.elim, fun _ => ⟨trivial, rfl, rfl⟩⟩
  | k + 1, x, hc => by
    obtain ⟨⟨q, hq⟩, hr⟩ := hc
    obtain ⟨i1, i2, i3⟩ := chain_le h hs hlt k _ hr
    have en : nx n ev (setC C v p) x = dstP n ev q := by
      unfold nx
      rw [hq]
    have es : sumC n ev (setC C v p) (k + 1) x = wtP ev q + sumC n ev (setC C v p) k (nx n ev (setC C v p) x) := by
      show (match setC C v p x with | some p => wtP ev p | none => 0) + _ = _
      rw [hq]
    have ei : itN n ev (setC C v p) (k + 1) x = itN n ev (setC C v p) k (nx n ev (setC C v p) x) := rfl
    rw [es, ei]
    by_cases e : x = v
    · have hq2 : q = p := by
        unfold setC at hq
        rw [if_pos e] at hq
        exact (Option.some.inj hq).symm
      rw [en] at i1 i2 ⊢
      rw [hq2] at i1 i2 ⊢
      rw [e]
      refine ⟨by omega, fun _ => by omega, fun z => absurd (show Met n ev (setC C v p) v (k + 1) v from .inl rfl) z⟩
    · have hq2 : C x = some q := by
        unfold setC at hq
        rw [if_neg e] at hq
        exact hq
      have le := (h.a x q hq2).2.2
      have en2 : nx n ev C x = nx n ev (setC C v p) x := by
        rw [en]
        unfold nx
        rw [hq2]
      rw [en] at i1 i2
      refine ⟨by rw [en]; omega, fun z => ?_, fun z => ?_⟩
      · rcases z with z | z
        · exact absurd z e
        · rw [en] at z ⊢
          have := i2 z
          omega
      · obtain ⟨j1, j2, j3⟩ := i3 fun y => z (.inr y)
        refine ⟨⟨⟨q, hq2⟩, by rw [en2]; exact j1⟩, ?_, ?_⟩
        · show itN n ev C k (nx n ev C x) = _
          rw [en2]
          exact j2
        · show (match C x with | some p => wtP ev p | none => 0) + sumC n ev C k (nx n ev C x) = _
          rw [hq2, en2, j3]
theorem Pred.raise {D : Nat → Int} {C : Nat → Option Nat} (h : Pred n ev D C) {v p : Nat} (hp : p < ev.length) (hs : srcP n ev p = v) (hlt : D v < D (dstP n ev p) + wtP ev p) : Pred n ev (setI D v (D (dstP n ev p) + wtP ev p)) (setC C v p) := by
  have up : ∀ i, D i ≤ setI D v (D (dstP n ev p) + wtP ev p) i := fun i => by
    unfold setI
    split
    · rename_i e
      rw [e]
      omega
    · exact Int.le_refl _
  refine ⟨fun x q hq => ?_, fun x k hk hc he => ?_⟩
  · by_cases e : x = v
    · have hq2 : q = p := by
        unfold setC at hq
        rw [if_pos e] at hq
        exact (Option.some.inj hq).symm
      subst hq2
      refine ⟨hp, hs.trans e.symm, ?_⟩
      have := up (dstP n ev q)
      have e2 : setI D v (D (dstP n ev q) + wtP ev q) x = D (dstP n ev q) + wtP ev q := if_pos e
      rw [e2]
      omega
    · have hq2 : C x = some q := by
        unfold setC at hq
        rw [if_neg e] at hq
        exact hq
      obtain ⟨h1, h2, h3⟩ := h.a x q hq2
      refine ⟨h1, h2, ?_⟩
      have := up (dstP n ev q)
      have e2 : setI D v (D (dstP n ev p) + wtP ev p) x = D x := if_neg e
      rw [e2]
      omega
  · obtain ⟨i1, i2, i3⟩ := chain_le h hs hlt k x hc
    rw [he] at i1 i2 i3
    rcases Classical.em (Met n ev (setC C v p) v k x) with m | m
    · have := i2 m
      omega
    · obtain ⟨j1, j2, j3⟩ := i3 m
      have := h.b x k hk j1 j2
      omega
/-- when each was raised last -/
structure Late (r j : Nat) (D : Nat → Int) (C : Nat → Option Nat) (ρ : Nat → Nat) (last : Nat) : Prop where
  le : ∀ v, ρ v ≤ r
  cs : ∀ v, 1 ≤ ρ v → ∃ p, C v = some p
  bk : ∀ v p, C v = some p → ρ v ≤ ρ (dstP n ev p) + 1
  d1 : ∀ q, q < j → q < ev.length → D (dstP n ev q) + wtP ev q ≤ D (srcP n ev q) ∨ r ≤ ρ (dstP n ev q)
  d2 : ∀ q, j ≤ q → q < ev.length → D (dstP n ev q) + wtP ev q ≤ D (srcP n ev q) ∨ r ≤ ρ (dstP n ev q) + 1
  la : ∀ v, ρ v ≤ ρ last
theorem Late.start : Late (n := n) (ev := ev) 1 0 (fun _ => 0) (fun _ => none) (fun _ => 0) n :=
  ⟨fun _ => Nat.zero_le _, fun v h => absurd h (by decide), (fun v p h => by cases h), (fun q h => absurd h (Nat.not_lt_zero q)), (fun q _ _ => .inr (Nat.le_refl _)), fun _ => Nat.le_refl _⟩
theorem Late.round {r : Nat} {D : Nat → Int} {C : Nat → Option Nat} {ρ : Nat → Nat} {last : Nat} (h : Late (n := n) (ev := ev) r ev.length D C ρ last) : Late (n := n) (ev := ev) (r + 1) 0 D C ρ last :=
  ⟨fun v => Nat.le_succ_of_le (h.le v), h.cs, h.bk, fun q hq => absurd hq (Nat.not_lt_zero q), fun q _ hl => (h.d1 q hl hl).imp id fun z => by omega, h.la⟩
theorem Late.pass {r j : Nat} {D : Nat → Int} {C : Nat → Option Nat} {ρ : Nat → Nat} {last : Nat} (h : Late (n := n) (ev := ev) r j D C ρ last) (hc : D (dstP n ev j) + wtP ev j ≤ D (srcP n ev j)) : Late (n := n) (ev := ev) r (j + 1) D C ρ last := by
  refine ⟨h.le, h.cs, h.bk, fun q hq hl => ?_, fun q hq hl => h.d2 q (by omega) hl, h.la⟩
  rcases Nat.lt_or_ge q j with z | z
  · exact h.d1 q z hl
  · have e : q = j := by omega
    rw [e]
    exact .inl hc
theorem Late.raise {r j : Nat} {D : Nat → Int} {C : Nat → Option Nat} {ρ : Nat → Nat} {last : Nat} (h : Late (n := n) (ev := ev) r j D C ρ last) (hj : j < ev.length) (h1 : 1 ≤ r) (hne : dstP n ev j ≠ srcP n ev j) (hlt : D (srcP n ev j) < D (dstP n ev j) + wtP ev j) :
    Late (n := n) (ev := ev) r (j + 1) (setI D (srcP n ev j) (D (dstP n ev j) + wtP ev j)) (setC C (srcP n ev j) j) (fun i => if i = srcP n ev j then r else ρ i) (srcP n ev j) := by
  have hd : r ≤ ρ (dstP n ev j) + 1 := by
    rcases h.d2 j (Nat.le_refl j) hj with z | z
    · omega
    · exact z
  have up : ∀ i, ρ i ≤ (if i = srcP n ev j then r else ρ i) := fun i => by
    split
    · exact h.le i
    · exact Nat.le_refl _
  have vu : ∀ i, D i ≤ setI D (srcP n ev j) (D (dstP n ev j) + wtP ev j) i := fun i => by
    unfold setI
    split
    · rename_i e
      rw [e]
      omega
    · exact Int.le_refl _
  have keep : ∀ q, D (dstP n ev q) + wtP ev q ≤ D (srcP n ev q) → setI D (srcP n ev j) (D (dstP n ev j) + wtP ev j) (dstP n ev q) + wtP ev q ≤ setI D (srcP n ev j) (D (dstP n ev j) + wtP ev j) (srcP n ev q) ∨ r ≤ (if dstP n ev q = srcP n ev j then r else ρ (dstP n ev q)) := fun q hq => by
    by_cases e : dstP n ev q = srcP n ev j
    · rw [if_pos e]
      exact .inr (Nat.le_refl _)
    · left
      have e1 : setI D (srcP n ev j) (D (dstP n ev j) + wtP ev j) (dstP n ev q) = D (dstP n ev q) := if_neg e
      rw [e1]
      exact Int.le_trans hq (vu _)
  refine ⟨fun v => ?_, fun (v : Nat) hv => ?_, fun v p hp => ?_, fun q hq hl => ?_, fun q hq hl => ?_, fun v => ?_⟩
  · split
    · exact Nat.le_refl _
    · exact h.le v
  · by_cases e : v = srcP n ev j
    · exact ⟨j, if_pos e⟩
    · skip
      rw [if_neg e] at hv
      obtain ⟨p, hp⟩ := h.cs v hv
      exact ⟨p, by unfold setC; rw [if_neg e]; exact hp⟩
  · by_cases e : v = srcP n ev j
    · have e2 : p = j := by
        unfold setC at hp
        rw [if_pos e] at hp
        exact (Option.some.inj hp).symm
      rw [e2]
      rw [if_pos e]
      have := up (dstP n ev j)
      omega
    · have e2 : C v = some p := by
        unfold setC at hp
        rw [if_neg e] at hp
        exact hp
      have := h.bk v p e2
      have := up (dstP n ev p)
      rw [if_neg e]
      omega
  · rcases Nat.lt_or_ge q j with z | z
    · rcases h.d1 q z hl with y | y
      · exact keep q y
      · exact .inr (Nat.le_trans y (up _))
    · have e : q = j := by omega
      rw [e]
      left
      have e1 : setI D (srcP n ev j) (D (dstP n ev j) + wtP ev j) (srcP n ev j) = D (dstP n ev j) + wtP ev j := if_pos rfl
      have e2 : setI D (srcP n ev j) (D (dstP n ev j) + wtP ev j) (dstP n ev j) = D (dstP n ev j) := if_neg hne
      rw [e1, e2]
      exact Int.le_refl _
  · rcases h.d2 q (by omega) hl with y | y
    · rcases keep q y with w | w
      · exact .inl w
      · exact .inr (Nat.le_succ_of_le w)
    · exact .inr (Nat.le_trans y (Nat.succ_le_succ (up _)))
  · rw [if_pos rfl]
    split
    · exact Nat.le_refl _
    · exact h.le v
/-- behind the last round: where no days keep all, the one raised last was raised in it -/
theorem Late.fresh {r : Nat} {D : Nat → Int} {C : Nat → Option Nat} {ρ : Nat → Nat} {last : Nat} (h : Late (n := n) (ev := ev) r ev.length D C ρ last) (hno : ¬ ∀ q, q < ev.length → D (dstP n ev q) + wtP ev q ≤ D (srcP n ev q)) : ρ last = r := by
  rcases Classical.em (∃ q, q < ev.length ∧ r ≤ ρ (dstP n ev q)) with z | z
  · obtain ⟨q, _, hq⟩ := z
    have h1 := h.la (dstP n ev q)
    have h2 := h.le last
    omega
  · exfalso
    refine hno fun q hq => ?_
    rcases h.d1 q hq hq with y | y
    · exact y
    · exact absurd ⟨q, hq, y⟩ z
theorem back_late {r : Nat} {j : Nat} {D : Nat → Int} {C : Nat → Option Nat} {ρ : Nat → Nat} {last : Nat} (h : Late (n := n) (ev := ev) r j D C ρ last) : ∀ (k v : Nat), k ≤ ρ v → Ch n ev C k v
  | 0, _, _ => trivial
  | k + 1, v, hk => by
    obtain ⟨p, hp⟩ := h.cs v (by omega)
    have hb := h.bk v p hp
    have e : nx n ev C v = dstP n ev p := by
      unfold nx
      rw [hp]
    exact ⟨⟨p, hp⟩, back_late h k _ (by rw [e]; omega)⟩
end
/-- ties and bounds that days keep make a way -/
def boundsT (n : Nat) : List Tie := ((List.range n).map fun i : Nat => [((i : Int), -1, 0), (-1, (i : Int), -9999)]).flatten
theorem mem_bounds {n : Nat} {t : Tie} : t ∈ boundsT n ↔ ∃ i : Nat, i < n ∧ (t = ((i : Int), -1, 0) ∨ t = (-1, (i : Int), -9999)) := by
  unfold boundsT
  rw [List.mem_flatten]
  constructor
  · rintro ⟨l, hl, ht⟩
    obtain ⟨i, hi, rfl⟩ := List.mem_map.mp hl
    refine ⟨i, List.mem_range.mp hi, ?_⟩
    simpa using ht
  · rintro ⟨i, hi, h⟩
    exact ⟨_, List.mem_map.mpr ⟨i, List.mem_range.mpr hi, rfl⟩, by simpa using h⟩
theorem can_of_days {n : Nat} {ts : List Tie} {D : Nat → Int} (h : ∀ q, q < (ts ++ boundsT n).length → D (dstP n (ts ++ boundsT n) q) + wtP (ts ++ boundsT n) q ≤ D (srcP n (ts ++ boundsT n) q)) : Can n ts := by
  have all : ∀ t ∈ ts ++ boundsT n, D (nd n t.2.1) + t.2.2 ≤ D (nd n t.1) := fun t ht => by
    obtain ⟨q, hq⟩ := List.getElem?_of_mem ht
    have := h q (List.getElem?_eq_some_iff.mp hq).1
    unfold dstP srcP wtP at this
    rw [getD_of hq] at this
    exact this
  refine ⟨fun i => D i - D n, by show D n - D n = 0; omega, fun i hi => ?_, fun i hi => ?_, fun t ht => ?_⟩
  · have := all ((i : Int), -1, 0) (List.mem_append_right _ (mem_bounds.mpr ⟨i, hi, .inl rfl⟩))
    dsimp only at this
    rw [nd_neg (n := n) (o := -1) (by decide), nd_nat (n := n) (o := (i : Int)) (by omega), show (i : Int).toNat = i by omega] at this
    show 0 ≤ D i - D n
    omega
  · have := all (-1, (i : Int), -9999) (List.mem_append_right _ (mem_bounds.mpr ⟨i, hi, .inr rfl⟩))
    dsimp only at this
    rw [nd_neg (n := n) (o := -1) (by decide), nd_nat (n := n) (o := (i : Int)) (by omega), show (i : Int).toNat = i by omega] at this
    show D i - D n ≤ 9999
    omega
  · have := all t (List.mem_append_left _ ht)
    show t.2.2 ≤ D (nd n t.1) - D n - (D (nd n t.2.1) - D n)
    omega
end LH

set_option Elab.async false
set_option linter.all false
set_option maxRecDepth 100000
set_option maxHeartbeats 4000000
namespace LH
open PySem PySem.Spec PyProof.Rows L2
/-! the way back along the causes -/
def nxO (n : Nat) (ev : List Tie) (C : Nat → Option Nat) (o : Int) : Int := match C (nd n o) with
  | some p => (ev.getD p tie0).2.1
  | none => o
def seqO (n : Nat) (ev : List Tie) (C : Nat → Option Nat) (o : Int) : Nat → Int
  | 0 => o
  | k + 1 => nxO n ev C (seqO n ev C o k)
theorem nd_inj {n : Nat} {a b : Int} (a1 : -1 ≤ a) (a2 : a < n) (b1 : -1 ≤ b) (b2 : b < n) (e : nd n a = nd n b) : a = b := by
  unfold nd at e
  split at e <;> split at e <;> omega
theorem nodup_le : ∀ (m : Nat) (l : List Nat), l.Nodup → (∀ x ∈ l, x < m) → l.length ≤ m
  | 0, l, _, h => by
    cases l with
    | nil => exact Nat.le_refl _
    | cons a l => exact absurd (h a List.mem_cons_self) (Nat.not_lt_zero a)
  | m + 1, l, hn, h => by
    by_cases hm : m ∈ l
    · have p := List.perm_cons_erase hm
      have ih := nodup_le m (l.erase m) (hn.erase m) fun x hx => by
        have h1 := h x (List.mem_of_mem_erase hx)
        have h2 : x ≠ m := fun e => by
          rw [e] at hx
          exact hn.not_mem_erase hx
        omega
      have e := p.length_eq
      rw [List.length_cons] at e
      omega
    · have ih := nodup_le m l hn fun x hx => by
        have h1 := h x hx
        have h2 : x ≠ m := fun e => hm (e ▸ hx)
        omega
      omega
theorem nodup_range_map {α : Type} {f : Nat → α} {m : Nat} (h : ∀ a b, a < b → b < m → f a ≠ f b) : ((List.range m).map f).Nodup := by
  unfold List.Nodup
  rw [List.pairwise_map]
  exact List.Pairwise.imp_of_mem (fun _ hb hab => h _ _ hab (List.mem_range.mp hb)) List.pairwise_lt_range
structure Back (n : Nat) (ev : List Tie) (C : Nat → Option Nat) (o : Int) : Prop where
  ok : ∀ t ∈ ev, TieOk (n : Int) t
  o1 : -1 ≤ o
  o2 : o < n
  ch : Ch n ev C (n + 1) (nd n o)
  pr : ∃ D, Pred n ev D C
section
variable {n : Nat} {ev : List Tie} {C : Nat → Option Nat} {o : Int} (B : Back n ev C o)
include B
theorem seq_in : ∀ k, k ≤ n + 1 → -1 ≤ seqO n ev C o k ∧ seqO n ev C o k < n ∧ Ch n ev C (n + 1 - k) (nd n (seqO n ev C o k))
  | 0, _ => ⟨B.o1, B.o2, B.ch⟩
  | k + 1, hk => by
    obtain ⟨h1, h2, h3⟩ := seq_in k (by omega)
    rw [show n + 1 - k = (n + 1 - (k + 1)) + 1 by omega] at h3
    obtain ⟨⟨p, hp⟩, h4⟩ := h3
    obtain ⟨D, P⟩ := B.pr
    obtain ⟨q1, _, _⟩ := P.a _ p hp
    have ok := B.ok (ev.getD p tie0) (by
      rw [List.getD_eq_getElem?_getD, List.getElem?_eq_getElem q1]
      exact List.getElem_mem _)
    have e : seqO n ev C o (k + 1) = (ev.getD p tie0).2.1 := by
      show nxO n ev C (seqO n ev C o k) = _
      unfold nxO
      rw [hp]
    have e2 : nx n ev C (nd n (seqO n ev C o k)) = nd n (seqO n ev C o (k + 1)) := by
      rw [e]
      unfold nx
      rw [hp]
      rfl
    rw [e2] at h4
    rw [e] at h4 ⊢
    exact ⟨ok.2.2.1, ok.2.2.2.1, h4⟩
/-- the cause of each on the way -/
theorem seq_cause {k : Nat} (hk : k ≤ n) : ∃ p, C (nd n (seqO n ev C o k)) = some p ∧ p < ev.length ∧ (ev.getD p tie0).1 = seqO n ev C o k ∧ (ev.getD p tie0).2.1 = seqO n ev C o (k + 1) ∧ TieOk (n : Int) (ev.getD p tie0) := by
  obtain ⟨h1, h2, h3⟩ := seq_in B k (by omega)
  rw [show n + 1 - k = (n - k) + 1 by omega] at h3
  obtain ⟨⟨p, hp⟩, _⟩ := h3
  obtain ⟨D, P⟩ := B.pr
  obtain ⟨q1, q2, _⟩ := P.a _ p hp
  have ok := B.ok (ev.getD p tie0) (by
    rw [List.getD_eq_getElem?_getD, List.getElem?_eq_getElem q1]
    exact List.getElem_mem _)
  refine ⟨p, hp, q1, nd_inj ok.1 ok.2.1 h1 h2 q2, ?_, ok⟩
  show _ = nxO n ev C (seqO n ev C o k)
  unfold nxO
  rw [hp]
theorem seq_nx {k : Nat} (hk : k ≤ n) : nx n ev C (nd n (seqO n ev C o k)) = nd n (seqO n ev C o (k + 1)) := by
  obtain ⟨p, hp, _, _, e, _⟩ := seq_cause B hk
  unfold nx
  rw [hp, ← e]
  rfl
theorem seq_it : ∀ (m k : Nat), k + m ≤ n + 1 → itN n ev C m (nd n (seqO n ev C o k)) = nd n (seqO n ev C o (k + m)) ∧ Ch n ev C m (nd n (seqO n ev C o k)) ∧
    sumC n ev C m (nd n (seqO n ev C o k)) = ((List.range m).map fun a => wtP ev ((C (nd n (seqO n ev C o (k + a)))).getD 0)).sum
  | 0, k, _ => ⟨rfl, trivial, rfl⟩
  | m + 1, k, h => by
    obtain ⟨i1, i2, i3⟩ := seq_it m (k + 1) (by omega)
    obtain ⟨p, hp, _⟩ := seq_cause B (k := k) (by omega)
    have e := seq_nx B (k := k) (by omega)
    refine ⟨?_, ⟨⟨p, hp⟩, by rw [e]; exact i2⟩, ?_⟩
    · show itN n ev C m (nx n ev C (nd n (seqO n ev C o k))) = _
      rw [e, i1]
      congr 2
      omega
    · show (match C (nd n (seqO n ev C o k)) with | some p => wtP ev p | none => 0) + sumC n ev C m (nx n ev C (nd n (seqO n ev C o k))) = _
      rw [e, i3, List.range_succ_eq_map, List.map_cons, List.sum_cons, List.map_map, Nat.add_zero]
      congr 1
      · rw [show k + 0 = k from rfl, hp]
        rfl
      · congr 1
        refine List.map_congr_left fun a _ => ?_
        show _ = wtP ev ((C (nd n (seqO n ev C o (k + (a + 1))))).getD 0)
        rw [show k + 1 + a = k + (a + 1) by omega]
/-- so many unlike ones there aren't -/
theorem seq_most {i : Nat} (hi : i ≤ n + 1) (hn : ((List.range i).map (seqO n ev C o)).Nodup) (hx : seqO n ev C o i ∉ (List.range i).map (seqO n ev C o)) : i ≤ n := by
  have h1 : ((List.range (i + 1)).map fun k => nd n (seqO n ev C o k)).Nodup := by
    rw [List.range_succ, List.map_append, List.nodup_append]
    refine ⟨?_, by simp, fun a ha b hb => ?_⟩
    · refine nodup_range_map fun a b hab hb heq => ?_
      have sa := seq_in B a (by omega)
      have sb := seq_in B b (by omega)
      have e := nd_inj sa.1 sa.2.1 sb.1 sb.2.1 heq
      have q := nd_ix hn (i := a) (j := b) (x := seqO n ev C o b) (by rw [List.getElem?_map, List.getElem?_range (by omega), ← e]; rfl) (by rw [List.getElem?_map, List.getElem?_range hb]; rfl)
      omega
    · obtain ⟨k, hk, rfl⟩ := List.mem_map.mp ha
      have hk := List.mem_range.mp hk
      rw [List.map_cons, List.map_nil, List.mem_singleton] at hb
      rw [hb]
      intro heq
      have sa := seq_in B k (by omega)
      have sb := seq_in B i (by omega)
      have e := nd_inj sa.1 sa.2.1 sb.1 sb.2.1 heq
      exact hx (List.mem_map.mpr ⟨k, List.mem_range.mpr hk, e⟩)
  have h2 := nodup_le (n + 1) _ h1 fun x hx => by
    obtain ⟨k, hk, rfl⟩ := List.mem_map.mp hx
    have hk := List.mem_range.mp hk
    have := nd_le (seq_in B k (by omega)).2.1
    omega
  simp at h2
  omega
end
theorem sum_rev (f : Nat → Int) : ∀ k : Nat, ((List.range k).map fun a => f (k - 1 - a)).sum = ((List.range k).map f).sum
  | 0 => rfl
  | k + 1 => by
    rw [List.range_succ_eq_map, List.map_cons, List.sum_cons, List.map_map, ← List.range_succ_eq_map, List.range_succ, List.map_append, List.sum_append, ← sum_rev f k]
    simp only [List.map_cons, List.map_nil, List.sum_cons, List.sum_nil]
    have e : ((List.range k).map ((fun a => f (k + 1 - 1 - a)) ∘ Nat.succ)) = (List.range k).map fun a => f (k - 1 - a) := List.map_congr_left fun a _ => by
      show f (k + 1 - 1 - (a + 1)) = f (k - 1 - a)
      congr 1
      omega
    rw [e, show k + 1 - 1 - 0 = k by omega]
    omega
/-- a ring -/
structure RingT (n : Nat) (rs : List Tie) : Prop where
  l2 : 2 ≤ rs.length
  lm : rs.length ≤ n + 1
  ch : ∀ k, k < rs.length → (rs.getD k tie0).2.1 = (rs.getD (if k = 0 then rs.length - 1 else k - 1) tie0).1
  nd : (rs.map fun t => t.1).Nodup
  pos : 0 < (rs.map fun t => t.2.2).sum
def pl (n : Nat) (ev : List Tie) (C : Nat → Option Nat) (o : Int) (k : Nat) : Nat := (C (LH.nd n (seqO n ev C o k))).getD 0
def backPl (n : Nat) (ev : List Tie) (C : Nat → Option Nat) (o : Int) (i j : Nat) : List Nat := (List.range (i - j)).map fun a => pl n ev C o (i - 1 - a)
theorem back_ring {n : Nat} {ev : List Tie} {C : Nat → Option Nat} {o : Int} (B : Back n ev C o) {i j : Nat} (hi : i ≤ n + 1) (hj : j < i) (hn : ((List.range i).map (seqO n ev C o)).Nodup) (he : seqO n ev C o j = seqO n ev C o i) :
    RingT n ((backPl n ev C o i j).map fun p => ev.getD p tie0) ∧ ∀ p ∈ backPl n ev C o i j, p < ev.length := by
  have tie : ∀ k, k ≤ n → pl n ev C o k < ev.length ∧ (ev.getD (pl n ev C o k) tie0).1 = seqO n ev C o k ∧ (ev.getD (pl n ev C o k) tie0).2.1 = seqO n ev C o (k + 1) ∧ TieOk (n : Int) (ev.getD (pl n ev C o k) tie0) := fun k hk => by
    obtain ⟨p, hp, h1, h2, h3, h4⟩ := seq_cause B hk
    have e : pl n ev C o k = p := by
      unfold pl
      rw [hp]
      rfl
    rw [e]
    exact ⟨h1, h2, h3, h4⟩
  have len : (backPl n ev C o i j).length = i - j := by simp [backPl]
  have lenT : ((backPl n ev C o i j).map fun p => ev.getD p tie0).length = i - j := by rw [List.length_map, len]
  have get : ∀ a, a < i - j → ((backPl n ev C o i j).map fun p => ev.getD p tie0).getD a tie0 = ev.getD (pl n ev C o (i - 1 - a)) tie0 := fun a ha => by
    unfold backPl
    rw [List.map_map, List.getD_eq_getElem?_getD, List.getElem?_map, List.getElem?_range ha]
    rfl
  refine ⟨⟨?_, by rw [lenT]; omega, fun k hk => ?_, ?_, ?_⟩, fun p hp => ?_⟩
  · rw [lenT]
    rcases Nat.lt_or_ge (i - j) 2 with z | z
    · exfalso
      obtain ⟨_, t1, t2, t3⟩ := tie j (by omega)
      have e : i = j + 1 := by omega
      rw [e] at he
      exact t3.2.2.2.2.1 (by rw [t1, t2]; exact he)
    · exact z
  · rw [lenT] at hk
    rw [get k hk, lenT]
    obtain ⟨_, _, t2, _⟩ := tie (i - 1 - k) (by omega)
    rw [t2]
    by_cases k0 : k = 0
    · rw [if_pos k0, get _ (by omega)]
      obtain ⟨_, t1, _, _⟩ := tie (i - 1 - (i - j - 1)) (by omega)
      rw [t1, k0, show i - 1 - 0 + 1 = i by omega, show i - 1 - (i - j - 1) = j by omega]
      exact he.symm
    · rw [if_neg k0, get _ (by omega)]
      obtain ⟨_, t1, _, _⟩ := tie (i - 1 - (k - 1)) (by omega)
      rw [t1]
      congr 1
      omega
  · have e : ((backPl n ev C o i j).map fun p => ev.getD p tie0).map (fun t => t.1) = (List.range (i - j)).map fun a => seqO n ev C o (i - 1 - a) := by
      unfold backPl
      rw [List.map_map, List.map_map]
      refine List.map_congr_left fun a ha => ?_
      have ha := List.mem_range.mp ha
      exact (tie (i - 1 - a) (by omega)).2.1
    rw [e]
    refine nodup_range_map fun a b hab hb heq => ?_
    have q := nd_ix hn (i := i - 1 - a) (j := i - 1 - b) (x := seqO n ev C o (i - 1 - b)) (by rw [List.getElem?_map, List.getElem?_range (by omega), ← heq]; rfl) (by rw [List.getElem?_map, List.getElem?_range (by omega)]; rfl)
    omega
  · have e : ((backPl n ev C o i j).map fun p => ev.getD p tie0).map (fun t => t.2.2) = (List.range (i - j)).map fun a => (fun b => wtP ev (pl n ev C o (j + b))) (i - j - 1 - a) := by
      unfold backPl
      rw [List.map_map, List.map_map]
      refine List.map_congr_left fun a ha => ?_
      have ha := List.mem_range.mp ha
      show wtP ev (pl n ev C o (i - 1 - a)) = wtP ev (pl n ev C o (j + (i - j - 1 - a)))
      rw [show j + (i - j - 1 - a) = i - 1 - a by omega]
    rw [e, sum_rev (fun b => wtP ev (pl n ev C o (j + b))) (i - j)]
    obtain ⟨D, P⟩ := B.pr
    obtain ⟨s1, s2, s3⟩ := seq_it B (i - j) j (by omega)
    have b := P.b _ (i - j) (by omega) s2 (by rw [s1, show j + (i - j) = i by omega, he])
    rw [s3] at b
    exact b
  · obtain ⟨a, ha, rfl⟩ := List.mem_map.mp hp
    have ha := List.mem_range.mp ha
    exact (tie (i - 1 - a) (by omega)).1
/-! the causes as a list -/
def cV : Option Nat → V
  | none => .non
  | some p => .int (p : Int)
theorem inV_ints (x : Int) (ns : List Int) : inV (.int x) (ns.map V.int) = decide (x ∈ ns) := by
  unfold inV
  rw [List.any_map]
  induction ns with
  | nil => rfl
  | cons a ns ih =>
    rw [List.any_cons, ih]
    show (eqV (.int a) (.int x) || decide (x ∈ ns)) = decide (x ∈ a :: ns)
    by_cases e : a = x
    · subst e
      simp [eqV]
    · simp [eqV, e, Ne.symm e]
theorem flat_ints (ns : List Int) : (ns.map V.int).all flatV = true := by
  rw [List.all_map, List.all_eq_true]
  intro x _
  rfl
theorem Late.fresh2 {n : Nat} {ev : List Tie} {r : Nat} {D : Nat → Int} {C : Nat → Option Nat} {ρ : Nat → Nat} {last : Nat} (h : Late (n := n) (ev := ev) (r + 1) 0 D C ρ last) (hno : ¬ ∀ q, q < ev.length → D (dstP n ev q) + wtP ev q ≤ D (srcP n ev q)) : r ≤ ρ last := by
  rcases Classical.em (∃ q, q < ev.length ∧ r ≤ ρ (dstP n ev q)) with z | z
  · obtain ⟨q, _, hq⟩ := z
    exact Nat.le_trans hq (h.la _)
  · exfalso
    refine hno fun q hq => ?_
    rcases h.d2 q (Nat.zero_le q) hq with y | y
    · exact y
    · exact absurd ⟨q, hq, by omega⟩ z
theorem bounds_ok {n : Nat} : ∀ t ∈ boundsT n, TieOk (n : Int) t := by
  intro t ht
  obtain ⟨i, hi, h⟩ := mem_bounds.mp ht
  unfold TieOk
  rcases h with rfl | rfl <;> dsimp only <;> omega
theorem bounds_succ (i : Nat) : boundsT (i + 1) = boundsT i ++ [((i : Int), -1, 0)] ++ [(-1, (i : Int), -9999)] := by
  unfold boundsT
  rw [List.range_succ, List.map_append, List.flatten_append, List.append_assoc]
  rfl
theorem bounds_len : ∀ n : Nat, (boundsT n).length = 2 * n
  | 0 => rfl
  | n + 1 => by
    rw [bounds_succ, List.length_append, List.length_append, bounds_len n]
    simp
    omega
end LH

set_option Elab.async false
set_option linter.all false
set_option maxRecDepth 100000
set_option maxHeartbeats 4000000
namespace LH
open PySem PySem.Spec PyProof.Rows L2
/-! lists of lists of ints; lists of pairs -/
def RowAt (H : Hp) (v : V) (r : List Int) : Prop := ∃ a, v = .ref a ∧ H a = some (.lst (r.map V.int))
def PairAt (H : Hp) (v : V) (w : Int × Int) : Prop := ∃ a, v = .ref a ∧ H a = some (.tup [.int w.1, .int w.2])
def AllAt {α : Type} (P : V → α → Prop) : List V → List α → Prop
  | [], [] => True
  | v :: vs, x :: xs => P v x ∧ AllAt P vs xs
  | _, _ => False
theorem AllAt.imp {α : Type} {P Q : V → α → Prop} (e : ∀ v x, P v x → Q v x) : ∀ {vs : List V} {xs : List α}, AllAt P vs xs → AllAt Q vs xs
  | [], [], _ => trivial
  | _ :: _, _ :: _, h => ⟨e _ _ h.1, AllAt.imp e h.2⟩
theorem AllAt.length {α : Type} {P : V → α → Prop} : ∀ {vs : List V} {xs : List α}, AllAt P vs xs → vs.length = xs.length
  | [], [], _ => rfl
  | _ :: _, _ :: _, h => by simp [AllAt.length h.2]
theorem AllAt.app {α : Type} {P : V → α → Prop} : ∀ {vs ws : List V} {xs ys : List α}, AllAt P vs xs → AllAt P ws ys → AllAt P (vs ++ ws) (xs ++ ys)
  | [], _, [], _, _, h2 => h2
  | _ :: _, _, _ :: _, _, h, h2 => ⟨h.1, AllAt.app h.2 h2⟩
theorem AllAt.get {α : Type} {P : V → α → Prop} : ∀ {vs : List V} {xs : List α} {i : Nat} {v : V}, AllAt P vs xs → vs[i]? = some v → ∃ x, xs[i]? = some x ∧ P v x
  | [], [], i, v, _, h2 => by simp at h2
  | v :: vs, x :: xs, 0, w, h, h2 => by
    have e : v = w := Option.some.inj h2
    subst e
    exact ⟨x, rfl, h.1⟩
  | v :: vs, x :: xs, i + 1, w, h, h2 => AllAt.get (i := i) h.2 h2
theorem RowAt.mono {H H' : Hp} {v : V} {r : List Int} (e : Same H H') (h : RowAt H v r) : RowAt H' v r := by
  obtain ⟨a, h1, h2⟩ := h
  exact ⟨a, h1, e _ _ h2⟩
theorem PairAt.mono {H H' : Hp} {v : V} {r : Int × Int} (e : Same H H') (h : PairAt H v r) : PairAt H' v r := by
  obtain ⟨a, h1, h2⟩ := h
  exact ⟨a, h1, e _ _ h2⟩
abbrev RowsAt (H : Hp) : List V → List (List Int) → Prop := AllAt (RowAt H)
abbrev PairsAt (H : Hp) : List V → List (Int × Int) → Prop := AllAt (PairAt H)
theorem rows_mono {H H' : Hp} {vs : List V} {Rs : List (List Int)} (e : Same H H') (h : RowsAt H vs Rs) : RowsAt H' vs Rs := AllAt.imp (fun _ _ => RowAt.mono e) h
theorem pairs_mono {H H' : Hp} {vs : List V} {ws : List (Int × Int)} (e : Same H H') (h : PairsAt H vs ws) : PairsAt H' vs ws := AllAt.imp (fun _ _ => PairAt.mono e) h
/-- a fresh address is changed: none of these is it -/
theorem rows_mut {H H' : Hp} {vs : List V} {Rs : List (List Int)} {D : Addr} {o : HO} (e : Same H H') (hD : H D = none) (h : RowsAt H vs Rs) : RowsAt (upd H' D o) vs Rs := rows_mono (same_mut e hD) h
theorem pairs_updL {H : Hp} {l : Addr} {o : HO} {zs : List V} (hl : H l = some (.lst zs)) {vs : List V} {ws : List (Int × Int)} (h : PairsAt H vs ws) : PairsAt (upd H l o) vs ws := AllAt.imp (fun v w ⟨a, h1, h2⟩ => ⟨a, h1, by rw [upd_ne (ne_of h2 hl (by intro z; cases z))]; exact h2⟩) h
def rowsD (Rs : List (List Int)) : PyData := .list (Rs.map intsD)
theorem dpAll_rows {K : PySem.W.Frag} {H : Hp} : ∀ {vs : List V} {Rs : List (List Int)}, RowsAt H vs Rs → DpAll K H vs (Rs.map intsD)
  | [], [], _ => .nil
  | _ :: _, _ :: _, h => by
    obtain ⟨⟨a, rfl, ha⟩, h2⟩ := h
    exact .cons (dp_ints (SqL.of ha)) (dpAll_rows h2)
theorem shaped_rows (Rs : List (List Int)) : SeqAt.shaped (rowsD Rs) = true := by
  have key : ∀ Rs : List (List Int), PyData.canLayAll0 (Rs.map intsD) = true ∧ PyData.depthAll (Rs.map intsD) ≤ 1 := fun Rs => by
    induction Rs with
    | nil => exact ⟨rfl, Nat.zero_le _⟩
    | cons r Rs ih =>
      constructor
      · simp only [List.map_cons, PyData.canLayAll0, ih.1, SeqAt.canLay_of_shaped (shaped_ints r), Bool.and_self]
      · simp only [List.map_cons, PyData.depthAll]
        have := depth_ints r
        omega
  refine shaped_mk ?_ ?_
  · show PyData.canLayAll0 _ = true
    exact (key Rs).1
  · show PyData.depthAll _ + 1 ≤ 64
    have := (key Rs).2
    omega
theorem eqv_rows_nil (Rs : List (List Int)) : PyData.eqv (rowsD Rs) (.list []) = decide (Rs = []) := by
  cases Rs with
  | nil => rfl
  | cons r Rs => simp [rowsD, PyData.eqv, PyData.eqvAll]
/-! all ways within windows -/
def daysI (lo hi : Int) : List Int := (List.range (hi + 1 - lo).toNat).map fun i : Nat => lo + (i : Int)
def extW (Rs : List (List Int)) (w : Int × Int) : List (List Int) := (Rs.map fun r => (daysI w.1 w.2).map fun d => r ++ [d]).flatten
def allW (ws : List (Int × Int)) : List (List Int) := ws.foldl extW [[]]
def InW : List (Int × Int) → List Int → Prop
  | [], [] => True
  | w :: ws, d :: ds => w.1 ≤ d ∧ d ≤ w.2 ∧ InW ws ds
  | _, _ => False
theorem mem_days {lo hi d : Int} : d ∈ daysI lo hi ↔ lo ≤ d ∧ d ≤ hi := by
  unfold daysI
  rw [List.mem_map]
  constructor
  · rintro ⟨i, hi, rfl⟩
    have := List.mem_range.mp hi
    omega
  · intro h
    exact ⟨(d - lo).toNat, List.mem_range.mpr (by omega), by omega⟩
theorem mem_ext {Rs : List (List Int)} {w : Int × Int} {ds : List Int} : ds ∈ extW Rs w ↔ ∃ r ∈ Rs, ∃ d, w.1 ≤ d ∧ d ≤ w.2 ∧ ds = r ++ [d] := by
  unfold extW
  rw [List.mem_flatten]
  constructor
  · rintro ⟨l, hl, hd⟩
    obtain ⟨r, hr, rfl⟩ := List.mem_map.mp hl
    obtain ⟨d, hd2, rfl⟩ := List.mem_map.mp hd
    exact ⟨r, hr, d, (mem_days.mp hd2).1, (mem_days.mp hd2).2, rfl⟩
  · rintro ⟨r, hr, d, h1, h2, rfl⟩
    exact ⟨_, List.mem_map.mpr ⟨r, hr, rfl⟩, List.mem_map.mpr ⟨d, mem_days.mpr ⟨h1, h2⟩, rfl⟩⟩
theorem mem_fold : ∀ (ws : List (Int × Int)) (Rs : List (List Int)) (ds : List Int), ds ∈ ws.foldl extW Rs ↔ ∃ r ∈ Rs, ∃ es, InW ws es ∧ ds = r ++ es
  | [], Rs, ds => by
    constructor
    · intro h
      exact ⟨ds, h, [], trivial, (List.append_nil _).symm⟩
    · rintro ⟨r, hr, es, he, rfl⟩
      cases es with
      | nil => rw [List.append_nil]; exact hr
      | cons a b => exact he.elim
  | w :: ws, Rs, ds => by
    rw [List.foldl_cons, mem_fold ws]
    constructor
    · rintro ⟨r, hr, es, he, rfl⟩
      obtain ⟨r', hr', d, h1, h2, rfl⟩ := mem_ext.mp hr
      exact ⟨r', hr', d :: es, ⟨h1, h2, he⟩, by rw [List.append_assoc]; rfl⟩
    · rintro ⟨r, hr, es, he, rfl⟩
      cases es with
      | nil => exact he.elim
      | cons d es => exact ⟨r ++ [d], mem_ext.mpr ⟨r, hr, d, he.1, he.2.1, rfl⟩, es, he.2.2, by rw [List.append_assoc]; rfl⟩
theorem mem_all {ws : List (Int × Int)} {ds : List Int} : ds ∈ allW ws ↔ InW ws ds := by
  unfold allW
  rw [mem_fold]
  constructor
  · rintro ⟨r, hr, es, he, rfl⟩
    rw [List.mem_singleton.mp hr]
    exact he
  · intro h
    exact ⟨[], List.mem_singleton.mpr rfl, ds, h, rfl⟩
theorem inW_iff : ∀ {ws : List (Int × Int)} {ds : List Int}, InW ws ds ↔ ds.length = ws.length ∧ ∀ i w, ws[i]? = some w → w.1 ≤ ds.getD i 0 ∧ ds.getD i 0 ≤ w.2
  | [], [] => ⟨fun _ => ⟨rfl, fun i w h => by simp at h⟩, fun _ => trivial⟩
  | [], d :: ds => ⟨fun h => h.elim, fun h => by have := h.1; simp at this⟩
  | w :: ws, [] => ⟨fun h => h.elim, fun h => by have := h.1; simp at this⟩
  | w :: ws, d :: ds => by
    constructor
    · rintro ⟨h1, h2, h3⟩
      obtain ⟨l, g⟩ := inW_iff.mp h3
      refine ⟨by simp [l], fun i u hu => ?_⟩
      cases i with
      | zero =>
        have e : w = u := Option.some.inj hu
        subst e
        exact ⟨h1, h2⟩
      | succ i => exact g i u hu
    · rintro ⟨l, g⟩
      refine ⟨(g 0 w rfl).1, (g 0 w rfl).2, inW_iff.mpr ⟨by simpa using l, fun i u hu => g (i + 1) u hu⟩⟩
theorem ext_len {Rs : List (List Int)} {w : Int × Int} (h : w.2 ≤ w.1 + 3) : (extW Rs w).length ≤ 4 * Rs.length := by
  unfold extW
  induction Rs with
  | nil => simp
  | cons r Rs ih =>
    rw [List.map_cons, List.flatten_cons, List.length_append, List.length_cons]
    have : ((daysI w.1 w.2).map fun d => r ++ [d]).length ≤ 4 := by
      unfold daysI
      simp
      omega
    omega
/-- what least and greatest of all ways are -/
theorem min_gap {n : Nat} {ts : List Tie} {W : List (List Int)} (hok : ∀ t ∈ ts, TieIx (n : Int) t) (hW : ∀ ds, ds ∈ W ↔ Way n ts ds) {i j : Nat} (hi : i ≤ n) (hj : j ≤ n) {m : Int} (h1 : m ∈ W.map fun ds => wayF n ds i - wayF n ds j) (h2 : ∀ y ∈ W.map fun ds => wayF n ds i - wayF n ds j, m ≤ y) : m = gapsG n ts i j := by
  obtain ⟨ds, hd, rfl⟩ := List.mem_map.mp h1
  have f := ((hW ds).mp hd).feas hok
  have d := (can_iff hok).mp ⟨_, f⟩
  have a1 := gap_le f hi hj
  have fs := feas_gap hok d hj
  have w := fs.way hok
  have b := h2 _ (List.mem_map.mpr ⟨_, (hW _).mpr w, rfl⟩)
  have e : ∀ k, k ≤ n → wayF n ((List.range n).map fun i => gapsG n ts i j - gapsG n ts n j) k = gapsG n ts k j - gapsG n ts n j := fun k hk => by
    unfold wayF
    split
    · rename_i z
      rw [z]
      omega
    · rw [List.getD_eq_getElem?_getD, List.getElem?_map, List.getElem?_range (by omega)]
      rfl
  rw [e i hi, e j hj] at b
  have := d j hj
  omega
theorem max_gap {n : Nat} {ts : List Tie} {W : List (List Int)} (hok : ∀ t ∈ ts, TieIx (n : Int) t) (hW : ∀ ds, ds ∈ W ↔ Way n ts ds) {i j : Nat} (hi : i ≤ n) (hj : j ≤ n) {m : Int} (h1 : m ∈ W.map fun ds => wayF n ds i - wayF n ds j) (h2 : ∀ y ∈ W.map fun ds => wayF n ds i - wayF n ds j, y ≤ m) : m = - gapsG n ts j i := by
  have e : -m = gapsG n ts j i := by
    refine min_gap hok hW hj hi ?_ ?_
    · obtain ⟨ds, hd, rfl⟩ := List.mem_map.mp h1
      exact List.mem_map.mpr ⟨ds, hd, by omega⟩
    · intro y hy
      obtain ⟨ds, hd, rfl⟩ := List.mem_map.mp hy
      have := h2 _ (List.mem_map.mpr ⟨ds, hd, rfl⟩)
      omega
  omega
theorem can_W {n : Nat} {ts : List Tie} {W : List (List Int)} (hok : ∀ t ∈ ts, TieIx (n : Int) t) (hW : ∀ ds, ds ∈ W ↔ Way n ts ds) : Can n ts ↔ W ≠ [] := by
  constructor
  · rintro ⟨φ, f⟩ e
    have := (hW _).mpr (f.way hok)
    rw [e] at this
    cases this
  · intro h
    obtain ⟨ds, hd⟩ := List.exists_mem_of_ne_nil W h
    exact ⟨_, ((hW ds).mp hd).feas hok⟩
/-- the word of a tie more -/
def wordT (n : Nat) (ts : List Tie) (t : Tie) : Str :=
  if t.2.2 ≤ gapsG n ts (nd n t.1) (nd n t.2.1) then "known" else if - t.2.2 < gapsG n ts (nd n t.2.1) (nd n t.1) then "against" else "news"
/-- rows that are not at D -/
def RowN (H : Hp) (D : Addr) (v : V) (r : List Int) : Prop := ∃ a, v = .ref a ∧ a ≠ D ∧ H a = some (.lst (r.map V.int))
theorem rowsN_mono {H H' : Hp} {D : Addr} {vs : List V} {Rs : List (List Int)} (e : Same H H') (h : AllAt (RowN H D) vs Rs) : AllAt (RowN H' D) vs Rs := AllAt.imp (fun _ _ ⟨a, h1, h2, h3⟩ => ⟨a, h1, h2, e _ _ h3⟩) h
theorem rowsN_upd {H : Hp} {D : Addr} {o : HO} {vs : List V} {Rs : List (List Int)} (h : AllAt (RowN H D) vs Rs) : AllAt (RowN (upd H D o) D) vs Rs := AllAt.imp (fun _ _ ⟨a, h1, h2, h3⟩ => ⟨a, h1, h2, by rw [upd_ne h2]; exact h3⟩) h
theorem rowsN_at {H : Hp} {D : Addr} {vs : List V} {Rs : List (List Int)} (h : AllAt (RowN H D) vs Rs) : RowsAt H vs Rs := AllAt.imp (fun _ _ ⟨a, h1, _, h3⟩ => ⟨a, h1, h3⟩) h
theorem ext_app (Rs : List (List Int)) (r : List Int) (w : Int × Int) : extW (Rs ++ [r]) w = extW Rs w ++ (daysI w.1 w.2).map fun d => r ++ [d] := by
  unfold extW
  simp
theorem ext_row {Rs : List (List Int)} {w : Int × Int} {n : Nat} (h : ∀ r ∈ Rs, r.length = n) : ∀ r ∈ extW Rs w, r.length = n + 1 := fun r hr => by
  obtain ⟨q, hq, d, _, _, rfl⟩ := mem_ext.mp hr
  rw [List.length_append, h q hq]
  rfl
theorem inW_len {ws : List (Int × Int)} {ds : List Int} (h : InW ws ds) : ds.length = ws.length := (inW_iff.mp h).1
/-- small sets of lives, drawn -/
structure SmallAt (H H' : Hp) (p q l : Addr) (ys xs : List V) (ws : List (Int × Int)) (ts : List Tie) : Prop where
  same : Same H H'
  np : H p = none
  tup : H' p = some (.tup [.int (ws.length : Int), .ref q, .ref l])
  wl : H' q = some (.lst ys)
  wp : PairsAt H' ys ws
  lst : H' l = some (.lst xs)
  ties : TiesAt H' xs ts
  m1 : 1 ≤ ws.length
  m4 : ws.length ≤ 4
  wd : ∀ w ∈ ws, 0 ≤ w.1 ∧ w.1 ≤ w.2 ∧ w.2 ≤ w.1 + 3 ∧ w.2 ≤ 9999
  hi9 : ∀ w ∈ ws, w.2 ≤ 9987
  ok : ∀ t ∈ ts, TieOk (ws.length : Int) t
  tl : ts.length ≤ 20
  win : ∀ (i : Nat) w, ws[i]? = some w → ((i : Int), -1, w.1) ∈ ts ∧ (-1, (i : Int), -w.2) ∈ ts
theorem small_way {ws : List (Int × Int)} {ts : List Tie} {ds : List Int} (wd : ∀ w ∈ ws, 0 ≤ w.1 ∧ w.1 ≤ w.2 ∧ w.2 ≤ w.1 + 3 ∧ w.2 ≤ 9999) (win : ∀ (i : Nat) w, ws[i]? = some w → ((i : Int), -1, w.1) ∈ ts ∧ (-1, (i : Int), -w.2) ∈ ts) : (InW ws ds ∧ ∀ t ∈ ts, KeptW ds t) ↔ Way ws.length ts ds := by
  constructor
  · rintro ⟨h, k⟩
    obtain ⟨l, g⟩ := inW_iff.mp h
    refine ⟨l, fun x hx => ?_, k⟩
    obtain ⟨i, hi, rfl⟩ := List.getElem_of_mem hx
    have e := List.getElem?_eq_getElem (l := ws) (i := i) (by omega)
    have a := g i _ e
    have b := wd _ (List.mem_of_getElem? e)
    rw [List.getD_eq_getElem?_getD, List.getElem?_eq_getElem hi] at a
    have c : (some ds[i]).getD 0 = ds[i] := rfl
    rw [c] at a
    omega
  · rintro ⟨l, r, k⟩
    refine ⟨inW_iff.mpr ⟨l, fun i w hw => ?_⟩, k⟩
    obtain ⟨a, b⟩ := win i w hw
    have a := k _ a
    have b := k _ b
    unfold KeptW dayOf at a b
    dsimp only at a b
    rw [if_neg (by omega), if_pos (by decide), show ((i : Int)).toNat = i by omega] at a
    rw [if_pos (by decide), if_neg (by omega), show ((i : Int)).toNat = i by omega] at b
    omega
def bodyS (st : Stmt) : List Stmt := match st with
  | .For _ _ b _ _ => b
  | .While _ b _ _ => b
  | .If _ b _ _ => b
  | _ => []
def valS (st : Stmt) : Expr := match st with
  | .Assign _ e _ => e
  | _ => .Constant .none 0 ⟨0, 0, 0, 0⟩
def stAt (l : List Stmt) (i : Nat) : Stmt := l.getD i (.Pass ⟨0, 0, 0, 0⟩)
theorem size_ints (ns : List Int) : sizeD (intsD ns) = ns.length := by
  have key : ∀ ns : List Int, sizeAll (ns.map PyData.int) = 0 := fun ns => by
    induction ns with
    | nil => rfl
    | cons n ns ih => simp only [List.map_cons, sizeAll, sizeD, ih]
  simp only [intsD, sizeD, key, List.length_map, Nat.add_zero]
theorem min_day {n : Nat} {ts : List Tie} {W : List (List Int)} (hok : ∀ t ∈ ts, TieIx (n : Int) t) (hW : ∀ ds, ds ∈ W ↔ Way n ts ds) {o : Int} (h0 : 0 ≤ o) (hi : o < n) {m : Int} (h1 : m ∈ W.map fun ds => dayOf ds o) (h2 : ∀ y ∈ W.map fun ds => dayOf ds o, m ≤ y) : m = gapsG n ts o.toNat n := by
  have e : (W.map fun ds => dayOf ds o) = W.map fun ds => wayF n ds o.toNat - wayF n ds n := List.map_congr_left fun ds _ => by
    rw [dayOf_nd hi, nd_nat (by omega)]
    unfold wayF
    rw [if_pos rfl]
    omega
  rw [e] at h1 h2
  exact min_gap hok hW (by omega) (Nat.le_refl n) h1 h2
theorem max_day {n : Nat} {ts : List Tie} {W : List (List Int)} (hok : ∀ t ∈ ts, TieIx (n : Int) t) (hW : ∀ ds, ds ∈ W ↔ Way n ts ds) {o : Int} (h0 : 0 ≤ o) (hi : o < n) {m : Int} (h1 : m ∈ W.map fun ds => dayOf ds o) (h2 : ∀ y ∈ W.map fun ds => dayOf ds o, y ≤ m) : m = - gapsG n ts n o.toNat := by
  have e : (W.map fun ds => dayOf ds o) = W.map fun ds => wayF n ds o.toNat - wayF n ds n := List.map_congr_left fun ds _ => by
    rw [dayOf_nd hi, nd_nat (by omega)]
    unfold wayF
    rw [if_pos rfl]
    omega
  rw [e] at h1 h2
  exact max_gap hok hW (by omega) (Nat.le_refl n) h1 h2
theorem steps_eq {n : Nat} {W : List (List Int)} {o u : Int} (ho : o < n) (hu : u < n) : (W.map fun ds => dayOf ds o - dayOf ds u) = W.map fun ds => wayF n ds (nd n o) - wayF n ds (nd n u) := List.map_congr_left fun ds _ => by
  rw [dayOf_nd ho, dayOf_nd hu]
theorem min_step {n : Nat} {ts : List Tie} {W : List (List Int)} (hok : ∀ t ∈ ts, TieIx (n : Int) t) (hW : ∀ ds, ds ∈ W ↔ Way n ts ds) {o u : Int} (ho : o < n) (hu : u < n) {m : Int} (h1 : m ∈ W.map fun ds => dayOf ds o - dayOf ds u) (h2 : ∀ y ∈ W.map fun ds => dayOf ds o - dayOf ds u, m ≤ y) : m = gapsG n ts (nd n o) (nd n u) := by
  rw [steps_eq ho hu] at h1 h2
  exact min_gap hok hW (nd_le ho) (nd_le hu) h1 h2
theorem max_step {n : Nat} {ts : List Tie} {W : List (List Int)} (hok : ∀ t ∈ ts, TieIx (n : Int) t) (hW : ∀ ds, ds ∈ W ↔ Way n ts ds) {o u : Int} (ho : o < n) (hu : u < n) {m : Int} (h1 : m ∈ W.map fun ds => dayOf ds o - dayOf ds u) (h2 : ∀ y ∈ W.map fun ds => dayOf ds o - dayOf ds u, y ≤ m) : m = - gapsG n ts (nd n u) (nd n o) := by
  rw [steps_eq ho hu] at h1 h2
  exact max_gap hok hW (nd_le ho) (nd_le hu) h1 h2
/-- the ties about the gap -/
def moreT (o u g : Int) : List Int → List Tie
  | [] => []
  | b :: bs => if g + b < 10000 then (o, u, g + b) :: moreT o u g bs else moreT o u g bs
theorem more_app (o u g b : Int) : ∀ bs : List Int, moreT o u g (bs ++ [b]) = moreT o u g bs ++ if g + b < 10000 then [(o, u, g + b)] else []
  | [] => rfl
  | c :: bs => by
    have := more_app o u g b bs
    show (if g + c < 10000 then (o, u, g + c) :: moreT o u g (bs ++ [b]) else moreT o u g (bs ++ [b])) = (if g + c < 10000 then (o, u, g + c) :: moreT o u g bs else moreT o u g bs) ++ _
    rw [this]
    split <;> rfl
theorem gap_most {n : Nat} {ts : List Tie} (c : Can n ts) {i j : Nat} (hi : i ≤ n) (hj : j ≤ n) : gapsG n ts i j ≤ 9999 := by
  obtain ⟨φ, f⟩ := c
  have a := gap_le f hi hj
  have b := f.lo' hj
  have d : φ i ≤ 9999 := by
    rcases Nat.lt_or_ge i n with h | h
    · exact f.hi i h
    · have e : i = n := by omega
      rw [e, f.z]
      decide
  omega
theorem more_ok {n : Nat} {ts : List Tie} (c : Can n ts) {o u : Int} (h1 : -1 ≤ o) (h2 : o < n) (h3 : -1 ≤ u) (h4 : u < n) (ne : o ≠ u) : ∀ t ∈ moreT o u (gapsG n ts (nd n o) (nd n u)) [0, 1], TieOk (n : Int) t := by
  have lo := gap_hi (n := n) (ts := ts) (nd n o) (nd n u)
  intro t ht
  unfold moreT moreT moreT at ht
  generalize gapsG n ts (nd n o) (nd n u) = g at *
  have key : ∀ b : Int, 0 ≤ b → g + b < 10000 → TieOk (n : Int) (o, u, g + b) := fun b hb hl => ⟨h1, h2, h3, h4, ne, by show -9999 ≤ g + b; omega, by show g + b ≤ 9999; omega⟩
  split at ht
  · split at ht
    · simp only [List.mem_cons, List.not_mem_nil, or_false] at ht
      rcases ht with rfl | rfl
      · exact key 0 (by decide) (by assumption)
      · exact key 1 (by decide) (by assumption)
    · rw [List.mem_singleton.mp ht]
      exact key 0 (by decide) (by assumption)
  · split at ht
    · rw [List.mem_singleton.mp ht]
      exact key 1 (by decide) (by assumption)
    · cases ht
def lastW (n : Nat) (ts : List Tie) (o u : Int) : Str := if gapsG n ts (nd n o) (nd n u) < - gapsG n ts (nd n u) (nd n o) then "news" else "against"
theorem more_words {n : Nat} {ts : List Tie} (c : Can n ts) {o u : Int} (h2 : o < n) (h4 : u < n) : (moreT o u (gapsG n ts (nd n o) (nd n u)) [0, 1]).map (wordT n ts) = [("known" : Str), lastW n ts o u].take (moreT o u (gapsG n ts (nd n o) (nd n u)) [0, 1]).length := by
  have hi := gap_most c (nd_le h2) (nd_le h4)
  have w0 : wordT n ts (o, u, gapsG n ts (nd n o) (nd n u) + 0) = "known" := by
    unfold wordT
    exact if_pos (by show gapsG n ts (nd n o) (nd n u) + 0 ≤ gapsG n ts (nd n o) (nd n u); omega)
  have w1 : wordT n ts (o, u, gapsG n ts (nd n o) (nd n u) + 1) = lastW n ts o u := by
    unfold wordT lastW
    dsimp only
    rw [if_neg (by omega)]
    split <;> split <;> first | rfl | omega
  unfold moreT moreT moreT
  rw [if_pos (by omega)]
  split
  · show [_, _] = _
    rw [w0, w1]
    rfl
  · show [_] = _
    rw [w0]
    rfl
theorem shaped_strs {xs : List Str} (h : ∀ x ∈ xs, (PyData.str x).canLay0 = true) : SeqAt.shaped (.list (xs.map PyData.str)) = true := by
  have key : ∀ xs : List Str, (∀ x ∈ xs, (PyData.str x).canLay0 = true) → PyData.canLayAll0 (xs.map PyData.str) = true ∧ PyData.depthAll (xs.map PyData.str) = 0 := fun xs h => by
    induction xs with
    | nil => exact ⟨rfl, rfl⟩
    | cons x xs ih =>
      obtain ⟨a, b⟩ := ih fun y hy => h y (List.mem_cons_of_mem _ hy)
      constructor
      · simp only [List.map_cons, PyData.canLayAll0, a, h x (List.mem_cons_self ..), Bool.and_self]
      · simp only [List.map_cons, PyData.depthAll, PyData.depth, b, Nat.max_self]
  refine shaped_mk (key xs h).1 ?_
  show PyData.depthAll _ + 1 ≤ 64
  rw [(key xs h).2]
  decide
theorem dpAll_strs {K : PySem.W.Frag} {H : Hp} : ∀ xs : List Str, DpAll K H (xs.map V.str) (xs.map PyData.str)
  | [] => .nil
  | x :: xs => .cons (.str x) (dpAll_strs xs)
theorem dp_strs {K : PySem.W.Frag} {H : Hp} {a : Addr} {xs : List Str} (h : H a = some (.lst (xs.map V.str))) : Dp K H (.ref a) (.list (xs.map PyData.str)) := .lst (SqL.of h) (dpAll_strs xs)
theorem lay_word (n : Nat) (ts : List Tie) (o u : Int) : ∀ x ∈ [("known" : Str), lastW n ts o u], (PyData.str x).canLay0 = true := by
  intro x hx
  unfold lastW at hx
  split at hx <;> simp only [List.mem_cons, List.not_mem_nil, or_false] at hx <;> rcases hx with rfl | rfl <;> decide +kernel
end LH

set_option Elab.async false
set_option linter.all false
set_option maxRecDepth 100000
set_option maxHeartbeats 4000000
/-! a comprehension over a list, by what it makes of each item -/
namespace LH
open PySem PySem.Spec PyProof.Rows L2
theorem AllAt.to_ints {vs : List V} {ns : List Int} (h : AllAt (fun v i => v = V.int i) vs ns) : vs = ns.map V.int := by
  induction ns generalizing vs with
  | nil => cases vs with
    | nil => rfl
    | cons v vs => exact h.elim
  | cons n ns ih => cases vs with
    | nil => exact h.elim
    | cons v vs =>
      obtain ⟨h1, h2⟩ := h
      rw [List.map_cons, ← ih h2, h1]
section
variable {α β : Type} {K : PySem.W.Frag} {a : Addr} {xs : List V} {us : List α} {g : TG} {tt : TT} {te : TE} {vs : List Nat} {σ : L2.St} {H1 : Hp} {D : Addr} {Qd : Hp → Prop}
theorem lc_opt (P : Hp → V → α → Prop) (R : Hp → V → β → Prop) (f : α → Option β) (mP : ∀ {H H' v u}, Same H H' → P H v u → P H' v u) (mR : ∀ {H H' v u}, Same H H' → R H v u → R H' v u)
    (uR : ∀ {H zs o v u}, H D = some (HO.lst zs) → R H v u → R (upd H D o) v u) (nD : H1 D = none) (hA : SqL K H1 a xs) (hP : AllAt (P H1) xs us) (hl : us.length ≤ 50000)
    (hs : ∀ (i : Nat) (v : V) (u : α) (H2 : Hp) (C : VK) (C2 : Hp → Prop), us[i]? = some u → Same H1 H2 → P H2 v u → (∀ y b H4, f u = some b → Same H2 H4 → R H4 y b → C y H4) → (f u = none → ∀ H4, Same H2 H4 → C2 H4) →
      g v (wipe σ vs) H2 fun σ2 H3 => wipe σ2 vs = wipe σ vs ∧ tt σ2 H3 fun b H3 => if b = true then te σ2 H3 C else C2 H3)
    (hd : ∀ H ys, Same H1 H → H D = some (.lst ys) → AllAt (R H) ys (us.filterMap f) → Qd H) :
    ∃ W : Nat → Nat → Hp → Prop, (∃ m, W 0 m (upd H1 D (.lst []))) ∧ ∀ i m H, W i m H →
      ((Itl K a).stop i H ∧ Qd H) ∨ ((Itl K a).go i H ∧ ∃ Nx : Hp → Prop, (∀ H', Nx H' → ∃ m', m' < m ∧ W (i + 1) m' H') ∧ ∀ x H', (Itl K a).yld i H x H' → g x (wipe σ vs) H' fun σ2 H2 => wipe σ2 vs = wipe σ vs ∧ tt σ2 H2 fun b H3 =>
        if b = true then te σ2 H3 fun y H4 => ∃ acc, H4 D = some (.lst acc) ∧ acc.length < sizeLine ∧ Nx (upd H4 D (.lst (acc ++ [y]))) else Nx H3) := by
  have el := AllAt.length hP
  refine lc_list (K := K) (a := a) (xs := xs) (fun i H2 => Same H1 H2 ∧ ∃ ys, H2 D = some (.lst ys) ∧ AllAt (R H2) ys ((us.take i).filterMap f)) ⟨same_new nD, [], upd_same, trivial⟩ (fun i H2 _ z => z.1.seq hA) ?_ ?_
  · rintro i y H2 hi ⟨s2, ys, hD, hY⟩
    obtain ⟨u, hu, hp⟩ := AllAt.get hP hi
    have il := (List.getElem?_eq_some_iff.mp hu).1
    have yl := AllAt.length hY
    have fl := List.length_filterMap_le f (us.take i)
    rw [List.length_take] at fl
    refine hs i y u H2 _ _ hu s2 (mP s2 hp) (fun z b H4 e s4 hr => ?_) (fun e H4 s4 => ?_)
    · have hD4 := s4 _ _ hD
      refine ⟨ys, hD4, sz_lt (by omega), same_mut (s2.trans s4) nD, _, upd_same, ?_⟩
      rw [List.take_succ, hu, List.filterMap_append]
      refine AllAt.imp (fun _ _ h => uR hD4 h) (AllAt.app (AllAt.imp (fun _ _ h => mR s4 h) hY) ?_)
      simp only [Option.toList, List.filterMap_cons, e, List.filterMap_nil]
      exact ⟨hr, trivial⟩
    · refine ⟨s2.trans s4, ys, s4 _ _ hD, ?_⟩
      rw [List.take_succ, hu, List.filterMap_append]
      simp only [Option.toList, List.filterMap_cons, e, List.filterMap_nil, List.append_nil]
      exact AllAt.imp (fun _ _ h => mR s4 h) hY
  · rintro H2 ⟨s2, ys, hD, hY⟩
    rw [el, List.take_length] at hY
    exact hd H2 ys s2 hD hY
theorem lc_all (P : Hp → V → α → Prop) (R : Hp → V → β → Prop) (f : α → β) (mP : ∀ {H H' v u}, Same H H' → P H v u → P H' v u) (mR : ∀ {H H' v u}, Same H H' → R H v u → R H' v u)
    (uR : ∀ {H zs o v u}, H D = some (HO.lst zs) → R H v u → R (upd H D o) v u) (nD : H1 D = none) (hA : SqL K H1 a xs) (hP : AllAt (P H1) xs us) (hl : us.length ≤ 50000)
    (hs : ∀ (i : Nat) (v : V) (u : α) (H2 : Hp) (C : VK) (C2 : Hp → Prop), us[i]? = some u → Same H1 H2 → P H2 v u → (∀ y H4, Same H2 H4 → R H4 y (f u) → C y H4) →
      g v (wipe σ vs) H2 fun σ2 H3 => wipe σ2 vs = wipe σ vs ∧ tt σ2 H3 fun b H3 => if b = true then te σ2 H3 C else C2 H3)
    (hd : ∀ H ys, Same H1 H → H D = some (.lst ys) → AllAt (R H) ys (us.map f) → Qd H) :
    ∃ W : Nat → Nat → Hp → Prop, (∃ m, W 0 m (upd H1 D (.lst []))) ∧ ∀ i m H, W i m H →
      ((Itl K a).stop i H ∧ Qd H) ∨ ((Itl K a).go i H ∧ ∃ Nx : Hp → Prop, (∀ H', Nx H' → ∃ m', m' < m ∧ W (i + 1) m' H') ∧ ∀ x H', (Itl K a).yld i H x H' → g x (wipe σ vs) H' fun σ2 H2 => wipe σ2 vs = wipe σ vs ∧ tt σ2 H2 fun b H3 =>
        if b = true then te σ2 H3 fun y H4 => ∃ acc, H4 D = some (.lst acc) ∧ acc.length < sizeLine ∧ Nx (upd H4 D (.lst (acc ++ [y]))) else Nx H3) :=
  lc_opt P R (fun u => some (f u)) mP mR uR nD hA hP hl (fun i v u H2 C C2 hu s2 hp k _ => hs i v u H2 C C2 hu s2 hp fun y H4 s4 hr => k y _ H4 rfl s4 hr) (fun H ys s h hy => hd H ys s h (by
    have e : us.filterMap (fun u => some (f u)) = us.map f := by rw [← List.filterMap_eq_map]; rfl
    rw [e] at hy
    exact hy))
/-- an int of each item -/
theorem lc_ints (P : Hp → V → α → Prop) (f : α → Int) (mP : ∀ {H H' v u}, Same H H' → P H v u → P H' v u) (nD : H1 D = none) (hA : SqL K H1 a xs) (hP : AllAt (P H1) xs us) (hl : us.length ≤ 50000)
    (hs : ∀ (i : Nat) (v : V) (u : α) (H2 : Hp) (C : VK) (C2 : Hp → Prop), us[i]? = some u → Same H1 H2 → P H2 v u → (∀ H4, Same H2 H4 → C (.int (f u)) H4) →
      g v (wipe σ vs) H2 fun σ2 H3 => wipe σ2 vs = wipe σ vs ∧ tt σ2 H3 fun b H3 => if b = true then te σ2 H3 C else C2 H3)
    (hd : ∀ H, Same H1 H → H D = some (.lst ((us.map f).map V.int)) → Qd H) :
    ∃ W : Nat → Nat → Hp → Prop, (∃ m, W 0 m (upd H1 D (.lst []))) ∧ ∀ i m H, W i m H →
      ((Itl K a).stop i H ∧ Qd H) ∨ ((Itl K a).go i H ∧ ∃ Nx : Hp → Prop, (∀ H', Nx H' → ∃ m', m' < m ∧ W (i + 1) m' H') ∧ ∀ x H', (Itl K a).yld i H x H' → g x (wipe σ vs) H' fun σ2 H2 => wipe σ2 vs = wipe σ vs ∧ tt σ2 H2 fun b H3 =>
        if b = true then te σ2 H3 fun y H4 => ∃ acc, H4 D = some (.lst acc) ∧ acc.length < sizeLine ∧ Nx (upd H4 D (.lst (acc ++ [y]))) else Nx H3) :=
  lc_all P (fun _ v i => v = V.int i) f mP (fun _ h => h) (fun _ h => h) nD hA hP hl (fun i v u H2 C C2 hu s2 hp k => hs i v u H2 C C2 hu s2 hp fun H4 s4 => k _ H4 s4 rfl) (fun H ys s h hy => hd H s (by rw [h, AllAt.to_ints hy]))
end
theorem allAt_ints (ns : List Int) : AllAt (fun v i => v = V.int i) (ns.map V.int) ns := by
  induction ns with
  | nil => trivial
  | cons n ns ih => exact ⟨rfl, ih⟩
end LH
namespace LH
open PySem PySem.Spec PyProof.Rows L2
section
variable {α β : Type} {K : PySem.W.Frag} {a : Addr} {xs : List V} {us : List α} {g : TG} {tt : TT} {te : TE} {vs : List Nat} {σ : L2.St} {H1 : Hp} {D : Addr} {Qd : Hp → Prop}
/-- as lc_opt, where what is made of an item is a new list: it is not the list that grows -/
theorem lc_new (P : Hp → V → α → Prop) (R : Hp → V → β → Prop) (f : α → Option β) (mP : ∀ {H H' v u}, Same H H' → P H v u → P H' v u) (mR : ∀ {H H' v u}, Same H H' → R H v u → R H' v u)
    (uR : ∀ {H zs o v u}, H D = some (HO.lst zs) → R H v u → R (upd H D o) v u) (nD : H1 D = none) (hA : SqL K H1 a xs) (hP : AllAt (P H1) xs us) (hl : us.length ≤ 50000)
    (hs : ∀ (i : Nat) (v : V) (u : α) (H2 : Hp) (C : VK) (C2 : Hp → Prop), us[i]? = some u → Same H1 H2 → (∃ zs, H2 D = some (HO.lst zs)) → P H2 v u → (∀ y b H4, f u = some b → Same H2 H4 → R H4 y b → C y H4) → (f u = none → ∀ H4, Same H2 H4 → C2 H4) →
      g v (wipe σ vs) H2 fun σ2 H3 => wipe σ2 vs = wipe σ vs ∧ tt σ2 H3 fun b H3 => if b = true then te σ2 H3 C else C2 H3)
    (hd : ∀ H ys, Same H1 H → H D = some (.lst ys) → AllAt (R H) ys (us.filterMap f) → Qd H) :
    ∃ W : Nat → Nat → Hp → Prop, (∃ m, W 0 m (upd H1 D (.lst []))) ∧ ∀ i m H, W i m H →
      ((Itl K a).stop i H ∧ Qd H) ∨ ((Itl K a).go i H ∧ ∃ Nx : Hp → Prop, (∀ H', Nx H' → ∃ m', m' < m ∧ W (i + 1) m' H') ∧ ∀ x H', (Itl K a).yld i H x H' → g x (wipe σ vs) H' fun σ2 H2 => wipe σ2 vs = wipe σ vs ∧ tt σ2 H2 fun b H3 =>
        if b = true then te σ2 H3 fun y H4 => ∃ acc, H4 D = some (.lst acc) ∧ acc.length < sizeLine ∧ Nx (upd H4 D (.lst (acc ++ [y]))) else Nx H3) := by
  have el := AllAt.length hP
  refine lc_list (K := K) (a := a) (xs := xs) (fun i H2 => Same H1 H2 ∧ ∃ ys, H2 D = some (.lst ys) ∧ AllAt (R H2) ys ((us.take i).filterMap f)) ⟨same_new nD, [], upd_same, trivial⟩ (fun i H2 _ z => z.1.seq hA) ?_ ?_
  · rintro i y H2 hi ⟨s2, ys, hD, hY⟩
    obtain ⟨u, hu, hp⟩ := AllAt.get hP hi
    have il := (List.getElem?_eq_some_iff.mp hu).1
    have yl := AllAt.length hY
    have fl := List.length_filterMap_le f (us.take i)
    rw [List.length_take] at fl
    refine hs i y u H2 _ _ hu s2 ⟨ys, hD⟩ (mP s2 hp) (fun z b H4 e s4 hr => ?_) (fun e H4 s4 => ?_)
    · have hD4 := s4 _ _ hD
      refine ⟨ys, hD4, sz_lt (by omega), same_mut (s2.trans s4) nD, _, upd_same, ?_⟩
      rw [List.take_succ, hu, List.filterMap_append]
      refine AllAt.imp (fun _ _ h => uR hD4 h) (AllAt.app (AllAt.imp (fun _ _ h => mR s4 h) hY) ?_)
      simp only [Option.toList, List.filterMap_cons, e, List.filterMap_nil]
      exact ⟨hr, trivial⟩
    · refine ⟨s2.trans s4, ys, s4 _ _ hD, ?_⟩
      rw [List.take_succ, hu, List.filterMap_append]
      simp only [Option.toList, List.filterMap_cons, e, List.filterMap_nil, List.append_nil]
      exact AllAt.imp (fun _ _ h => mR s4 h) hY
  · rintro H2 ⟨s2, ys, hD, hY⟩
    rw [el, List.take_length] at hY
    exact hd H2 ys s2 hD hY
end
end LH

set_option Elab.async false
set_option linter.all false
set_option maxRecDepth 100000
set_option maxHeartbeats 4000000
/-! len(x) by x's own __len__; len(range(a, b)) -/
namespace LH
open PySem PySem.Spec PyProof.Rows L2
def rLenO (C : Addr) (sp : Sp) : List V → Hp → VK → Prop := fun vs H Q => ∃ a dx fs, vs = [V.ref a] ∧ H a = some (.ins C dx fs) ∧ sp [.ref a] H (fun v H' => ∃ n : Nat, v = .int n ∧ (n : Int) < 2 ^ 63 ∧ Q (.int n) H') E0
theorem lenO {X : Cx} (K : PySem.W.Frag) {x : Str} {ps : List Str} {k : Nat} {sp : Sp} (C : MetX X.prog X.w X.K X.mg X.base x "__len__" ps k sp) (hr : Room (k + 1) X.A) (hK : X.K = K := by rfl) : CallR X (.builtin "len") (rLenO (He.ga K x) sp) := by
  subst hK
  intro pins s σ H vs us Q I r h
  obtain ⟨a, dx, fs, rfl, ha, q⟩ := h
  obtain ⟨u, rfl, ru⟩ := vals1 r
  obtain rfl : u = Value.ref a := ru
  obtain ⟨f, fd, hc, hm, F, hb⟩ := C.ex
  obtain ⟨mA, J, _⟩ := ins_get I.hok ha
  obtain ⟨od, J, _⟩ := J.look
  refine PySem.Calls.call_function_entry kind_len plain_len entry_len (args_len1 _) ?_
  unfold Builtin.«len»
  refine wpAny_bind (m := oneArg "len" _) (wpAny_pure ?_)
  refine wpAny_bind (m := callSpecial? (.ref a) (PySem.Str.ofString "__len__")) (PySem.W.special_fn I.kIn J hm.at_ (beq_iff_eq.mp hm.fn) ?_)
  have e0 : Env0 X.prog X.w X.K X.mg X.base X.A.in1 X.stack s H := by
    have e := I.env0
    exact ⟨e.frames, e.mod, e.bs, e.bsz, e.funs, e.frf, e.hok, e.bare⟩
  have hl := F.len _ _ _ _ q
  refine wpAny_call (codeAny_mono (F.run X.A.in1 X.stack s H ⟨[.ref a], []⟩ [.ref a] [.ref a] _ E0 hr.in1 e0 (by
    have := hb s [.ref a] I.kIn (by simpa using hl)
    simpa using this) (.cons rfl .nil) q) fun r s' hq => ?_)
  cases r with
  | error e =>
    obtain ⟨_, _, _, _, _, _, _, _, _, _, _, _, z⟩ := hq
    exact z.elim
  | ok fl =>
    cases fl with
    | ret w =>
      obtain ⟨z, H', I', rz, n, ez, lt, q⟩ := I.after hq
      subst ez
      obtain ⟨t, rfl⟩ := rz
      refine wpAny_bind (wpAny_holding (wpAny_pure ?_))
      refine wpAny_bind (wpAny_letGo ?_)
      show wpAny _ _ (if ((n : Nat) : Int) < 0 then _ else _) _ _ _
      rw [if_neg (by omega)]
      show wpAny _ _ (if ((n : Nat) : Int) ≥ 2 ^ 63 then _ else _) _ _ _
      rw [if_neg (by omega)]
      exact wpAny_bind (wpAny_mkInt (wpAny_pure ⟨_, rfl, .int n, H', I'.tok _, ⟨_, rfl⟩, q⟩))
    | next => exact False.elim hq
    | brk => exact False.elim hq
    | cont => exact False.elim hq
def tLenRg (te : L2.St → Hp → (Int → Int → Hp → Prop) → Prop) : TE := fun σ H Q => te σ H fun a b H1 => RgOk a b ∧ Q (.int ((b - a).toNat : Nat)) H1
theorem pe_lenRg {X : Cx} {e : Expr} {te : L2.St → Hp → (Int → Int → Hp → Prop) → Prop} {p pos : Pos} (hg : Gl X "len") (hm : X.mg "len" = none) (he : PRg X e te) (na : starEach [e] X.env = (false, eval e X.env) :: starEach [] X.env := by rfl) : PE X (.Call (.Name "len" p) [e] [] pos) (tLenRg te) := by
  refine ⟨fun pins s σ H Q I h => ?_⟩
  refine Call_ (ld_blt I hg hm boot_len ?_)
  refine PyProof.Rows.callWith_builtin1 (PyProof.Rows.args_cons (thn (he pins s σ H _ I h) fun x s1 ⟨r, a, b, t, u, v, H1, ex, hr, I1, ok, q⟩ => args_nil ?_) na) na rfl
  subst ex
  obtain ⟨b1, b2, b3, b4, b5⟩ := ok
  exact call_len_range hr (rangeSize_nat a b) (by omega) ⟨.int ((b - a).toNat : Nat), H1, I1.tok _, ⟨_, rfl⟩, q⟩
end LH
namespace LH
open PySem PySem.Spec PyProof.Rows L2
theorem idxK {X : Cx} (K : PySem.W.Frag) (h : X.K = K := by rfl) : MtR X "list.index" (rIndex K) := by subst h; exact mt_index
theorem flatI (ns : List Int) : (ns.map V.int).all flatV = true := by
  rw [List.all_map]
  exact List.all_eq_true.mpr fun _ _ => rfl
/-- r.index(x) of ints -/
theorem idx_at {r : List Int} {x : Int} (hx : x ∈ r) : (r.map V.int)[r.idxOf x]? = some (V.int x) := by
  have hl := List.idxOf_lt_length_iff.mpr hx
  rw [List.getElem?_map, List.getElem?_eq_getElem hl, List.getElem_idxOf hl]
  rfl
theorem idx_eq (x : Int) : eqV (V.int x) (V.int x) = true := by simp [eqV]
theorem idx_no {r : List Int} {x : Int} : ∀ (m : Nat) (z' : V), m < r.idxOf x → (r.map V.int)[m]? = some z' → eqV z' (V.int x) = false := by
  intro m z' hm hz
  rw [List.getElem?_map] at hz
  cases e : r[m]? with
  | none => rw [e] at hz; cases hz
  | some y =>
    rw [e] at hz
    cases hz
    have ne : y ≠ x := fun z => by
      subst z
      obtain ⟨h1, h2⟩ := List.getElem?_eq_some_iff.mp e
      have := List.not_of_lt_findIdx (p := (· == y)) (xs := r) (i := m) (by exact hm)
      rw [h2] at this
      simp at this
    simp [eqV, ne]
end LH
namespace LH
open PySem PySem.Spec PyProof.Rows L2
theorem bmK {X : Cx} (K : PySem.W.Frag) {o e : Expr} {es : List Expr} {to : TE} {t : TA} {name : Str} {apos cpos : Pos} {T id : String} {r : V → List V → Hp → VK → Prop} (pa : PlainAttrs T) (slot : Slot T name id) (hty : typeOf (.builtin id) = pure (.type "method_descriptor")) (hm : MtR X id r) (ho : PE X o to) (ha : PA X (e :: es) t)
    (hK : X.K = K := by rfl) (hbase : attributeBase o name X.env (eval o X.env) = eval o X.env := by rfl)
    (hfew : ((backTo cpos (starEach (e :: es) X.env)).all (fun x => !x.1) && (backToKw cpos (keywordEach [] X.env)).all (fun x => x.1.isSome)
      && decide ((e :: es).length + ([] : List Keyword).length + (if ([] : List Keyword).isEmpty then 0 else 1) < 30)) = true := by rfl)
    (hline : (apos.endLine == cpos.line) = true := by rfl) (hs : starEach (e :: es) X.env = (false, eval e X.env) :: starEach es X.env := by rfl) (hplain : (backTo cpos (starEach es X.env)).any (·.1) = false := by rfl) :
    PE X (.Call (.Attribute o name apos) (e :: es) [] cpos) (tBM K T r to t) := by
  subst hK
  exact pe_bm pa slot hty hm ho ha hbase hfew hline hs hplain
end LH
namespace LH
open PySem PySem.Spec PyProof.Rows L2
theorem inVI (x : Int) (ns : List Int) : inV (V.int x) (ns.map V.int) = decide (x ∈ ns) := by
  unfold inV
  rw [List.any_map, Bool.eq_iff_iff]
  simp only [List.any_eq_true, decide_eq_true_eq, Function.comp, eqV, beq_iff_eq]
  exact ⟨fun ⟨y, h1, h2⟩ => h2 ▸ h1, fun h => ⟨x, h, rfl⟩⟩
end LH

set_option Elab.async false
set_option linter.all false
set_option maxRecDepth 100000
set_option maxHeartbeats 4000000
/-! names: texts of one to eight small letters -/
namespace LH
open PySem PySem.Spec PyProof.Rows L2
def sgn (c : Nat) : PySem.Str := ⟨#[c]⟩
def Small (c : Nat) : Prop := 97 ≤ c ∧ c < 123
def NameT (z : PySem.Str) : Prop := ∃ cs : List Nat, z = ⟨cs.toArray⟩ ∧ 1 ≤ cs.length ∧ cs.length ≤ 8 ∧ ∀ c ∈ cs, Small c
abbrev lettersT : PySem.Str := "abcdefghijklmnopqrstuvwxyz"
theorem at_letter : ∀ j : Fin 26, atI lettersT.cps.toList ((j.val : Nat) : Int) = some (97 + j.val) := by decide +kernel
theorem at_letters {i : Int} (h0 : 0 ≤ i) (h1 : i < 26) : ∃ c, atI lettersT.cps.toList i = some c ∧ Small c := by
  have := at_letter ⟨i.toNat, by omega⟩
  rw [show ((i.toNat : Nat) : Int) = i by omega] at this
  exact ⟨_, this, by unfold Small; omega⟩
theorem join_eq (sep : PySem.Str) (l : List PySem.Str) : Txt.join sep l = Str.join sep l := eq_of_beq (join_plain_closes sep l)
theorem join_signs : ∀ cs : List Nat, Str.join ("" : PySem.Str) (cs.map sgn) = ⟨cs.toArray⟩
  | [] => rfl
  | [c] => rfl
  | c :: d :: cs => by
    have ih := join_signs (d :: cs)
    show sgn c ++ ("" : PySem.Str) ++ Str.join ("" : PySem.Str) ((d :: cs).map sgn) = _
    rw [ih]
    refine Str.ext' ?_
    rw [Str.cps_append, Str.cps_append]
    show (#[c] ++ #[]) ++ (d :: cs).toArray = (c :: d :: cs).toArray
    simp
theorem inVS (x : PySem.Str) (ns : List PySem.Str) : inV (V.str x) (ns.map V.str) = decide (x ∈ ns) := by
  unfold inV
  rw [List.any_map, Bool.eq_iff_iff]
  simp only [List.any_eq_true, decide_eq_true_eq, Function.comp, eqV, beq_iff_eq]
  exact ⟨fun ⟨y, h1, h2⟩ => h2 ▸ h1, fun h => ⟨x, h, rfl⟩⟩
theorem flatS (ns : List PySem.Str) : (ns.map V.str).all flatV = true := by
  rw [List.all_map]
  exact List.all_eq_true.mpr fun _ _ => rfl
end LH

set_option Elab.async false
set_option linter.all false
set_option maxRecDepth 100000
set_option maxHeartbeats 4000000
/-! a dict of the top: text keys, at each a tuple of two ints; the head's facts with such dicts -/
namespace LH
open PySem PySem.Spec PyProof.Rows L2
theorem ixdK {X : Cx} (K : PySem.W.Frag) (h : X.K = K := by rfl) : IxR X (rIxD K X.w) := by subst h; exact ix_kdict
def pairB (K : PySem.W.Frag) (a : Addr) (z : Str) (p : Int × Int) : Bool := match PySem.W.nsIn K a z with
  | some (some (.ref t)) => (match K.lookup t with
    | some ⟨.type c, _, .seq its _, _⟩ => decide (c = "tuple") && (decide (its.size ≤ sizeLine) && He.relAll [V.int p.1, V.int p.2] its.toList)
    | _ => false)
  | _ => false
theorem pairB_ok {K : PySem.W.Frag} {a : Addr} {z : Str} {p : Int × Int} (h : pairB K a z p = true) : ∃ t, PySem.W.nsIn K a z = some (some (.ref t)) ∧ ∀ H, SqT K H t [.int p.1, .int p.2] := by
  unfold pairB at h
  split at h
  · rename_i t q
    refine ⟨t, q, fun H => ?_⟩
    cases q2 : K.lookup t with
    | none =>
      rw [q2] at h
      cases h
    | some o =>
      obtain ⟨oc, od, dt, osl⟩ := o
      rw [q2] at h
      cases oc with
      | type c =>
        cases dt with
        | seq its n =>
          obtain ⟨h1, h2⟩ := Bool.and_eq_true_iff.mp (show (decide (c = "tuple") && (decide (its.size ≤ sizeLine) && He.relAll [V.int p.1, V.int p.2] its.toList)) = true from h)
          obtain ⟨h3, h4⟩ := Bool.and_eq_true_iff.mp h2
          exact .inr ⟨_, its, n, q2, congrArg Value.type (of_decide_eq_true h1), rfl, of_decide_eq_true h3, He.relAll_ok h4⟩
        | _ => cases h
      | _ => cases dt <;> cases h
  · cases h
structure PairTab (K : PySem.W.Frag) (w : World) (a : Addr) (kvs : List (Str × (Int × Int))) : Prop where
  get : ∀ kv ∈ kvs, ∃ t, KDct K w a kv.1 (.ref t) ∧ ∀ H, SqT K H t [.int kv.2.1, .int kv.2.2]
  dic : ∃ es n, KDict K w a es n
  no : ∀ z, (∀ kv ∈ kvs, kv.1 ≠ z) → PySem.W.nsIn K a z = some none
theorem nsIn_no {K : PySem.W.Frag} {w : World} {a : Addr} {ks : List Str} {z : Str} (hd : He.dicW K a = some (He.keysIn w.params ks)) (hz : z ∉ ks) : PySem.W.nsIn K a z = some none := by
  unfold He.dicW at hd
  split at hd
  · rename_i c es n sl q
    split at hd
    · have hm := Option.some.inj hd
      have key : ∀ (l : List DictEntry) (ks : List Str), l.map He.keyOf = He.keysIn w.params ks → z ∉ ks → l.find? (·.key.isStr z) = none ∧ l.any (·.refKey) = false := by
        intro l
        induction l with
        | nil => exact fun _ _ _ => ⟨rfl, rfl⟩
        | cons e l ih =>
          intro ks h hz
          match ks, h with
          | k :: ks, h =>
            have h1 : He.keyOf e :: l.map He.keyOf = some (k, PyData.keyHash w.params k) :: He.keysIn w.params ks := h
            injection h1 with h2 h3
            obtain ⟨i1, i2⟩ := ih ks h3 (fun m => hz (List.mem_cons_of_mem _ m))
            unfold He.keyOf at h2
            split at h2
            · rename_i x t qe
              obtain ⟨rfl, _⟩ := Prod.mk.inj (Option.some.inj h2)
              have ne : x ≠ z := fun y => hz (y ▸ List.mem_cons_self)
              refine ⟨?_, ?_⟩
              · rw [List.find?_cons, qe]
                rw [show (Value.str x t).isStr z = false from by simpa [Value.isStr] using ne]
                exact i1
              · rw [List.any_cons, i2, Bool.or_false]
                unfold DictEntry.refKey
                rw [qe]
            · cases h2
      obtain ⟨k1, k2⟩ := key es.toList ks hm hz
      unfold PySem.W.nsIn
      rw [q]
      simp only [k1, k2]
      rfl
    · cases hd
  · cases hd
theorem pairTab_ok {K : PySem.W.Frag} {w : World} {a : Addr} {ks : List Str} {kvs : List (Str × (Int × Int))} (hd : He.dicW K a = some (He.keysIn w.params ks)) (hb : (kvs.all fun kv => pairB K a kv.1 kv.2) = true) (hk : ks = kvs.map (·.1) := by rfl) : PairTab K w a kvs := by
  obtain ⟨es, n, k⟩ := He.dicW_ok hd
  refine ⟨fun kv hkv => ?_, ⟨es, n, k⟩, fun z hz => nsIn_no hd fun m => (by
    rw [hk] at m
    obtain ⟨kv, h1, h2⟩ := List.mem_map.mp m
    exact hz kv h1 h2)⟩
  obtain ⟨t, h1, h2⟩ := pairB_ok (List.all_eq_true.mp hb kv hkv)
  exact ⟨t, ⟨es, n, _, k.1, k.lit, h1, rfl⟩, h2⟩
end LH
namespace LH
open PySem PySem.Spec PyProof.Rows L2
noncomputable section
abbrev Tabs := List (Str × List Str)
def tabsO (ts : Tabs) (K : PySem.W.Frag) : List (Option (List (Option (Str × Int)))) := ts.map fun t => He.dicW K (He.ga K t.1)
def tabsV (ts : Tabs) (w : World) : List (Option (List (Option (Str × Int)))) := ts.map fun t => some (He.keysIn w.params t.2)
def hookH (n : Nat) (fa : List He.Fa) (fn : List He.DefD) (ex : PySem.W.Frag → Bool) (ts : Tabs) : PySem.W.Hook where
  α := (He.AlD × Bool) × List (Option (List (Option (Str × Int))))
  obs := fun s => ((He.obsD fa fn (He.frT s.heap.get? (asG s.heap.get? n)), ex (He.frT s.heap.get? (asG s.heap.get? n))), tabsO ts (He.frT s.heap.get? (asG s.heap.get? n)))
  val := fun w => ((He.valD fn, true), tabsV ts w)
  says := fun w h => ∃ K : PySem.W.Frag, K.In h ∧ (He.SaysD fa fn K ∧ ex K = true) ∧ tabsO ts K = tabsV ts w
  of := fun _ _ e => ⟨_, He.frT_in, ⟨congrArg Prod.fst (congrArg Prod.fst e), congrArg Prod.snd (congrArg Prod.fst e)⟩, congrArg Prod.snd e⟩
  keeps := fun _ _ _ ⟨K, hK, c⟩ k => ⟨K, PySem.W.Frag.In.keeps hK k, c⟩
def obH (n : Nat) (fa : List He.Fa) (fn : List He.DefD) (ex : PySem.W.Frag → Bool) (ts : Tabs) (s : PySem.W.SharedT) : (He.AlD × Bool) × List (Option (List (Option (Str × Int)))) :=
  frK (He.frT (HandSHeadRun.getT s) (asG (HandSHeadRun.getT s) n)) fun K => ((He.obsD fa fn K, ex K), tabsO ts K)
theorem obH_eq {n : Nat} {fa : List He.Fa} {fn : List He.DefD} {ex : PySem.W.Frag → Bool} {ts : Tabs} (s : PySem.W.SharedT) : obH n fa fn ex ts s = (hookH n fa fn ex ts).obs s.abs := by
  have e : HandSHeadRun.getT s = s.abs.heap.get? := funext (HandSHeadRun.getT_eq s)
  unfold obH
  rw [e]
  exact frK_eq _ _
theorem tabs_at {ts : Tabs} {K : PySem.W.Frag} {w : World} (h : tabsO ts K = tabsV ts w) {t : Str × List Str} (ht : t ∈ ts) : He.dicW K (He.ga K t.1) = some (He.keysIn w.params t.2) := by
  unfold tabsO tabsV at h
  exact List.map_inj_left.mp h t ht
end
end LH
namespace LH
open PySem PySem.Spec PyProof.Rows L2
/-- the words of presentments: where their days begin, how many things they have -/
abbrev thingsT : List (Str × (Int × Int)) := [("on", (2, 3)), ("between", (2, 4)), ("alive", (2, 3)), ("after", (3, 4)), ("within", (3, 4))]
/-- a presentment: its word, its lives, its days -/
structure RowT where
  word : Str
  lives : List Str
  days : List Int
def RowT.vs (r : RowT) : List V := V.str r.word :: (r.lives.map V.str ++ r.days.map V.int)
structure RowT.Ok (r : RowT) : Prop where
  kv : (r.word, ((r.lives.length : Int) + 1, (r.lives.length : Int) + 1 + (r.days.length : Int))) ∈ thingsT
theorem RowT.Ok.small {r : RowT} (h : r.Ok) : (r.lives.length = 1 ∨ r.lives.length = 2) ∧ (r.days.length = 1 ∨ r.days.length = 2) := by
  have := h.kv
  simp only [thingsT, List.mem_cons, List.not_mem_nil, or_false, Prod.mk.injEq] at this
  omega
end LH
namespace LH
open PySem PySem.Spec PyProof.Rows L2
def CountW (w : Str) : Prop := w ∈ [("after" : Str), "within"]
instance (w : Str) : Decidable (CountW w) := by unfold CountW; infer_instance
/-- a number of a presentment, as it is written -/
def figT (w : Str) (d : Int) : Str := if CountW w then Str.ofString (toString d) else zTxt d
def RowT.parts (r : RowT) : List Str := [r.word] ++ r.lives ++ r.days.map (figT r.word)
def RowT.said (r : RowT) : Str := Str.join " " r.parts
structure RowT.Fit (r : RowT) : Prop where
  ok : r.Ok
  dr : ∀ d ∈ r.days, 0 ≤ d ∧ d < 100000
  nl : ∀ n ∈ r.lives, n.length ≤ 8
theorem sum_most {ys : List Str} {m : Nat} (h : ∀ y ∈ ys, y.length ≤ m) : (ys.map (·.length)).sum ≤ ys.length * m := by
  induction ys with
  | nil => simp
  | cons y ys ih =>
    have h1 := h y List.mem_cons_self
    have h2 := ih fun z hz => h z (List.mem_cons_of_mem _ hz)
    rw [List.map_cons, List.sum_cons, List.length_cons, Nat.add_mul, Nat.one_mul]
    omega
theorem str_len {a : Int} (h0 : 0 ≤ a) : (Str.ofString (toString a)).length = (Nat.toDigits 10 a.natAbs).length := by
  obtain ⟨m, rfl⟩ := Int.eq_ofNat_of_zero_le h0
  rw [show (toString ((m : Nat) : Int)) = toString (Int.ofNat m) from rfl, text_ofNat m]
  show ((Nat.toDigits 10 m).map Char.toNat).toArray.size = _
  simp
theorem fig_len {w : Str} {d : Int} (h0 : 0 ≤ d) (h1 : d < 100000) : (figT w d).length ≤ 10 := by
  have d5 := digits10_le (k := 5) (n := d.natAbs) (by decide) (by omega)
  have tl := str_len h0
  unfold figT
  split
  · omega
  · have e : zTxt d = intSpecText ⟨48, 61, none, false, false, some 4, none, none, some 100⟩ d := (intSpecText_zero (f := ⟨48, 61, none, false, false, some 4, none, none, some 100⟩) rfl rfl rfl rfl h0).symm
    rw [e, intSpecText_length d rfl rfl, if_neg (by omega)]
    show max 4 _ ≤ _
    omega
theorem RowT.Fit.bound {r : RowT} (f : r.Fit) : (r.parts.map (·.length)).sum + r.parts.length * (" " : Str).length ≤ 16777216 := by
  have sm := f.ok.small
  have pl : r.parts.length ≤ 5 := by
    unfold RowT.parts
    rw [List.length_append, List.length_append, List.length_map, List.length_singleton]
    omega
  have wl : r.word.length ≤ 10 := by
    have := f.ok.kv
    simp only [thingsT, List.mem_cons, List.not_mem_nil, or_false, Prod.mk.injEq] at this
    rcases this with h | h | h | h | h <;> rw [h.1] <;> decide
  have s := sum_most (ys := r.parts) (m := 10) fun y hy => by
    unfold RowT.parts at hy
    rcases List.mem_append.mp hy with hy | hy
    · rcases List.mem_append.mp hy with hy | hy
      · rw [List.mem_singleton.mp hy]
        exact wl
      · have := f.nl y hy
        omega
    · obtain ⟨d, hd, rfl⟩ := List.mem_map.mp hy
      have := f.dr d hd
      exact fig_len this.1 this.2
  have b1 : r.parts.length * (" " : Str).length ≤ 5 * 1 := Nat.mul_le_mul pl (by decide)
  have b2 : r.parts.length * 10 ≤ 5 * 10 := Nat.mul_le_mul pl (by decide)
  omega
end LH
namespace LH
open PySem PySem.Spec PyProof.Rows L2
theorem sqT_up {K : PySem.W.Frag} {H H' : Hp} {a : Addr} {xs : List V} (e : Same H H') (h : SqT K H a xs) : SqT K H' a xs :=
  h.elim (fun h => .inl (h.elim (fun h => .inl (e _ _ h)) fun ⟨o, h⟩ => .inr ⟨o, e _ _ h⟩)) fun h => .inr h
theorem log_fits {a : Int} (h0 : 0 ≤ a) (h1 : a < 100000) : a.natAbs.log2 < 1920 := by
  by_cases z : a.natAbs = 0
  · rw [z]
    decide
  · exact (Nat.log2_lt z).mpr (Nat.lt_of_lt_of_le (show a.natAbs < 2 ^ 17 by omega) (Nat.pow_le_pow_right (by decide) (by decide)))
theorem all_strs {vs : List V} {zs : List Str} (h : AllAt (fun v i => v = V.str i) vs zs) : vs = zs.map V.str := by
  have key : ∀ (zs : List Str) (vs : List V), AllAt (fun v i => v = V.str i) vs zs → vs = zs.map V.str := fun zs => by
    induction zs with
    | nil =>
      intro vs h
      match vs, h with
      | [], _ => rfl
    | cons z zs ih =>
      intro vs h
      match vs, h with
      | v :: vs, h =>
        rw [List.map_cons, ← ih vs h.2, ← (show v = V.str z from h.1)]
  exact key zs vs h
theorem all_intsV : ∀ ns : List Int, AllAt (fun v i => v = V.int i) (ns.map V.int) ns
  | [] => trivial
  | _ :: ns => ⟨rfl, all_intsV ns⟩
end LH
namespace LH
open PySem PySem.Spec PyProof.Rows L2
def Low (x : Str) : Prop := ∀ c ∈ x.cps.toList, c < 0x110000
theorem low_of (s : String) : Low (Str.ofString s) := by
  intro c hc
  rw [Str.ofString_eq_toList] at hc
  have hc : c ∈ (s.toList.map Char.toNat) := by simpa using hc
  obtain ⟨d, _, rfl⟩ := List.mem_map.mp hc
  have v := d.valid
  unfold UInt32.isValidChar Nat.isValidChar at v
  show d.val.toNat < _
  omega
theorem low_app {x y : Str} (hx : Low x) (hy : Low y) : Low (x ++ y) := by
  intro c hc
  rw [Str.cps_append, Array.toList_append] at hc
  rcases List.mem_append.mp hc with h | h
  · exact hx c h
  · exact hy c h
theorem low_join {sep : Str} (hs : Low sep) : ∀ {l : List Str}, (∀ x ∈ l, Low x) → Low (Str.join sep l)
  | [], _ => fun c hc => by
    have : c ∈ ([] : List Nat) := hc
    cases this
  | [x], h => h x List.mem_cons_self
  | x :: y :: l, h => low_app (low_app (h x List.mem_cons_self) hs) (low_join hs fun z hz => h z (List.mem_cons_of_mem _ hz))
theorem low_z (a : Int) : Low (zTxt a) := by
  unfold zTxt
  refine low_app (fun c hc => ?_) (low_of _)
  have : c ∈ List.replicate (4 - (Nat.toDigits 10 a.natAbs).length) 48 := by simpa using hc
  rw [List.eq_of_mem_replicate this]
  decide
theorem low_name {z : Str} (h : NameT z) : Low z := by
  obtain ⟨cs, rfl, _, _, sm⟩ := h
  intro c hc
  have := sm c (by simpa using hc)
  unfold Small at this
  omega
theorem low_said {r : RowT} (ok : r.Ok) (h : ∀ x ∈ r.lives, Low x) : Low r.said := by
  unfold RowT.said RowT.parts
  refine low_join (low_of " ") fun x hx => ?_
  rcases List.mem_append.mp hx with hx | hx
  · rcases List.mem_append.mp hx with hx | hx
    · rw [List.mem_singleton.mp hx]
      have := ok.kv
      simp only [thingsT, List.mem_cons, List.not_mem_nil, or_false, Prod.mk.injEq] at this
      rcases this with q | q | q | q | q <;> rw [q.1] <;> exact low_of _
    · exact h x hx
  · obtain ⟨d, _, rfl⟩ := List.mem_map.mp hx
    unfold figT
    split
    · exact low_of _
    · exact low_z _
theorem shaped_low {x : Str} (h : Low x) : SeqAt.shaped (.str x) = true := by
  have : PyData.strOk x = true := by
    unfold PyData.strOk
    rw [Array.all_eq_true_iff_forall_mem]
    intro c hc
    exact decide_eq_true (h c (by simpa using hc))
  unfold SeqAt.shaped
  rw [show (PyData.str x).canLay0 = PyData.strOk x by simp [PyData.canLay0], this]
  rfl
end LH

set_option Elab.async false
set_option linter.all false
set_option maxRecDepth 100000
set_option maxHeartbeats 4000000
/-! an own exception's __init__ that begins with super().__init__(..) -/
namespace LH
open PySem PySem.Spec PyProof.Rows L2
/-- such an __init__: a def with its class's cell -/
structure FunS (P : Program) (K : PySem.W.Frag) (C : Addr) (qual : Str) (params : Arguments) (body : List Stmt) (scope : Scope) (f : Addr) (fd : FuncData) : Prop where
  ex : ∃ (oc : Value) (od : Option Addr) (dV kV doc pm : Value) (an : Option Addr) (cda : Addr) (ct : Value) (osl : Array (Option Value)) (cc : Addr) (cl : Value) (cld : Option Addr) (csl : Array (Option Value)) (ccl : Value) (cdd : Option Addr) (vs : Array Value) (ccs : Array (Option Value)) (file : Str) (tf : Tok),
    fd = PySem.W.fnX "__init__" qual params body scope [("__class__", cc)] dV kV doc pm an (.ref cda) ct ∧ K.lookup f = some ⟨oc, od, .func fd, osl⟩ ∧ PySem.W.codeIn K (.ref cda) qual = true ∧
    K.lookup cc = some ⟨cl, cld, .cell (some (.ref C)), csl⟩ ∧ K.lookup cda = some ⟨ccl, cdd, .fields vs, ccs⟩ ∧ vs[2]? = some (.str file tf) ∧ ((P.main.file : Str) == file) = true
structure SupC (K : PySem.W.Frag) (C : Addr) : Prop where
  ox : OexC K C
  al : PySem.W.ks_superIn K C C "__init__" = some (some (.builtin "ValueError.__init__"))
  ve : PySem.W.subIn K (.ref C) (.type "ValueError") = some true
  mr : PySem.W.mroIn K C (.ref C) = some true
  op : PySem.W.nsIn K cStatics "thirdparty.any" = some none
structure FnScopeS (N ps : List Str) (sc : Scope) : Prop where
  kind : sc.kind = .function
  co : sc.isCoroutine = false
  gen : sc.isGenerator = false
  nd : N.Nodup
  pre : N.take ps.length = ps
  par : ∀ x ∈ ps, sc.names.lookup x = some .local
  nocell : ∀ y ∈ sc.names, y.2 ≠ .cell
  free : ∀ y ∈ sc.names, y.2 = .free → y.1 = "__class__"
  hkc : sc.names.lookup ("__class__" : Str) = some .free
  hks : sc.names.lookup ("super" : Str) = some .globalImplicit
theorem rev_lookup {y : Str} {u : Value} : ∀ {l : List (Str × Value)}, (l.map (·.1)).Nodup → (y, u) ∈ l → l.reverse.lookup y = some u
  | [], _, h => by cases h
  | (p, v) :: l, nd, h => by
    rw [List.map_cons, List.nodup_cons] at nd
    rw [List.reverse_cons, List.lookup_append]
    rcases List.mem_cons.mp h with e | h
    · cases e
      have no : l.reverse.lookup y = none := by
        rw [List.lookup_eq_none_iff]
        intro q hq
        have : q ∈ l := List.mem_reverse.mp hq
        have ne : y ≠ q.1 := fun z => nd.1 (z ▸ List.mem_map_of_mem (f := (·.1)) this)
        simpa using ne
      rw [no]
      simp [List.lookup]
    · rw [rev_lookup nd.2 h]
      rfl
def envS (qual : Str) (scope : Scope) (L f : Addr) (cd : Value) (cc : Addr) : Env := PySem.W.envX qual scope L f cd [("__class__", cc)]
def cxS (CX : CXT) (P : Program) (w : World) (K : PySem.W.Frag) (mg : Str → Option Value) (base : Heap) (N : List Str) (qual : Str) (scope : Scope) (f : Addr) (cd : Value) (cc : Addr) (A : Around) (outer : List Env) (s : Shared) (H : Hp) (E : XK) : Cx where
  prog := P
  w := w
  K := K
  mg := mg
  base := base
  A := A.deeper (envS qual scope s.heap.objs.size f cd cc)
  N := N
  s_0 := s
  H_0 := H
  env := envS qual scope s.heap.objs.size f cd cc
  outer := outer
  stack := envS qual scope s.heap.objs.size f cd cc :: outer
  ex := []
  calm := true
  fn := fun x => !(x == "__class__")
  pn := []
  xe := fun e s' => wpAny (model P w) (A.deeper (envS qual scope s.heap.objs.size f cd cc)) (leaving (envS qual scope s.heap.objs.size f cd cc) e) (fun _ s'' => CX outer H s E e s'') (fun e' s'' => CX outer H s E e' s'') s'
theorem inv_startS {CX : CXT} {P : Program} {w : World} {K : PySem.W.Frag} {mg : Str → Option Value} {base : Heap} {N ps : List Str} {qual : Str} {scope : Scope} {f : Addr} {cd : Value} {cc : Addr} {A : Around} {outer : List Env} {s : Shared} {H : Hp} {E : XK} {us : List Value} {vs : List V} {h1 : Heap} {tk : Nat} {oc : Obj} {vc : Value}
    (S : FnScopeS N ps scope) (hd : A.handled = none) (e0 : Env0 P w K mg base A outer s H) (hl : vs.length = ps.length) (r : Vals vs us) (lc : K.lookup cc = some oc) (hoc : oc.data = .cell (some vc))
    (hns : h1.Ns s.heap.objs.size (fun x => (ps.zip us).reverse.lookup x)) (hk : ∀ b o, s.heap.get? b = some o → h1.get? b = some o) :
    Inv (cxS CX P w K mg base N qual scope f cd cc A outer s H E) [] (L2.start N vs) H { s with heap := h1, toks := tk } := by
  have hpl : ps.length ≤ N.length := by have := congrArg List.length S.pre; rw [List.length_take] at this; omega
  have noA : ∀ b : Addr, b ∉ (cxS CX P w K mg base N qual scope f cd cc A outer s H E).ex := fun b z => absurd (show b ∈ ([] : List Addr) from z) (by simp)
  have one : ∀ {y : Str} {c : Addr}, (cxS CX P w K mg base N qual scope f cd cc A outer s H E).env.cells.lookup y = some c → y = "__class__" ∧ c = cc := fun {y c} h => by
    have h : List.lookup y [(("__class__" : Str), cc)] = some c := h
    rw [List.lookup_cons] at h
    split at h
    · rename_i e
      exact ⟨by simpa using e, (Option.some.inj h).symm⟩
    · cases h
  have bc : base.get? cc = some oc := e0.mod.kin _ _ lc
  refine ⟨⟨e0.mod, S.kind, rfl, rfl, Nat.le_refl _, fun y z c h1 h2 => (one h1).1.trans (one h2).1.symm, fun y hy => ?_, fun y c hf h => ?_, fun _ => hd, Around.frames_deeper e0.frames, .inr ⟨rfl, rfl⟩, fun b z => absurd z (noA b), e0.bs, e0.bsz, fun b _ _ => noA b, fun b z => absurd z (noA b), e0.funs, e0.frf⟩,
    rfl, e0.bare, Un.kept hk, ⟨_, hns, fun i y v h1 h2 h3 => ?_⟩, fun y c h => ?_, e0.hok.fresh (Nat.le_refl _), fun y c h => ?_, fun p hp => absurd (show p ∈ ([] : List (Addr × Obj)) from hp) (by simp), e0.hok.kept hk, ?_⟩
  · have hy : scope.names.lookup y = some .cell ∨ scope.names.lookup y = some .free := hy
    rcases hy with hy | hy
    · exact absurd rfl (S.nocell _ (PySem.mem_of_lookup hy))
    · have e : y = "__class__" := S.free _ (PySem.mem_of_lookup hy) rfl
      subst e
      exact ⟨cc, rfl⟩
  · rw [(one h).1] at hf
    exact absurd (show (!(("__class__" : Str) == "__class__")) = true from hf) (by decide)
  · have hi : i < vs.length := by
      unfold L2.start at h2
      by_cases hi : i < vs.length
      · exact hi
      · rw [List.getElem?_append_right (by simpa using hi)] at h2
        rw [List.getElem?_replicate] at h2
        split at h2 <;> cases h2
    have ha : vs[i]? = some v := by
      unfold L2.start at h2
      rw [List.getElem?_append_left (by simpa using hi), List.getElem?_map] at h2
      cases e : vs[i]? with
      | none => rw [e] at h2; cases h2
      | some a => rw [e] at h2; cases h2; rfl
    obtain ⟨u, hu, rv⟩ := r.get ha
    have hp : ps[i]? = some y := by
      rw [← S.pre, List.getElem?_take_of_lt (by omega)]; exact h1
    have ndP : ps.Nodup := by rw [← S.pre]; exact S.nd.sublist (List.take_sublist _ _)
    have ul : us.length = ps.length := by rw [← r.length]; exact hl
    refine ⟨u, rv, .inl ⟨S.par y (List.mem_of_getElem? hp), rev_lookup ?_ ?_⟩⟩
    · rw [List.map_fst_zip (by omega)]
      exact ndP
    · refine List.mem_of_getElem? (i := i) ?_
      rw [List.getElem?_zip_eq_some]
      exact ⟨hp, hu⟩
  · rw [(one h).2]
    exact ⟨_, oc, hk _ _ (e0.bs _ _ bc).1, hoc⟩
  · rw [(one h).2]
    exact (e0.bs _ _ bc).2
  · unfold L2.start
    show _ = N.length
    rw [List.length_append, List.length_map, List.length_replicate]
    omega
section
open PySem.W PySem.Calls
variable {prog : Program} {w : World} {M : Model} {A : Around} {E : Value → Shared → Prop} {s : Shared}
theorem callWith_mw {i : String} {pos : Pos} {u x : Addr} {env : Env} {e : Expr} {rest : List Expr} {Q : Value → Shared → Prop}
    (h : wpAny M A (spliced (backTo pos (starEach (e :: rest) env))) (fun vs s₁ => KxsAt i u x s₁.heap ∧ wpAny M A (call (.ref u) vs) Q E s₁) E s)
    (he : starEach (e :: rest) env = (false, eval e env) :: starEach rest env := by rfl) (hplain : (backTo pos (starEach rest env)).any (·.1) = false := by rfl) :
    wpAny M A (callWith pos (.ref u) [] (backTo pos (starEach (e :: rest) env)) []) Q E s := by
  rw [he] at h ⊢
  refine kxs_callWith (i := i) (x := x) (by show (false || (backTo pos (starEach rest env)).any (·.1)) = false; rw [hplain]; rfl) ?_
  exact evalArgs_plain h
variable {h : Heap} {g : Array GenState} {d : Drawn} {t : Nat} {os : OsState}
variable {nm q : Str} {C N : Addr} {bs bm : List Value} {hdct : Bool} {sn : List Str} {sub : List Value} {ab : Bool} {col : Option Bool} {dd : Option Addr} {k0 k1 k2 k3 k5 : Option Value}
theorem call_mw {u e t0 : Addr} {rest : List Value} {Q : Value → Shared → Prop}
    (hC : h.get? C = some (excClassObj nm q C N bs bm hdct sn sub ab col dd k0 k1 k2 k3 k5 "ValueError.__new__")) (he : h.get? e = some (HandSPX.excO C t0)) (hu : h.get? u = some (kxs_mw "ValueError.__init__" e)) (hrest : rest.length ≤ sizeLine)
    (hq : ∀ h' t1, (∀ b o, b ≠ e → h.get? b = some o → h'.get? b = some o) → h'.get? e = some (HandSPX.excO C t1) → Q .none ⟨h', g, d, t, os⟩) :
    wpAny (model prog w) A (call (.ref u) rest) Q E ⟨h, g, d, t, os⟩ := by
  refine wpAny_call (codeAny_of_tree ?_)
  show wpAny _ A.in1 (callAny (.ref u) ⟨rest, []⟩) _ _ _
  simp only [callAny]
  refine wpAny_bind (wpAny_load hu ?_)
  simp only [kxs_mw, show (Value.type "method-wrapper" == Value.type "method" || Value.type "method-wrapper" == Value.type "builtin_function_or_method" || Value.type "method-wrapper" == Value.type "method-wrapper") = true by decide, if_true]
  refine KFB.if_so (by decide) ?_
  refine wpAny_bind (check_bound_init F.excBase_ValueError.toExcCallFacts hC he rfl ?_)
  refine wpAny_bind (wpAny_pure (wpAny_pure ?_))
  refine ⟨plainId_quiet F.excBase_ValueError.init.plain _, codeAny_builtin F.excBase_ValueError.initEntry ?_⟩
  rw [Around.under_plainId F.excBase_ValueError.init.plain _]
  wp_walk
  refine hq _ h.objs.size (fun b o hb ho => ?_) ?_
  · rw [Heap.get?_update_other _ _ (Ne.symm hb)]
    exact Heap.get?_push_of_some _ ho
  · rw [Heap.get?_update_self _ (Heap.get?_push_of_some _ he) rfl]
    rfl
end
section
variable {P : Program} {w : World} {K : PySem.W.Frag} {mg : Str → Option Value} {base : Heap}
theorem FunS.ok {CX : CXT} {N ps : List Str} {k : Nat} {sp : Sp} {C : Addr} {qual : Str} {params : Arguments} {scope : Scope} {f : Addr} {fd : FuncData} {p0 p1 p2 p3 p4 : Pos} {a1 : Expr} {as : List Expr} {rest : List Stmt} {ar : Arg}
    (F : FunS P K C qual params (.Expr (.Call (.Attribute (.Call (.Name "super" p0) [] [] p1) "__init__" p2) (a1 :: as) [] p3) p4 :: rest) scope f fd) (S : FnScopeS N ps scope) (Z : SupC K C)
    (hpar : (params.posonlyargs ++ params.args).head? = some ar) (har : ps.head? = some ar.arg) (gS : mg "super" = none) (htop : (P.main.scope.names.lookup ("super" : Str)).isSome = false) (len : ∀ vs H Q E, sp vs H Q E → vs.length = ps.length)
    (hint : ∀ (L f : Addr) (cd : Value) (cc : Addr), interactive (envS qual scope L f cd cc) = false)
    (hsw : ∀ (L f : Addr) (cd : Value) (cc : Addr), swapsWith (.Call (.Attribute (.Call (.Name "super" p0) [] [] p1) "__init__" p2) (a1 :: as) [] p3) none p4.line (envS qual scope L f cd cc) = pure false)
    (hcall : ∀ env : Env, ∃ pl : Sem Bool, eval (.Call (.Attribute (.Call (.Name "super" p0) [] [] p1) "__init__" p2) (a1 :: as) [] p3) env = (do
      let ov ← attributeBase (.Call (.Name "super" p0) [] [] p1) "__init__" env (eval (.Call (.Name "super" p0) [] [] p1) env)
      standAt p2.atName
      let (f, first) ← holding [ov] (getMethod ov "__init__" pl)
      callWith p3 f first (backTo p3 (starEach (a1 :: as) env)) []))
    (hst : ∀ env : Env, starEach (a1 :: as) env = (false, eval a1 env) :: starEach as env) (hpl : ∀ env : Env, (backTo p3 (starEach as env)).any (·.1) = false)
    (hbody : ∀ (cda cc : Addr) (A : Around) (outer : List Env) (s : Shared) (H : Hp) (vs : List V) (Q : VK) (E : XK), Room k (A.deeper (envS qual scope s.heap.objs.size f (.ref cda) cc)) → sp vs H Q E →
      ∃ (x : Addr) (ws : List V) (ta : TA) (t : TS), vs = .ref x :: ws ∧ H x = some (exo x C none) ∧ PA (cxS CX P w K mg base N qual scope f (.ref cda) cc A outer s H E) (a1 :: as) ta ∧ PSs (cxS CX P w K mg base N qual scope f (.ref cda) cc A outer s H E) rest t ∧
        ta (L2.start N vs) H fun us H1 => us.length ≤ 1000 ∧ H1 x = some (exo x C none) ∧ t { nx := fun _ H' => Q .non H', rt := Q } (L2.start N vs) H1) :
    FnOk P w K mg base CX (k + 1) f fd ps sp := by
  obtain ⟨oc, od, dV, kV, doc, pm, an, cda, ct, osl, cc, cl, cld, csl, ccl, cdd, vcs, ccs, file, tf, rfl, lk, hcd, lcc, lcd, hvs, hfile⟩ := F.ex
  refine ⟨len, fun A outer s H args us vs Q E hr e0 hb r hsp => ?_⟩
  have hl := len _ _ _ _ hsp
  have KX : K.In s.heap := e0.mod.kin.keeps fun b o e => (e0.bs b o e).1
  have lim : s.heap.NoLimit := e0.mod.nolimit.keeps fun b o e => (e0.bs b o e).1
  have hloc : ∀ y ∈ ps.zip us, scope.names.lookup y.1 = some .local := fun ⟨n, v⟩ hy => S.par n (List.of_mem_zip hy).1
  refine PySem.ks_codeAny_call_defAt hr.depth (KX _ _ lk) rfl lim (PySem.W.codeRec_of KX hcd) rfl hb S.nocell hloc (fun h1 hns hk1 => ?_) S.co S.gen S.kind
  obtain ⟨x, ws, ta, t, rfl, hx, hPA, hPS, hq⟩ := hbody cda cc A outer s H vs Q E (hr.deeper _) hsp
  have I : L2.Inv (cxS CX P w K mg base N qual scope f (.ref cda) cc A outer s H E) [] (L2.start N (.ref x :: ws)) H { s with heap := h1, toks := s.toks + (ps.zip us).length } := inv_startS S hr.hd e0 hl r lcc rfl hns hk1
  obtain ⟨pl, hcl⟩ := hcall (envS qual scope s.heap.objs.size f (.ref cda) cc)
  have KX1 := I.kIn
  have hk0 : (envS qual scope s.heap.objs.size f (.ref cda) cc).scope.kind = .function := S.kind
  obtain ⟨nm, q, NC, bs, bm, sn, sub, ab, col, dd, k0, k1, k2, k3, k5, hC, hbm⟩ := Z.ox.cls
  have hD := KX1 _ _ hC
  obtain ⟨t1, ho⟩ := exo_at I.hok hx
  have JX : PySem.W.InstAt h1 x ({ cls := .ref C, dict := none, data := .fields #[.ref t1, .none, .none, .none, .bool false, .none] } : Obj) C none := ⟨ho, rfl, rfl, trivial⟩
  show PySem.wpAt (model P w) (A.deeper (envS qual scope s.heap.objs.size f (.ref cda) cc)) (.func _ (envS qual scope s.heap.objs.size f (.ref cda) cc)) (execs _ (envS qual scope s.heap.objs.size f (.ref cda) cc)) _ _ _
  refine PySem.ks_wpAt_execs_cons (PySem.ks_wpAt_Expr_any (PySem.ks_wpAt_MethodCall (pl := pl) ?_ hcl) (hint _ _ _ _) (hsw _ _ _ _))
  refine PySem.ks_wpAt_super_base (env := envS qual scope s.heap.objs.size f (.ref cda) cc) S.hks S.hkc (by decide) rfl (KX1 _ _ lk) rfl hpar rfl (KX1 _ _ lcd) rfl hvs hfile htop ?_
  obtain ⟨mb, g1, g2⟩ := I.mod.blt
  refine PySem.W.ks_loadName_global hk0 S.hks (Calls.loadGlobal_builtin (env := envS qual scope s.heap.objs.size f (.ref cda) cc) (I.mod.glob.keeps I.bk) gS (g1.keeps I.bk) ((g2 "super" (by decide)).trans (by decide +kernel : bootBuiltins "super" = some (.type "super"))) ⟨rfl, ?_⟩)
  refine wpAny_loadName_free hk0 S.hkc rfl ⟨_, KX1 _ _ lcc, rfl⟩ ?_
  have hself : (ps.zip us).reverse.lookup ar.arg = some (.ref x) := by
    cases r with
    | @cons _ u0 _ ur ra rw' =>
      obtain rfl : u0 = Value.ref x := ra
      match ps, har, S with
      | p :: ps, har, S =>
        cases har
        refine rev_lookup ?_ ?_
        · rw [List.map_fst_zip (by have := rw'.length; simp at hl ⊢; omega)]
          rw [← S.pre]
          exact S.nd.sublist (List.take_sublist _ _)
        · rw [List.zip_cons_cons]
          exact List.mem_cons_self
  have hka : scope.names.lookup ar.arg = some .local := S.par _ (by
    match ps, har with
    | p :: ps, har =>
      cases har
      exact List.mem_cons_self)
  refine wpAny_loadName_local hk0 hka hns hself ?_
  refine PySem.ks_wpAny_isType_cls hD rfl ⟨rfl, ?_⟩
  refine PySem.ks_wpAny_call_super hD rfl ho rfl (fun c e => by cases e) (PySem.W.looks_mroIn KX1 Z.mr) (fun h2 e2 k2 => ?_)
  have KX2 : K.In h2 := KX1.keeps k2
  have hcls : PySem.W.clsIn K C = some { name := nm, bases := bs, mro := .ref C :: bm, ns := NC, qualname := q, hasDict := true, slotNames := sn, subclasses := sub, abstract := ab, collection := col, hasDel := false } := by unfold PySem.W.clsIn; rw [hC] <;> rfl
  have al := Z.al
  unfold PySem.W.ks_superIn at al
  rw [hcls] at al
  have JX2 : PySem.W.InstAt h2 x ({ cls := .ref C, dict := none, data := .fields #[.ref t1, .none, .none, .none, .bool false, .none] } : Obj) C none := ⟨k2 _ _ ho, rfl, rfl, trivial⟩
  have hxC : x ≠ C := fun z => by
    have h := JX2.at_
    rw [z, k2 _ _ hD] at h
    cases h
  refine PySem.W.kxs_getMethod PySem.W.kxs_ValueError e2 (PySem.W.looks_opaque KX2 Z.op) (l₀ := .ref C :: bm) ((PySem.W.looks_clsIn KX2 hcls).andThen .now) rfl KX2 al (JX2.type.andThen (PySem.W.looks_subIn KX2 Z.ve)) hxC (by decide) ?_
  have k3 : ∀ b o, h1.get? b = some o → (h2.push (PySem.W.kxs_mw "ValueError.__init__" x)).get? b = some o := fun b o e => Heap.get?_push_of_some _ (k2 b o e)
  have hu : (h2.push (PySem.W.kxs_mw "ValueError.__init__" x)).get? h2.objs.size = some (PySem.W.kxs_mw "ValueError.__init__" x) := Heap.get?_push_at rfl rfl
  have I2 := I.kept (h' := h2.push (PySem.W.kxs_mw "ValueError.__init__" x)) (t' := s.toks + (ps.zip us).length + 1) k3
  have big : h1.objs.size ≤ h2.objs.size := Nat.le_of_lt (Heap.lt_size e2)
  have I3 : L2.Inv (cxS CX P w K mg base N qual scope f (.ref cda) cc A outer s H E) [(h2.objs.size, PySem.W.kxs_mw "ValueError.__init__" x)] (L2.start N (.ref x :: ws)) H { s with heap := h2.push (PySem.W.kxs_mw "ValueError.__init__" x), toks := s.toks + (ps.zip us).length + 1 } := I2.pins_of fun p hp => by
    rw [List.mem_singleton.mp hp]
    refine ⟨hu, I.hok.fresh big, fun z => ?_, fun z => ?_, fun v z => by cases z⟩
    · have := I.lt
      rw [← z] at this
      exact absurd this (Nat.not_lt.mpr big)
    · obtain ⟨_, o, hz, _⟩ := I.ok.funs.mem z
      have l1 := Heap.lt_size hz
      have l2 := I.sz
      exact absurd l1 (Nat.not_lt.mpr (Nat.le_trans l2 big))
  refine callWith_mw (i := "ValueError.__init__") (x := x) (thn (hPA.run p3 _ _ _ H _ I3 hq) fun us3 s3 ⟨vs3, H3, I4, r3, vl, hx3, hq3⟩ => ?_) (hst _) (hpl _)
  have hu3 := (I4.pin _ (List.mem_append_right _ (List.mem_singleton.mpr rfl))).1
  refine ⟨hu3, ?_⟩
  obtain ⟨t3, ho3⟩ := exo_at I4.hok hx3
  obtain ⟨h3, g3, d3, tk3, os3⟩ := s3
  refine call_mw (I4.kIn _ _ hC) ho3 hu3 (by rw [← r3.length, sizeLine_eq]; omega) fun h4 t4 k4 hx4 => ?_
  have J := I4.write (t' := tk3) (x := x) (e := x) (o := exo x C none) (by rw [hx3]; exact True.intro) (.inl rfl) k4 ⟨_, hx4⟩ (exo_ok hx4)
  have eu : upd H3 x (exo x C none) = H3 := by
    funext b
    by_cases hb : b = x
    · rw [hb, upd_same, hx3]
    · rw [upd_ne hb]
  rw [eu] at J
  have J0 := J.pins_of (pins' := []) fun p hp => absurd hp (by simp)
  refine wpAt_of_wpAny (wpAny_mono (hPS.run [] _ _ H3 _ J0 hq3) (fun fl s' hs => ?_) fun e s' hs => hs)
  have fin : ∀ {σ' : L2.St} {H' : Hp} {v : V} {u : Value}, L2.Inv (cxS CX P w K mg base N qual scope f (.ref cda) cc A outer s H E) [] σ' H' s' → RelV v u → Q v H' → CE outer P w H s Q u s' :=
    fun {σ' H' v u} J rv q => ⟨v, H', J.os, J.bare, J.base, J.hok, rv, q⟩
  cases fl with
  | ret u =>
    obtain ⟨v, σ', H', J, rv, q⟩ := hs
    exact fin J rv q
  | next =>
    obtain ⟨σ', H', J, q⟩ := hs
    exact fin (v := V.non) (u := Value.none) J rfl q
  | brk =>
    obtain ⟨_, _, _, q⟩ := hs
    exact False.elim q
  | cont =>
    obtain ⟨_, _, _, q⟩ := hs
    exact False.elim q
end
end LH

set_option Elab.async false
set_option linter.all false
set_option maxRecDepth 100000
set_option maxHeartbeats 4000000
/-! own exceptions with an own __init__: made and raised, caught, asked of their class and their field; the head's facts of them -/
namespace LH
open PySem PySem.Spec PyProof.Rows L2
/-- C(e, ..), where the context is kept -/
theorem pmk_oexN {X : Cx} {CX : CXT} {x : Str} {e : Expr} {es : List Expr} {ta : TA} {p pos : Pos} {C fI : Addr} {k : Nat} {fd : FuncData} {ps : List Str} {sp : Sp} (T : OexC X.K C) (iC : PySem.W.findIn X.K (.ref C) "__init__" = some (some (.ref fI))) (tI : PySem.W.typeIn X.K (.ref fI) = some (.type "function"))
    (F1 : FnOk X.prog X.w X.K X.mg X.base CX k fI fd ps sp) (hr : Room (k + 1) X.A) (hb : Binds X.K fd ps []) (hx : Passes CX X (fun _ _ _ => False)) (hg : Gl X x) (hm : X.mg x = some (.ref C)) (ha : PA X (e :: es) ta)
    (hdb : (x == ("__debug__" : Str)) = false := by decide) (he : starEach (e :: es) X.env = (false, eval e X.env) :: starEach es X.env := by rfl) (hpl : (backTo pos (starEach es X.env)).any (·.1) = false := by rfl) :
    L2N.PMk X (.Call (.Name x p) (e :: es) [] pos) (tMkO C sp [] ta) := by
  intro pins s σ H Q I h
  obtain ⟨nm, q, N, bs, bm, sn, sub, ab, col, dd, k0, k1, k2, k3, k5, hC, hbm⟩ := T.cls
  refine wpAny_Call_Name_kw (ld_glob I hg hm ?_ hdb)
  refine PySem.W.callWith_K (h₀ := X.base) I.ok.mod.kin T.kC (thn (ha.run pos pins s σ H _ I h) fun us s1 ⟨vs, H1, I1, r1, hz, q1⟩ => ⟨I1.kIn, ?_⟩) he hpl
  show wpAny _ _ (call (.ref C) us) _ _ _
  obtain ⟨hp, g, dr, tk, os⟩ := s1
  have hsz : hp.objs.size ≤ hp.objs.size + 1 := Nat.le_succ _
  have hn : H1 (hp.objs.size + 1) = none := I1.hok.fresh hsz
  have hq := q1 (hp.objs.size + 1) hn
  rw [List.append_nil] at hq
  have kk : ∀ b o, hp.get? b = some o → ((hp.push (PySem.W.kdv_tup us)).push (PySem.HandSPX.excO C hp.objs.size)).get? b = some o := fun b o e => Heap.get?_push_of_some _ (Heap.get?_push_of_some _ e)
  have hget : ((hp.push (PySem.W.kdv_tup us)).push (PySem.HandSPX.excO C hp.objs.size)).get? (hp.objs.size + 1) = some (PySem.HandSPX.excO C hp.objs.size) := by heap_get
  have I2 : L2.Inv X pins σ (upd H1 (hp.objs.size + 1) (exo (hp.objs.size + 1) C none)) ⟨(hp.push (PySem.W.kdv_tup us)).push (PySem.HandSPX.excO C hp.objs.size), g, dr, tk, os⟩ :=
    I1.laid (t' := tk) (a := hp.objs.size + 1) (o := exo (hp.objs.size + 1) C none) (h' := (hp.push (PySem.W.kdv_tup us)).push (PySem.HandSPX.excO C hp.objs.size)) kk hsz (exo_ok hget)
  have r2 : Vals (V.ref (hp.objs.size + 1) :: vs) (Value.ref (hp.objs.size + 1) :: us) := .cons rfl r1
  have hl : (Value.ref (hp.objs.size + 1) :: us ++ []).length = ps.length := by
    have e := r2.length
    rw [F1.len _ _ _ _ hq] at e
    rw [List.append_nil]
    exact e.symm
  have hus : us.length ≤ sizeLine := by
    rw [← Paired.length r1, sizeLine_eq]
    omega
  have b2 := hb _ (Value.ref (hp.objs.size + 1) :: us) I2.kIn hl
  rw [List.append_nil] at b2
  refine wpAny_call (PySem.HandSPX.call_own F.excBase_ValueError (fun Y => PySem.HandSPX.refsVE_contains Y bm hbm) (I1.kIn _ _ hC) (PySem.W.looks_findIn I1.kIn iC) (fun self => PySem.W.bind_fn I1.kIn self tI) hus
    (codeAny_mono (F1.run _ X.stack _ _ ⟨Value.ref (hp.objs.size + 1) :: us, []⟩ (Value.ref (hp.objs.size + 1) :: us) _ _ (fun _ _ _ => False) (hr.make C us []) (I2.env0.make C us []) b2 r2 hq) fun r s' hq' => ?_))
  cases r with
  | error er => exact hx pins σ _ _ er s' I2 hq'
  | ok fl =>
    cases fl with
    | ret u =>
      obtain ⟨v, H2, os2, bare2, un2, hok2, rv, ev, d, fs, ea, ed, hd1, q2⟩ := hq'
      subst ev
      obtain ⟨h2, g2, d2, t2, os'⟩ := s'
      obtain ⟨t0, G, J, kG, ge, hoe, na⟩ := mk_end0 (d2 := d2) (t2 := t2) I1 hsz kk un2 hok2 os2 bare2 ea ed hd1
      refine ⟨rv, ⟨hp.objs.size + 1, _, _, ⟨G, g2, d2, t2, os'⟩, _, .ref C, some d, rfl, J, kG, ge, hoe, ⟨rfl, rfl, fun vs hv => ?_⟩, rfl, rfl, na, rfl, bare2, raises_own T.exC T.tyC, q2⟩⟩
      cases hv
      rfl
    | next => exact False.elim hq'
    | brk => exact False.elim hq'
    | cont => exact False.elim hq'
/-- an own exception with an own __init__, by its name -/
structure MkE (P : Program) (w : World) (K : PySem.W.Frag) (mg : Str → Option Value) (base : Heap) (x : Str) (ps : List Str) (k : Nat) (sp : Sp) : Prop where
  ex : ∃ (f : Addr) (fd : FuncData), OexC K (He.ga K x) ∧ PySem.W.findIn K (.ref (He.ga K x)) "__init__" = some (some (.ref f)) ∧ PySem.W.typeIn K (.ref f) = some (.type "function") ∧ FnOk P w K mg base CX0 k f fd ps sp ∧ mg x = some (.ref (He.ga K x)) ∧ Binds K fd ps []
theorem riseI {X : Cx} (K : PySem.W.Frag) {D : Str} {ps : List Str} {k : Nat} {sp : Sp} {e : Expr} {es : List Expr} {ta : TA} {p pos rp : Pos} {W : WX} (C : MkE X.prog X.w X.K X.mg X.base D ps k sp) (hr : Room (k + 1) X.A) (hc : X.calm = true) (tk : L2N.Takes X W) (ha : PA X (e :: es) ta) (hK : X.K = K := by rfl) (hg : Gl X D := by rfl)
    (hdb : (D == ("__debug__" : Str)) = false := by decide) (he : starEach (e :: es) X.env = (false, eval e X.env) :: starEach es X.env := by rfl) (hpl : (backTo pos (starEach es X.env)).any (·.1) = false := by rfl) :
    PS X (.Raise (some (.Call (.Name D p) (e :: es) [] pos)) none rp) (fun _ σ H => tMkO (He.ga K D) sp [] ta σ H fun cls d H' => W cls d σ H') := by
  subst hK
  obtain ⟨f, fd, T, iC, tI, F, hm, hb⟩ := C.ex
  exact L2N.ps_raise hc tk (pmk_oexN T iC tI F hr hb pass0 hg hm ha hdb he hpl)
/-- what such an __init__ leaves: the error and its dict -/
theorem exo_new {C : Addr} {H : Hp} {a d : Addr} {fs : List (Str × V)} (na : H a = none) (nd : H d = none) (hda : d ≠ a) :
    Same H (upd (del (upd (upd (upd H a (exo a C none)) d (exd d fs)) a (exo a C (some d))) a) d (.xd fs)) := fun b u e => by
  have h1 : b ≠ a := ne_of_none e na
  have h2 : b ≠ d := ne_of_none e nd
  rw [upd_ne h2, del_ne h1, upd_ne h1, upd_ne h2, upd_ne h1]
  exact e
/-! isinstance of a caught error that has a dict -/
def DictAt (d : Option Addr) (H : Hp) : Prop := ∀ dd, d = some dd → ∃ fs, H dd = some (.xd fs)
theorem DictAt.mono {d : Option Addr} {H H' : Hp} (e : Same H H') (h : DictAt d H) : DictAt d H' := fun dd z => by
  obtain ⟨fs, q⟩ := h dd z
  exact ⟨fs, e _ _ q⟩
def rIsD (K : PySem.W.Frag) (D : Addr) (d : Option Addr) (a : Addr) : List V → Hp → VK → Prop := fun xs H Q => DictAt d H ∧ rIsE K D a xs H Q
theorem isPD {X : Cx} {p : Addr × Obj} {D : Addr} {d : Option Addr} (K : PySem.W.Frag) (hp : p ∈ X.pn) (C : ExcC X.K D) (hz : L2N.Zn (.ref D) d p.2) (hf : ∃ vs, p.2.data = .fields vs) (hK : X.K = K := by rfl) : CallR X (.builtin "isinstance") (rIsD K D d p.1) := by
  subst hK
  intro pins s σ H xs us Q I r ⟨hd, c, cv, b, ex, hcv, e, q⟩
  subst ex
  cases r with
  | cons rx rr =>
    cases rr with
    | cons rt rr =>
      cases rr
      cases rx
      obtain rfl := hcv _ rt
      obtain ⟨hget, _⟩ := I.pin p (List.mem_append_left _ hp)
      obtain ⟨vs, hv⟩ := hf
      have J : ∃ od, PySem.W.InstAt s.heap p.1 p.2 D od := by
        obtain ⟨pa, oc, od, oda, osl⟩ := p
        obtain ⟨h1, h2, _⟩ := hz
        dsimp only at h1 h2 hv hget
        subst h1 h2 hv
        cases od with
        | none => exact ⟨none, hget, rfl, rfl, trivial⟩
        | some dd =>
          obtain ⟨fs, hdd⟩ := hd dd rfl
          have hx : ObjOk X.prog X.w H s.heap dd (.xd fs) := I.hok dd _ hdd
          obtain ⟨mA, ⟨o, es, ep, ho, hr⟩, _⟩ := hx
          exact ⟨some o, hget, rfl, rfl, ho⟩
      obtain ⟨od, J⟩ := J
      have hcl : (PySem.W.clsIn X.K D).isSome = true := by
        have h := C.hd
        unfold PySem.W.hasDictIn at h
        cases hc : PySem.W.clsIn X.K D with
        | none => rw [hc] at h; cases h
        | some cd => rfl
      exact PySem.W.kia_one (PySem.W.kitx_exc hcl C.hg C.hk C.hs C.ha C.hn C.ht C.hm) I.kIn J e (fun z => nomatch z) fun tk => ⟨.bl b, H, I.kept (t' := tk) fun _ _ z => z, rfl, q⟩
/-! the head's facts of such a class -/
def oexB (K : PySem.W.Frag) (C : Addr) : Bool := match K.lookup C with
  | some o => (match o.data with
    | .cls cd => (match cd.mro with
      | .ref D :: bm => decide (o.cls = .type "type") && (decide (D = C) && (PySem.HandSPX.refsVE bm && (cd.hasDict && (!cd.hasDel && (match o.slots.toList with
        | [_, _, _, _, some (.builtin n), _] => decide (n = "ValueError.__new__")
        | _ => false)))))
      | _ => false)
    | _ => false)
  | none => false
theorem oexB_ok {K : PySem.W.Frag} {C : Addr} (h : oexB K C = true) : ∃ nm q N bs bm sn sub ab col dd k0 k1 k2 k3 k5, K.lookup C = some (excClassObj nm q C N bs bm true sn sub ab col dd k0 k1 k2 k3 k5 "ValueError.__new__") ∧ PySem.HandSPX.refsVE bm = true := by
  unfold oexB at h
  split at h
  · rename_i o ho
    obtain ⟨oc, dd, dt, sl⟩ := o
    cases dt with
    | cls cd =>
      dsimp only at h
      split at h
      · rename_i D bm hm
        obtain ⟨e1, w1⟩ := He.ba h
        obtain ⟨e2, w2⟩ := He.ba w1
        obtain ⟨e3, w3⟩ := He.ba w2
        obtain ⟨e4, w4⟩ := He.ba w3
        obtain ⟨e5, w5⟩ := He.ba w4
        split at w5
        · rename_i k0 k1 k2 k3 n k5 hs
          obtain rfl := of_decide_eq_true e1
          obtain rfl := of_decide_eq_true e2
          obtain rfl := of_decide_eq_true w5
          obtain ⟨nm, bs, mro, ns, qn, hd, sn, sub, ab, col, dl⟩ := cd
          dsimp only at hm e4 e5
          have e5 : dl = false := by simpa using e5
          obtain ⟨sl⟩ := sl
          dsimp only at hs
          subst hm e4 e5 hs
          exact ⟨nm, qn, ns, bs, bm, sn, sub, ab, col, dd, k0, k1, k2, k3, k5, ho, e3⟩
        · cases w5
      · cases h
    | _ => cases h
  · cases h
/-- what a class like that says: made, raised, caught, its field read -/
structure ErrI (K : PySem.W.Frag) (D : Str) (f : Str) (look : Bool) : Prop where
  exc : ExcC K (He.ga K D)
  kin : ∀ c ∈ kinNames, PySem.W.kitOne K (.ref (He.ga K D)) (.ref (He.ga K c)) = some (decide (c = D))
  ve : PySem.W.kitOne K (.ref (He.ga K D)) (.type "ValueError") = some (!look)
  le : PySem.W.kitOne K (.ref (He.ga K D)) (.type "LookupError") = some look
  up : PySem.W.exmOne K (.ref (He.ga K D)) (.ref (He.ga K (upOf look))) = some true
  dn : PySem.W.exmOne K (.ref (He.ga K D)) (.ref (He.ga K (upOf (!look)))) = some false
  me : PySem.W.exmOne K (.ref (He.ga K D)) (.ref (He.ga K D)) = some true
  sup : SupC K (He.ga K D)
  fld : PySem.W.findIn K (.ref (He.ga K D)) f = some none
  ini : PySem.W.findIn K (.ref (He.ga K D)) "__init__" = some (some (.ref (He.ma K (He.ga K D) "__init__")))
  ity : PySem.W.typeIn K (.ref (He.ma K (He.ga K D) "__init__")) = some (.type "function")
def errIB (K : PySem.W.Frag) (D : Str) (f : Str) (look : Bool) : Bool :=
  He.eqO (PySem.W.findIn K (.ref (He.ga K D)) "__getattribute__") (some (some (.builtin "BaseException.__getattribute__"))) &&
  (He.eqO (PySem.W.findIn K (.ref (He.ga K D)) "__getattr__") (some none) &&
  (decide (PySem.W.subIn K (.ref (He.ga K D)) (.type "BaseException") = some true) &&
  (PySem.W.hasDictIn K (He.ga K D) &&
  (He.eqO (PySem.W.findIn K (.ref (He.ga K D)) "__class__") (some (some (.builtin "object.__class__"))) &&
  (He.eqO (PySem.W.specialIn K (.builtin "object.__class__") "__get__") (some (some (.builtin "getset_descriptor.__get__"))) &&
  (decide (PySem.W.takesIn K (.builtin "object.__class__") = some true) &&
  (decide (PySem.W.mroIn K (He.ga K D) (.type "object") = some true) &&
  ((kinNames.all fun c => decide (PySem.W.kitOne K (.ref (He.ga K D)) (.ref (He.ga K c)) = some (decide (c = D)))) &&
  (decide (PySem.W.kitOne K (.ref (He.ga K D)) (.type "ValueError") = some (!look)) &&
  (decide (PySem.W.kitOne K (.ref (He.ga K D)) (.type "LookupError") = some look) &&
  (decide (PySem.W.exmOne K (.ref (He.ga K D)) (.ref (He.ga K (upOf look))) = some true) &&
  (decide (PySem.W.exmOne K (.ref (He.ga K D)) (.ref (He.ga K (upOf (!look)))) = some false) &&
  (decide (PySem.W.exmOne K (.ref (He.ga K D)) (.ref (He.ga K D)) = some true) &&
  (oexB K (He.ga K D) &&
  (He.eqO (PySem.W.findIn K (.ref (He.ga K D)) "__setattr__") (some (some (.builtin "object.__setattr__"))) &&
  (decide (PySem.W.typeIn K (.ref (He.ga K D)) = some (.type "type")) &&
  (PySem.W.keepIn K (.ref (He.ga K D)) &&
  (He.eqO (PySem.W.ks_superIn K (He.ga K D) (He.ga K D) "__init__") (some (some (.builtin "ValueError.__init__"))) &&
  (decide (PySem.W.subIn K (.ref (He.ga K D)) (.type "ValueError") = some true) &&
  (decide (PySem.W.mroIn K (He.ga K D) (.ref (He.ga K D)) = some true) &&
  (He.eqO (PySem.W.nsIn K cStatics "thirdparty.any") (some none) &&
  (He.eqO (PySem.W.findIn K (.ref (He.ga K D)) f) (some none) &&
  (He.eqO (PySem.W.findIn K (.ref (He.ga K D)) "__init__") (some (some (.ref (He.ma K (He.ga K D) "__init__")))) &&
  decide (PySem.W.typeIn K (.ref (He.ma K (He.ga K D) "__init__")) = some (.type "function")))))))))))))))))))))))))
theorem errIB_ok {K : PySem.W.Frag} {D : Str} {f : Str} {look : Bool} (h : errIB K D f look = true) : ErrI K D f look := by
  unfold errIB at h
  obtain ⟨a1, h⟩ := He.ba h
  obtain ⟨a2, h⟩ := He.ba h
  obtain ⟨a3, h⟩ := He.ba h
  obtain ⟨a4, h⟩ := He.ba h
  obtain ⟨a5, h⟩ := He.ba h
  obtain ⟨a6, h⟩ := He.ba h
  obtain ⟨a7, h⟩ := He.ba h
  obtain ⟨a8, h⟩ := He.ba h
  obtain ⟨a9, h⟩ := He.ba h
  obtain ⟨b1, h⟩ := He.ba h
  obtain ⟨b2, h⟩ := He.ba h
  obtain ⟨b3, h⟩ := He.ba h
  obtain ⟨b4, h⟩ := He.ba h
  obtain ⟨b5, h⟩ := He.ba h
  obtain ⟨b6, h⟩ := He.ba h
  obtain ⟨b7, h⟩ := He.ba h
  obtain ⟨b8, h⟩ := He.ba h
  obtain ⟨b9, h⟩ := He.ba h
  obtain ⟨c1, h⟩ := He.ba h
  obtain ⟨c2, h⟩ := He.ba h
  obtain ⟨c3, h⟩ := He.ba h
  obtain ⟨c4, h⟩ := He.ba h
  obtain ⟨c5, h⟩ := He.ba h
  obtain ⟨c6, c7⟩ := He.ba h
  exact ⟨⟨He.eqO_ok a1, He.eqO_ok a2, of_decide_eq_true a3, a4, He.eqO_ok a5, He.eqO_ok a6, of_decide_eq_true a7, of_decide_eq_true a8⟩, fun c hc => of_decide_eq_true (List.all_eq_true.mp a9 c hc), of_decide_eq_true b1, of_decide_eq_true b2, of_decide_eq_true b3, of_decide_eq_true b4, of_decide_eq_true b5,
    ⟨⟨oexB_ok b6, He.eqO_ok b7, of_decide_eq_true a3, of_decide_eq_true b8, b9⟩, He.eqO_ok c1, of_decide_eq_true c2, of_decide_eq_true c3, He.eqO_ok c4⟩, He.eqO_ok c5, He.eqO_ok c6, of_decide_eq_true c7⟩
/-- what isinstance asks of either kind -/
structure ErrQ (K : PySem.W.Frag) (D : Str) (look : Bool) : Prop where
  exc : ExcC K (He.ga K D)
  kin : ∀ c ∈ kinNames, PySem.W.kitOne K (.ref (He.ga K D)) (.ref (He.ga K c)) = some (decide (c = D))
  ve : PySem.W.kitOne K (.ref (He.ga K D)) (.type "ValueError") = some (!look)
  le : PySem.W.kitOne K (.ref (He.ga K D)) (.type "LookupError") = some look
theorem ErrI.q {K : PySem.W.Frag} {D f : Str} {look : Bool} (h : ErrI K D f look) : ErrQ K D look := ⟨h.exc, h.kin, h.ve, h.le⟩
theorem ErrF.q {K : PySem.W.Frag} {D : Str} {look : Bool} (h : ErrF K D look) : ErrQ K D look := ⟨h.exc, h.kin, h.ve, h.le⟩
theorem DictAt.none {H : Hp} : DictAt none H := fun _ z => by cases z
theorem ErrI.xf {K : PySem.W.Frag} {D f : Str} {look : Bool} (h : ErrI K D f look) : XfC K (He.ga K D) := ⟨h.exc.hg, h.exc.hk, h.exc.hs, h.exc.hd⟩
/-- its __init__'s text -/
abbrev SuW : Type := Option (Str × Str × Arguments × FuncBody × Scope)
def supW (K : PySem.W.Frag) (D : Str) : SuW := match K.lookup (He.ma K (He.ga K D) "__init__") with
  | some ⟨_, _, .func fd, _⟩ => some (fd.name, fd.qualname, fd.params, fd.body, fd.scope)
  | _ => none
/-- .. and what stands around it -/
def supB (K : PySem.W.Frag) (D qual file : Str) : Bool := match K.lookup (He.ma K (He.ga K D) "__init__") with
  | some ⟨_, _, .func fd, _⟩ => decide (fd.globals = mainGlobals) && (decide (fd.builtins = builtinsNs) && ((match fd.closure with
      | [(n, cc)] => decide (n = "__class__") && (match K.lookup cc with
        | some ⟨_, _, .cell (some (.ref C)), _⟩ => decide (C = He.ga K D)
        | _ => false)
      | _ => false) && (decide (fd.defaults = .none) && (PySem.W.codeIn K fd.code qual && (match fd.code with
      | .ref cda => (match K.lookup cda with
        | some ⟨_, _, .fields vs, _⟩ => (match (vs[2]? : Option Value) with
          | some (.str fi _) => decide (file = fi)
          | _ => false)
        | _ => false)
      | _ => false)))))
  | _ => false
theorem supB_ok {P : Program} {K : PySem.W.Frag} {D qual file : Str} {params : Arguments} {body : List Stmt} {scope : Scope} (hw : supW K D = some (("__init__" : Str), qual, params, FuncBody.stmts body, scope)) (h : supB K D qual file = true) (pf : P.main.file = file) :
    ∃ fd, FunS P K (He.ga K D) qual params body scope (He.ma K (He.ga K D) "__init__") fd ∧ ∃ (kV doc pm : Value) (an : Option Addr) (cda : Value) (ct : Value) (cc : Addr), fd = PySem.W.fnX "__init__" qual params body scope [("__class__", cc)] .none kV doc pm an cda ct := by
  unfold supW at hw
  unfold supB at h
  split at h
  · rename_i oc od fd osl q
    rw [q] at hw
    obtain ⟨n1, n2, n3, n4, n5, n6, n7, n8, n9, n10, n11, n12, n13, n14, n15⟩ := fd
    have e := Option.some.inj hw
    simp only [Prod.mk.injEq] at e
    obtain ⟨rfl, rfl, rfl, rfl, rfl⟩ := e
    obtain ⟨h1, w1⟩ := He.ba h
    obtain ⟨h2, w2⟩ := He.ba w1
    obtain ⟨h3, w3⟩ := He.ba w2
    obtain ⟨h4, w4⟩ := He.ba w3
    obtain ⟨h5, w5⟩ := He.ba w4
    dsimp only at h1 h2 h3 h4 h5 w5
    obtain rfl := of_decide_eq_true h1
    obtain rfl := of_decide_eq_true h2
    obtain rfl := of_decide_eq_true h4
    split at h3
    · rename_i n cc
      obtain ⟨g1, g2⟩ := He.ba h3
      obtain rfl := of_decide_eq_true g1
      split at g2
      · rename_i cl cld C csl lc
        obtain rfl := of_decide_eq_true g2
        split at w5
        · rename_i cda
          split at w5
          · rename_i ccl cdd vs ccs lcd
            split at w5
            · rename_i fi tf hv
              obtain rfl := of_decide_eq_true w5
              exact ⟨_, ⟨oc, od, _, _, _, _, _, cda, _, osl, cc, cl, cld, csl, ccl, cdd, vs, ccs, file, tf, rfl, q, h5, lc, lcd, hv, by rw [pf]; exact beq_self_eq_true _⟩, _, _, _, _, _, _, cc, rfl⟩
            · cases w5
          · cases w5
        · cases w5
      · cases g2
    · cases h3
  · cases h
end LH
namespace LH
open PySem PySem.Spec PyProof.Rows L2
noncomputable section
/-- the head's facts with dicts of the top and such classes' texts -/
abbrev Sups := List (Str × SuW)
def supsO (ss : Sups) (K : PySem.W.Frag) : List SuW := ss.map fun s => supW K s.1
def supsV (ss : Sups) : List SuW := ss.map fun s => s.2
/-- what the module's names reach, and the machine's own table -/
def asS (g : Addr → Option Obj) (n : Nat) : List Addr := cStatics :: asG g n
def hookS (n : Nat) (fa : List He.Fa) (fn : List He.DefD) (ex : PySem.W.Frag → Bool) (ts : Tabs) (ss : Sups) : PySem.W.Hook where
  α := ((He.AlD × Bool) × List SuW) × List (Option (List (Option (Str × Int))))
  obs := fun s => (((He.obsD fa fn (He.frT s.heap.get? (asS s.heap.get? n)), ex (He.frT s.heap.get? (asS s.heap.get? n))), supsO ss (He.frT s.heap.get? (asS s.heap.get? n))), tabsO ts (He.frT s.heap.get? (asS s.heap.get? n)))
  val := fun w => (((He.valD fn, true), supsV ss), tabsV ts w)
  says := fun w h => ∃ K : PySem.W.Frag, K.In h ∧ ((He.SaysD fa fn K ∧ ex K = true) ∧ supsO ss K = supsV ss) ∧ tabsO ts K = tabsV ts w
  of := fun _ _ e => ⟨_, He.frT_in, ⟨⟨congrArg Prod.fst (congrArg Prod.fst (congrArg Prod.fst e)), congrArg Prod.snd (congrArg Prod.fst (congrArg Prod.fst e))⟩, congrArg Prod.snd (congrArg Prod.fst e)⟩, congrArg Prod.snd e⟩
  keeps := fun _ _ _ ⟨K, hK, c⟩ k => ⟨K, PySem.W.Frag.In.keeps hK k, c⟩
def obW (n : Nat) (fa : List He.Fa) (fn : List He.DefD) (ex : PySem.W.Frag → Bool) (ts : Tabs) (ss : Sups) (s : PySem.W.SharedT) : ((He.AlD × Bool) × List SuW) × List (Option (List (Option (Str × Int)))) :=
  frK (He.frT (HandSHeadRun.getT s) (asS (HandSHeadRun.getT s) n)) fun K => (((He.obsD fa fn K, ex K), supsO ss K), tabsO ts K)
theorem obW_eq {n : Nat} {fa : List He.Fa} {fn : List He.DefD} {ex : PySem.W.Frag → Bool} {ts : Tabs} {ss : Sups} (s : PySem.W.SharedT) : obW n fa fn ex ts ss s = (hookS n fa fn ex ts ss).obs s.abs := by
  have e : HandSHeadRun.getT s = s.abs.heap.get? := funext (HandSHeadRun.getT_eq s)
  unfold obW
  rw [e]
  exact frK_eq _ _
theorem sups_at {ss : Sups} {K : PySem.W.Frag} (h : supsO ss K = supsV ss) {s : Str × SuW} (hs : s ∈ ss) : supW K s.1 = s.2 := by
  unfold supsO supsV at h
  exact List.map_inj_left.mp h s hs
end
end LH

set_option Elab.async false
set_option linter.all false
set_option maxRecDepth 100000
set_option maxHeartbeats 4000000
namespace K04
open PySem PySem.Spec PyProof.Rows L2 LH
def top (i : Nat) : Stmt := PySem.Challenge.pw_lifehold_k04_spans_written_and_read.main.body.getD i (.Pass ⟨0, 0, 0, 0⟩)
abbrev s_are_figures : Stmt := top 27
abbrev N_are_figures : List Str := ["text", "sign"]
abbrev s_read_day : Stmt := top 28
abbrev N_read_day : List Str := ["text"]
abbrev s_read_span : Stmt := top 29
abbrev N_read_span : List Str := ["text", "first", "stroke", "last", "begin", "end"]
abbrev s_lkin : Stmt := top 31
abbrev N_lkin : List Str := ["_law_e", "_law_found", "_law_words", "_law_word", "_law_kin_here"]
abbrev s_lmix : Stmt := top 32
abbrev N_lmix : List Str := ["_law_seed", "_law_one", "_law_two"]
abbrev s_lraw : Stmt := top 33
abbrev N_lraw : List Str := ["_law_script", "_law_k", "_law_cell", "_law_found", "_law_turn"]
abbrev s_ldigits : Stmt := top 34
abbrev N_ldigits : List Str := ["_law_script", "_law_k", "_law_sizes", "_law_rest", "_law_found", "_law_size"]
abbrev s_lnum : Stmt := top 35
abbrev N_lnum : List Str := ["_law_told"]
abbrev s_lspan : Stmt := top 36
abbrev N_lspan : List Str := ["_law_told", "_law_due_here"]
abbrev s_lread : Stmt := top 37
abbrev N_lread : List Str := ["_law_text", "_law_told", "_law_word", "_law_e"]
abbrev s_ldue : Stmt := top 38
abbrev N_ldue : List Str := ["_law_text", "_law_sign", "_law_pair"]
abbrev s_law : Stmt := top 39
abbrev N_law : List Str := ["_law_script", "_law_k", "_law_first", "_law_wide", "_law_way", "_law_at", "_law_sign", "_law_cut", "_law_text", "_law_told", "_law_word", "_law_due_here"]
abbrev s_BadText___init__ : Stmt := inClass (top 16) 0
abbrev N_BadText___init__ : List Str := ["self", "at"]
abbrev s_Span___init__ : Stmt := inClass (top 26) 0
abbrev N_Span___init__ : List Str := ["self", "first", "until"]
abbrev s_Span___eq__ : Stmt := inClass (top 26) 1
abbrev N_Span___eq__ : List Str := ["self", "other"]
abbrev s_Span___str__ : Stmt := inClass (top 26) 3
abbrev N_Span___str__ : List Str := ["self"]
structure Txt (K : PySem.W.Frag) (mg : Str → Option Value) : Prop where
  n_LookupError : mg "LookupError" = none
  n_ValueError : mg "ValueError" = none
  n_all : mg "all" = none
  n_bool : mg "bool" = none
  n_int : mg "int" = none
  n_isinstance : mg "isinstance" = none
  n_len : mg "len" = none
  n_min : mg "min" = none
  n_range : mg "range" = none
  n_str : mg "str" = none
  n_super : mg "super" = none
  n_zip : mg "zip" = none
  c_FIGURES : ∃ t, mg "FIGURES" = some (.str "0123456789" t)
  c_LAST_DAY : ∃ t, mg "LAST_DAY" = some (.int (9999) t)
  g_Against : mg "Against" = some (.ref (He.ga K "Against"))
  g_BadCount : mg "BadCount" = some (.ref (He.ga K "BadCount"))
  g_BadDay : mg "BadDay" = some (.ref (He.ga K "BadDay"))
  g_BadName : mg "BadName" = some (.ref (He.ga K "BadName"))
  g_BadRow : mg "BadRow" = some (.ref (He.ga K "BadRow"))
  g_BadText : mg "BadText" = some (.ref (He.ga K "BadText"))
  g_BadTie : mg "BadTie" = some (.ref (He.ga K "BadTie"))
  g_CantBe : mg "CantBe" = some (.ref (He.ga K "CantBe"))
  g_Full : mg "Full" = some (.ref (He.ga K "Full"))
  g_GivenUp : mg "GivenUp" = some (.ref (He.ga K "GivenUp"))
  g_Held : mg "Held" = some (.ref (He.ga K "Held"))
  g_Idle : mg "Idle" = some (.ref (He.ga K "Idle"))
  g_NoHolding : mg "NoHolding" = some (.ref (He.ga K "NoHolding"))
  g_NoLife : mg "NoLife" = some (.ref (He.ga K "NoLife"))
  g_NoPlace : mg "NoPlace" = some (.ref (He.ga K "NoPlace"))
  g_NoPresentment : mg "NoPresentment" = some (.ref (He.ga K "NoPresentment"))
  g_Nothing : mg "Nothing" = some (.ref (He.ga K "Nothing"))
  g_Span : mg "Span" = some (.ref (He.ga K "Span"))
  g_Taken : mg "Taken" = some (.ref (He.ga K "Taken"))
  g_Twice : mg "Twice" = some (.ref (He.ga K "Twice"))
  e_BadDay : ErrF K "BadDay" false
  f_Span : SpanF K
  i_BadText : ErrI K "BadText" "at" false

def d_are_figures : He.DefD := ⟨("are_figures", none), "are_figures", "are_figures", defArgs s_are_figures, defBody s_are_figures, defScope s_are_figures, [], []⟩
def d_read_day : He.DefD := ⟨("read_day", none), "read_day", "read_day", defArgs s_read_day, defBody s_read_day, defScope s_read_day, [], []⟩
def d_read_span : He.DefD := ⟨("read_span", none), "read_span", "read_span", defArgs s_read_span, defBody s_read_span, defScope s_read_span, [], []⟩
def d_lkin : He.DefD := ⟨("_law_kin", none), "_law_kin", "_law_kin", defArgs s_lkin, defBody s_lkin, defScope s_lkin, [], []⟩
def d_lmix : He.DefD := ⟨("_law_mix", none), "_law_mix", "_law_mix", defArgs s_lmix, defBody s_lmix, defScope s_lmix, [], []⟩
def d_lraw : He.DefD := ⟨("_law_raw", none), "_law_raw", "_law_raw", defArgs s_lraw, defBody s_lraw, defScope s_lraw, [], []⟩
def d_ldigits : He.DefD := ⟨("_law_digits", none), "_law_digits", "_law_digits", defArgs s_ldigits, defBody s_ldigits, defScope s_ldigits, [], []⟩
def d_lnum : He.DefD := ⟨("_law_num", none), "_law_num", "_law_num", defArgs s_lnum, defBody s_lnum, defScope s_lnum, [], []⟩
def d_lspan : He.DefD := ⟨("_law_span", none), "_law_span", "_law_span", defArgs s_lspan, defBody s_lspan, defScope s_lspan, [], []⟩
def d_lread : He.DefD := ⟨("_law_read", none), "_law_read", "_law_read", defArgs s_lread, defBody s_lread, defScope s_lread, [], []⟩
def d_ldue : He.DefD := ⟨("_law_due", none), "_law_due", "_law_due", defArgs s_ldue, defBody s_ldue, defScope s_ldue, [], []⟩
def d_law : He.DefD := ⟨("law", none), "law", "law", defArgs s_law, defBody s_law, defScope s_law, [], []⟩
def d_Span___init__ : He.DefD := ⟨("Span", some "__init__"), "__init__", "Span.__init__", defArgs s_Span___init__, defBody s_Span___init__, defScope s_Span___init__, [], []⟩
def d_Span___eq__ : He.DefD := ⟨("Span", some "__eq__"), "__eq__", "Span.__eq__", defArgs s_Span___eq__, defBody s_Span___eq__, defScope s_Span___eq__, [], []⟩
def d_Span___str__ : He.DefD := ⟨("Span", some "__str__"), "__str__", "Span.__str__", defArgs s_Span___str__, defBody s_Span___str__, defScope s_Span___str__, [], []⟩
abbrev R : PySem.W.OpenRow := PySem.W.OpenLaw.row PySem.Challenge.rw_lifehold_k04_spans_written_and_read
def exF (K : PySem.W.Frag) : Bool := [errB K "BadDay" false, spanB K, errIB K "BadText" "at" false, supB K "BadText" "BadText.__init__" "/claim/cut.py"].all id
def exT (K : PySem.W.Frag) : Bool := true
def fn0 : List He.DefD := [d_are_figures, d_read_day, d_read_span, d_lkin, d_lmix, d_lraw, d_ldigits, d_lnum, d_lspan, d_lread, d_ldue, d_law, d_Span___init__, d_Span___eq__, d_Span___str__]
def fa0 : List He.Fa := [.glo "are_figures", .glo "read_day", .glo "read_span", .glo "_law_kin", .glo "_law_mix", .glo "_law_raw", .glo "_law_digits", .glo "_law_num", .glo "_law_span", .glo "_law_read", .glo "_law_due", .glo "law", .mkr "Span", .meth "Span" "__eq__", .meth "Span" "__str__", .free "LookupError", .free "ValueError", .free "all", .free "bool", .free "int", .free "isinstance", .free "len", .free "min", .free "range", .free "str", .free "super", .free "zip", .str "FIGURES" "0123456789", .int "LAST_DAY" (9999), .glo "Against", .glo "BadCount", .glo "BadDay", .glo "BadName", .glo "BadRow", .glo "BadText", .glo "BadTie", .glo "CantBe", .glo "Full", .glo "GivenUp", .glo "Held", .glo "Idle", .glo "NoHolding", .glo "NoLife", .glo "NoPlace", .glo "NoPresentment", .glo "Nothing", .glo "Span", .glo "Taken", .glo "Twice"]
abbrev fn : List He.DefD := fn0
abbrev fa : List He.Fa := fa0
def tabs : LH.Tabs := []
def sups : LH.Sups := [("BadText", some ("__init__", "BadText.__init__", defArgs s_BadText___init__, .stmts (defBody s_BadText___init__), defScope s_BadText___init__))]
noncomputable abbrev hk : PySem.W.Hook := LH.hookS 5 fa fn exF tabs sups
noncomputable abbrev ob : PySem.W.SharedT → hk.α := LH.obW 5 fa fn exF tabs sups
theorem ob_eq (s : PySem.W.SharedT) : ob s = hk.obs s.abs := LH.obW_eq s
def loose : List PySem.Str := (["_wall", "HoldError", "BadDay", "BadCount", "BadTie", "CantBe", "BadRow", "BadName", "Taken", "Full", "Twice", "GivenUp", "Held", "Idle", "Against", "BadText", "Missing", "NoLife", "NoHolding", "NoPresentment", "NoPlace", "Nothing", "LAST_DAY", "FIGURES", "Span", "are_figures", "read_day", "read_span", "_law_kin", "_law_mix"] : List PySem.Str) ++ (["_law_raw", "_law_digits", "_law_num", "_law_span", "_law_read", "_law_due"] : List PySem.Str)
theorem run (w : World) : HandSHeadRun.RunEq R (PySem.W.view R.prog [39]) hk ob 14000 loose w := by
  intro os
  kernel_rfl
end K04

set_option Elab.async false
set_option linter.all false
set_option maxRecDepth 100000
set_option maxHeartbeats 4000000
/-! rows, days, runs; len(set(xs)) of any ints -/
namespace LH
open PySem PySem.Spec PyProof.Rows L2
theorem fm_mem (f : Nat → Int) : ∀ i j, j < i → f j ∈ PyProof.Rows.firstMet f i
  | 0, j, h => absurd h (Nat.not_lt_zero j)
  | i + 1, j, h => by
    rw [PyProof.Rows.firstMet_succ]
    unfold PyProof.Rows.step_dedup
    rcases Nat.lt_succ_iff_lt_or_eq.mp h with h | rfl
    · have := fm_mem f i j h
      split
      · exact this
      · exact List.mem_append_left _ this
    · split
      · rename_i c
        obtain ⟨x, hx, e⟩ := List.any_eq_true.mp c
        rw [← beq_iff_eq.mp e]
        exact hx
      · exact List.mem_append_right _ (List.mem_singleton.mpr rfl)
theorem fm_ne (f : Nat → Int) : ∀ i, (PyProof.Rows.firstMet f i).length = i → ∀ j k, j < k → k < i → f j ≠ f k
  | 0, _, j, k, _, h => absurd h (Nat.not_lt_zero k)
  | i + 1, hl, j, k, hj, hk => by
    have le := PyProof.Rows.firstMet_length_le f i
    rw [PyProof.Rows.firstMet_succ] at hl
    unfold PyProof.Rows.step_dedup at hl
    split at hl
    · omega
    · rename_i c
      rw [List.length_append, List.length_singleton] at hl
      rcases Nat.lt_succ_iff_lt_or_eq.mp hk with hk | rfl
      · exact fm_ne f i (by omega) j k hj hk
      · intro e
        exact c (List.any_eq_true.mpr ⟨f j, fm_mem f k j hj, by rw [e]; exact beq_self_eq_true _⟩)
/-- how many unlike ones -/
def dedN (ns : List Int) : Nat := (PyProof.Rows.firstMet (fun i => ns.getD i 0) ns.length).length
theorem dedN_le (ns : List Int) : dedN ns ≤ ns.length := PyProof.Rows.firstMet_length_le _ _
theorem dedN_iff (ns : List Int) : dedN ns = ns.length ↔ ns.Nodup := by
  constructor
  · intro h
    refine List.pairwise_iff_getElem.mpr fun j k hj hk hjk => ?_
    have := fm_ne _ _ h j k hjk hk
    rw [List.getD_eq_getElem?_getD, List.getD_eq_getElem?_getD, List.getElem?_eq_getElem hj, List.getElem?_eq_getElem hk] at this
    exact this
  · intro h
    unfold dedN
    rw [RZ.firstMet_nodup h ns.length (Nat.le_refl _), List.take_length]
def tLenSetG (K : PySem.W.Frag) (ta : TE) : TE := fun σ H Q => ta σ H fun x H1 => ∃ (l : Addr) (ns : List Int), x = .ref l ∧ SqL K H1 l (ns.map V.int) ∧ ns.length ≤ 4000 ∧ Q (.int (dedN ns : Nat)) H1
theorem pe_lenSetG {X : Cx} (K : PySem.W.Frag) {a : Expr} {ta : TE} {p p2 q pos : Pos} (hg : Gl X "len") (hm : X.mg "len" = none) (hg2 : Gl X "set") (hm2 : X.mg "set" = none) (ha : PE X a ta) (hc : X.calm = true := by rfl) (hK : X.K = K := by rfl)
    (na : starEach [a] X.env = (false, eval a X.env) :: starEach [] X.env := by rfl) : PE X (.Call (.Name "len" p) [.Call (.Name "set" p2) [a] [] q] [] pos) (tLenSetG K ta) := by
  subst hK
  refine ⟨fun pins s σ H Q I h => ?_⟩
  refine Call_ (ld_blt I hg hm boot_len ?_)
  refine PyProof.Rows.callWith_builtin1 (PyProof.Rows.args_cons ?_ rfl) rfl rfl
  refine Call_ (ld_blt I hg2 hm2 boot_set ?_)
  refine PyProof.Rows.callWith_type1 (PyProof.Rows.args_cons (thn (ha.run pins s σ H _ I h) fun v s1 ⟨x, H1, I1, r1, q1⟩ => PyProof.Rows.args_nil ?_) na) na rfl
  obtain ⟨l, ns, rfl, hq, hl, q1⟩ := q1
  cases r1
  obtain ⟨its, r, pl, hz⟩ := I1.list hq
  have hlen : its.toArray.size = ns.length := by rw [List.size_toArray, ← r.length, List.length_map]
  refine call_set_list (I1.ok.hd hc) pl.isList (by simpa using RZ.intsAre_vals r) (by rw [hlen]; unfold scanBound; omega) fun h' tk hS hk => ?_
  refine PyProof.Rows.args_nil ?_
  rw [hlen] at hS
  obtain ⟨o, es, ep, t, ho, hex, hd, _, _, _, hf, hn⟩ := hS
  have le := dedN_le ns
  have I2 : Inv X pins σ H1 { s1 with heap := h', toks := tk } := I1.kept fun b o e => hk b o (Heap.lt_size e) e
  exact call_len_set ho hex hd hf (by rw [hn]; show ((dedN ns : Nat) : Int) < 2 ^ 63; omega) ⟨.int (dedN ns : Nat), H1, I2.tok _, ⟨_, by rw [hn]; rfl⟩, q1⟩
/-! what is asked of rows, days, runs -/
def DayOk (d : Int) : Prop := 0 ≤ d ∧ d ≤ 9999
instance (d : Int) : Decidable (DayOk d) := by unfold DayOk; infer_instance
def DaysOk (ds : List Int) : Prop := ∀ x ∈ ds, DayOk x
instance (ds : List Int) : Decidable (DaysOk ds) := by unfold DaysOk; infer_instance
def UnlikeOk (r : List Int) : Prop := 1 ≤ r.length ∧ r.length ≤ 4 ∧ r.Nodup
instance (r : List Int) : Decidable (UnlikeOk r) := by unfold UnlikeOk; infer_instance
def RowOk (m : Int) (r : List Int) : Prop := UnlikeOk r ∧ ∀ x ∈ r, 0 ≤ x ∧ x < m
instance (m : Int) (r : List Int) : Decidable (RowOk m r) := by unfold RowOk; infer_instance
def optV : Option Int → V
  | none => .non
  | some i => .int i
def RunOk (s : Int) (o : Option Int) : Prop := DayOk s ∧ ∀ e, o = some e → s < e ∧ e ≤ 10000
def belowOf (o : Option Int) : Int := o.getD 10000
theorem RunOk.below {s : Int} {o : Option Int} (h : RunOk s o) : s < belowOf o ∧ belowOf o ≤ 10000 := by
  obtain ⟨h1, h2⟩ := h
  cases o with
  | none =>
    show s < 10000 ∧ (10000 : Int) ≤ 10000
    unfold DayOk at h1
    omega
  | some e => exact h2 e rfl
def holderOf (r ds : List Int) (d : Int) : Int := (r.find? fun l => decide (d < dayOf ds l)).getD (-1)
theorem holder_first {r ds : List Int} {d x : Int} {i : Nat} (hi : r[i]? = some x) (h : d < dayOf ds x) (hb : ∀ j, j < i → ∀ y, r[j]? = some y → ¬ d < dayOf ds y) : holderOf r ds d = x := by
  unfold holderOf
  have : (r.find? fun l => decide (d < dayOf ds l)) = some x := by
    obtain ⟨h1, h2⟩ := List.getElem?_eq_some_iff.mp hi
    rw [List.find?_eq_some_iff_getElem]
    refine ⟨decide_eq_true h, i, h1, h2, fun j hj => ?_⟩
    have := hb j hj _ (List.getElem?_eq_getElem (by omega))
    simpa using this
  rw [this]
  rfl
theorem holder_none {r ds : List Int} {d : Int} (hb : ∀ (j : Nat) (y : Int), r[j]? = some y → ¬ d < dayOf ds y) : holderOf r ds d = -1 := by
  unfold holderOf
  have : (r.find? fun l => decide (d < dayOf ds l)) = none := by
    rw [List.find?_eq_none]
    intro x hx
    obtain ⟨j, hj⟩ := List.mem_iff_getElem?.mp hx
    have := hb j x hj
    simpa using this
  rw [this]
  rfl
theorem holder_head (r ds : List Int) (d : Int) : holderOf r ds d = ((r.filter fun l => decide (d < dayOf ds l)).head?).getD (-1) := by
  unfold holderOf
  rw [List.head?_filter]
end LH
namespace LH
theorem filt_take {α : Type} {l : List α} {j : Nat} {x : α} (p : α → Bool) (h : l[j]? = some x) : (l.take (j + 1)).filter p = (l.take j).filter p ++ if p x = true then [x] else [] := by
  rw [List.take_succ, h, List.filter_append]
  cases e : p x <;> simp [e]
end LH
namespace LH
open PySem PySem.Spec PyProof.Rows L2
theorem iteN {c A B : Prop} [Decidable c] (hc : ¬ c) (h : A) : if (!decide c) = true then A else B := by
  rw [decide_eq_false hc]
  exact iteT h
end LH

set_option Elab.async false
set_option linter.all false
set_option maxRecDepth 100000
set_option maxHeartbeats 4000000
/-! defs with defaults: called by place and by name -/
namespace LH
open PySem PySem.Spec PyProof.Rows L2
section
variable {K : PySem.W.Frag} {x qual : Str} {params : Arguments} {body : List Stmt} {scope : Scope} {dvs : List V} {f : Addr} {fd : FuncData} {ps : List Str}
theorem kbinds1 (F : FunD K x qual params body scope dvs [] f fd) (n : Nat) (ks : List Str) (g : {α : Type} → List α → List α → List α → List α) (hd : dvs ≠ [])
    (hrel : ∀ {vs ds zs : List V} {us its ws : List Value}, Vals vs us → Vals ds its → Vals zs ws → Vals (g vs ds zs) (g us its ws))
    (h : ∀ (T : Addr) (kV doc pm : Value) (an : Option Addr) (cdv ct : Value) (us its ws : List Value), us.length = n → its.length = dvs.length → ws.length = ks.length →
      ∃ k, bindArgs (PySem.W.fnOf x qual params body scope (.ref T) kV doc pm an cdv ct) ⟨us, ks.zip ws⟩ = seqItems? (.ref T) >>= k ∧ k (some its.toArray) = pure (ps.zip (g us its ws))) :
    ∃ its : List Value, KBn K fd ps n ks (fun us ws => g us its ws) (fun vs zs => g vs dvs zs) := by
  obtain ⟨oc, od, dV, kV, doc, pm, an, cdv, ct, osl, rfl, lk, hcd, hD, hK⟩ := F.ex
  rcases hD with ⟨e, _⟩ | ⟨_, T, o, its, m, rfl, lT, oT, rT⟩
  · exact absurd e hd
  · refine ⟨its, ⟨fun s us ws X l1 l2 => ?_, fun r1 r2 => hrel r1 rT r2⟩⟩
    obtain ⟨k, e1, e2⟩ := h T kV doc pm an cdv ct us its ws l1 rT.length.symm l2
    refine BindsTo.of_looks fun M => ?_
    rw [e1]
    exact looks_items X lT oT (.of_pure e2)
end
/-- a def with defaults that may raise, by its name -/
structure OwnD (P : Program) (w : World) (K : PySem.W.Frag) (mg : Str → Option Value) (base : Heap) (x : Str) (st : Stmt) (ps : List Str) (dvs : List V) (k : Nat) (sp : Sp) : Prop where
  ex : ∃ (f : Addr) (fd : FuncData), FnOk P w K mg base (L2N.CX P w) k f fd ps sp ∧ mg x = some (.ref f) ∧ FunD K x x (defArgs st) (defBody st) (defScope st) dvs [] f fd
def tCallND (n m : Nat) (sp : Sp) (gV : List V → List V → List V) (E : L2.St → XK) (t tk : TA) : TE := fun σ H Q => t σ H fun vs H1 => tk σ H1 fun zs H2 => vs.length = n ∧ zs.length = m ∧ sp (gV vs zs) H2 Q (E σ)
section
variable {X : Cx} {k n : Nat} {ps ks : List Str} {sp : Sp} {x : Str} {p pos : Pos} {e : Expr} {es : List Expr} {kws : List Keyword} {t tk : TA} {st : Stmt} {dvs : List V}
theorem pe_ownDX {W : WX} (n : Nat) (ks : List Str) (g : {α : Type} → List α → List α → List α → List α) (C : OwnD X.prog X.w X.K X.mg X.base x st ps dvs k sp) (hr : Room k X.A) (tw : L2N.Takes X W)
    (hrel : ∀ {vs ds zs : List V} {us its ws : List Value}, Vals vs us → Vals ds its → Vals zs ws → Vals (g vs ds zs) (g us its ws))
    (h : ∀ (T : Addr) (kV doc pm : Value) (an : Option Addr) (cdv ct : Value) (us its ws : List Value), us.length = n → its.length = dvs.length → ws.length = ks.length →
      ∃ k, bindArgs (PySem.W.fnOf x x (defArgs st) (defBody st) (defScope st) (.ref T) kV doc pm an cdv ct) ⟨us, ks.zip ws⟩ = seqItems? (.ref T) >>= k ∧ k (some its.toArray) = pure (ps.zip (g us its ws)))
    (ha : PA X (e :: es) t) (hkw : PK X kws tk) (hd : dvs ≠ [] := by simp) (hg : Gl X x := by rfl) (hall : (backToKw pos (keywordEach kws X.env)).all (·.1.isSome) = true := by rfl) (hks : (backToKw pos (keywordEach kws X.env)).filterMap (·.1) = ks := by rfl)
    (hdb : (x == ("__debug__" : Str)) = false := by decide) (he : starEach (e :: es) X.env = (false, eval e X.env) :: starEach es X.env := by rfl)
    (hpl : ((backTo pos (starEach (e :: es) X.env)).any (·.1) || (backToKw pos (keywordEach kws X.env)).any (·.1.isNone)) = false := by rfl) :
    PE X (.Call (.Name x p) (e :: es) kws pos) (tCallND n ks.length sp (fun vs zs => g vs dvs zs) (WE W) t tk) := by
  obtain ⟨f, fd, F, hm, D⟩ := C.ex
  obtain ⟨its, hb⟩ := kbinds1 (ps := ps) D n ks g hd hrel h
  refine ⟨fun pins s σ H Q I h => ?_⟩
  refine wpAny_Call_Name_kw (ld_glob I hg hm ?_ hdb)
  refine PySem.W.callWith_KW (h₀ := X.base) I.ok.mod.kin D.kp hall (thn (ha.run pos pins s σ H _ I h) fun us s1 ⟨vs, H1, I1, r, q⟩ => ?_) hpl he
  refine thn (hkw.run pos pins s1 σ H1 _ I1 q) fun ws s2 ⟨zs, H2, I2, rz, l1, l2, q2⟩ => ⟨I2.kIn, ?_⟩
  rw [hks]
  have r2 := hb.rel r rz
  refine wpAny_call (codeAny_mono (F.run X.A X.stack s2 H2 ⟨us, ks.zip ws⟩ (g us its ws) (g vs dvs zs) Q (WE W σ) hr I2.env0 (hb.to s2 us ws I2.kIn (r.length.symm.trans l1) (rz.length.symm.trans l2)) r2 q2) fun r s' hq => ?_)
  cases r with
  | error e => exact L2N.passAt tw σ pins _ _ e s' I2 hq
  | ok fl =>
    cases fl with
    | ret u => exact I2.after hq
    | next => exact False.elim hq
    | brk => exact False.elim hq
    | cont => exact False.elim hq
theorem pe_ownDN (n : Nat) (ks : List Str) (g : {α : Type} → List α → List α → List α → List α) (C : OwnD X.prog X.w X.K X.mg X.base x st ps dvs k sp) (hr : Room k X.A)
    (hrel : ∀ {vs ds zs : List V} {us its ws : List Value}, Vals vs us → Vals ds its → Vals zs ws → Vals (g vs ds zs) (g us its ws))
    (h : ∀ (T : Addr) (kV doc pm : Value) (an : Option Addr) (cdv ct : Value) (us its ws : List Value), us.length = n → its.length = dvs.length → ws.length = ks.length →
      ∃ k, bindArgs (PySem.W.fnOf x x (defArgs st) (defBody st) (defScope st) (.ref T) kV doc pm an cdv ct) ⟨us, ks.zip ws⟩ = seqItems? (.ref T) >>= k ∧ k (some its.toArray) = pure (ps.zip (g us its ws)))
    (ha : PA X (e :: es) t) (hkw : PK X kws tk) (hd : dvs ≠ [] := by simp) (hg : Gl X x := by rfl) (hall : (backToKw pos (keywordEach kws X.env)).all (·.1.isSome) = true := by rfl) (hks : (backToKw pos (keywordEach kws X.env)).filterMap (·.1) = ks := by rfl)
    (hdb : (x == ("__debug__" : Str)) = false := by decide) (he : starEach (e :: es) X.env = (false, eval e X.env) :: starEach es X.env := by rfl)
    (hpl : ((backTo pos (starEach (e :: es) X.env)).any (·.1) || (backToKw pos (keywordEach kws X.env)).any (·.1.isNone)) = false := by rfl) :
    PE X (.Call (.Name x p) (e :: es) kws pos) (tCallN n ks.length sp (fun vs zs => g vs dvs zs) E0 t tk) := by
  obtain ⟨f, fd, F, hm, D⟩ := C.ex
  obtain ⟨its, hb⟩ := kbinds1 (ps := ps) D n ks g hd hrel h
  exact pe_callN F hr hg hm D.kp hb passX0 ha hkw hall hks hdb he hpl
end
end LH

set_option Elab.async false
set_option linter.all false
set_option maxRecDepth 100000
set_option maxHeartbeats 4000000
/-! turns -/
namespace LH
open PySem PySem.Spec PyProof.Rows L2
theorem snoc_ind {α : Type} {P : List α → Prop} (h0 : P []) (h1 : ∀ l x, P l → P (l ++ [x])) (l : List α) : P l := by
  have key : ∀ l : List α, P l.reverse := fun l => by
    induction l with
    | nil => exact h0
    | cons x l ih =>
      rw [List.reverse_cons]
      exact h1 _ _ ih
  have := key l.reverse
  rw [List.reverse_reverse] at this
  exact this
theorem min_if (a b : Int) : (if b < a then b else a) = min a b := by
  split <;> omega
def stepT (ds : List Int) (b : Int) (st : List (Int × Int × Int) × Int) (l : Int) : List (Int × Int × Int) × Int :=
  if st.2 < min (dayOf ds l) b then (st.1 ++ [(l, st.2, min (dayOf ds l) b)], min (dayOf ds l) b) else st
def turnsS (r ds : List Int) (s b : Int) : List (Int × Int × Int) × Int := r.foldl (stepT ds b) ([], s)
def turnsOf (r ds : List Int) (s b : Int) : List (Int × Int × Int) := (turnsS r ds s b).1
theorem turnsS_take {r ds : List Int} {s b x : Int} {i : Nat} (h : r[i]? = some x) : turnsS (r.take (i + 1)) ds s b = stepT ds b (turnsS (r.take i) ds s b) x := by
  unfold turnsS
  rw [List.take_succ, h, List.foldl_append]
  rfl
theorem turnsS_snoc (r ds : List Int) (s b x : Int) : turnsS (r ++ [x]) ds s b = stepT ds b (turnsS r ds s b) x := by
  unfold turnsS
  rw [List.foldl_append]
  rfl
theorem turnsS_len (ds : List Int) (s b : Int) : ∀ r : List Int, (turnsS r ds s b).1.length ≤ r.length := by
  intro r
  refine snoc_ind (P := fun r => (turnsS r ds s b).1.length ≤ r.length) (Nat.le_refl _) (fun r x ih => ?_) r
  · rw [turnsS_snoc, List.length_append]
    unfold stepT
    split
    · simp
      exact ih
    · simp
      omega
theorem turnsS_ge (ds : List Int) (s b : Int) : ∀ r : List Int, s ≤ (turnsS r ds s b).2 := by
  intro r
  refine snoc_ind (P := fun r => s ≤ (turnsS r ds s b).2) (Int.le_refl _) (fun r x ih => ?_) r
  · rw [turnsS_snoc]
    unfold stepT
    split
    · show s ≤ min (dayOf ds x) b
      omega
    · exact ih
/-- a turn as it is told -/
def TurnAt (K : PySem.W.Frag) (H : Hp) (v : V) (t : Int × Int × Int) : Prop := ∃ p q, v = .ref p ∧ H p = some (.tup [.int t.1, q]) ∧ SpanAt K H q t.2
abbrev TurnsAt (K : PySem.W.Frag) (H : Hp) : List V → List (Int × Int × Int) → Prop := AllAt (TurnAt K H)
theorem TurnAt.mono {K : PySem.W.Frag} {H H' : Hp} {v : V} {t : Int × Int × Int} (e : Same H H') (h : TurnAt K H v t) : TurnAt K H' v t := by
  obtain ⟨p, q, h1, h2, h3⟩ := h
  exact ⟨p, q, h1, e _ _ h2, h3.mono e⟩
theorem turns_mono {K : PySem.W.Frag} {H H' : Hp} {vs : List V} {ts : List (Int × Int × Int)} (e : Same H H') (h : TurnsAt K H vs ts) : TurnsAt K H' vs ts := AllAt.imp (fun _ _ => TurnAt.mono e) h
theorem SpanAt.updL {K : PySem.W.Frag} {H : Hp} {l : Addr} {o : HO} {zs : List V} {v : V} {s : Int × Int} (hl : H l = some (.lst zs)) (h : SpanAt K H v s) : SpanAt K (upd H l o) v s := by
  obtain ⟨a, dx, h1, h2⟩ := h
  exact ⟨a, dx, h1, by rw [upd_ne (ne_of h2 hl (by intro z; cases z))]; exact h2⟩
theorem turns_updL {K : PySem.W.Frag} {H : Hp} {l : Addr} {o : HO} {zs : List V} {vs : List V} {ts : List (Int × Int × Int)} (hl : H l = some (.lst zs)) (h : TurnsAt K H vs ts) : TurnsAt K (upd H l o) vs ts :=
  AllAt.imp (fun v t ⟨p, q, h1, h2, h3⟩ => ⟨p, q, h1, by rw [upd_ne (ne_of h2 hl (by intro z; cases z))]; exact h2, h3.updL hl⟩) h
def deadOf (r ds : List Int) (s b : Int) : List Int := ((turnsOf r ds s b).filter fun t => decide (t.2.2 = dayOf ds t.1)).map fun t => t.1
/-- what is true of each turn -/
theorem turns_ok {ds : List Int} {s b : Int} (h0 : 0 ≤ s) (hb : b ≤ 10000) : ∀ r : List Int, ∀ t ∈ (turnsS r ds s b).1, SpanOk t.2 ∧ t.1 ∈ r := by
  intro r
  refine snoc_ind (P := fun r => ∀ t ∈ (turnsS r ds s b).1, SpanOk t.2 ∧ t.1 ∈ r) (fun t ht => by cases ht) (fun r x ih => ?_) r
  · intro t ht
    have g := turnsS_ge ds s b r
    rw [turnsS_snoc] at ht
    unfold stepT at ht
    split at ht
    · rename_i c
      rcases List.mem_append.mp ht with ht | ht
      · exact ⟨(ih t ht).1, List.mem_append_left _ (ih t ht).2⟩
      · rw [List.mem_singleton.mp ht]
        exact ⟨⟨by show 0 ≤ (turnsS r ds s b).2; omega, c, by show min (dayOf ds x) b ≤ 10000; omega⟩, List.mem_append_right _ (List.mem_singleton.mpr rfl)⟩
    · exact ⟨(ih t ht).1, List.mem_append_left _ (ih t ht).2⟩
theorem TurnAt.len {K : PySem.W.Frag} {H : Hp} {vs : List V} {ts : List (Int × Int × Int)} (h : TurnsAt K H vs ts) : vs.length = ts.length := AllAt.length h
end LH
namespace LH
open PySem PySem.Spec PyProof.Rows L2
theorem ty_list {K : PySem.W.Frag} {H : Hp} {a : Addr} {xs : List V} (h : SqL K H a xs) : TyX K H (.ref a) (.type "list") := by
  rcases h with (h | ⟨o, h⟩) | ⟨o, its, n, h1, h2, _⟩
  · exact .base (.lst h)
  · exact .base (.frz h)
  · exact .kList h1 h2
theorem ty_tup {K : PySem.W.Frag} {H : Hp} {a : Addr} {xs : List V} (h : SqT K H a xs) : TyX K H (.ref a) (.type "tuple") := by
  rcases h with (h | ⟨o, h⟩) | ⟨o, its, n, h1, h2, _⟩
  · exact .base (.tup h)
  · exact .fTuple h
  · exact .kTuple h1 h2
theorem kit_list {K : PySem.W.Frag} : PySem.W.kitOne K (.type "list") (.type "list") = some true := kit_ty (by decide +kernel)
theorem kit_tuple {K : PySem.W.Frag} : PySem.W.kitOne K (.type "tuple") (.type "tuple") = some true := kit_ty (by decide +kernel)
end LH
namespace LH
open PySem PySem.Spec PyProof.Rows L2
theorem turns_seen {ds : List Int} {s b : Int} (r : List Int) : ∀ l ∈ r, min (dayOf ds l) b ≤ (turnsS r ds s b).2 := by
  refine snoc_ind (P := fun r => ∀ l ∈ r, min (dayOf ds l) b ≤ (turnsS r ds s b).2) (fun l hl => by cases hl) (fun r x ih => ?_) r
  intro l hl
  rw [turnsS_snoc]
  unfold stepT
  rcases List.mem_append.mp hl with hl | hl
  · have := ih l hl
    split
    · show min (dayOf ds l) b ≤ min (dayOf ds x) b
      omega
    · exact this
  · rw [List.mem_singleton.mp hl]
    split
    · exact Int.le_refl _
    · omega
def hereOf (ts : List (Int × Int × Int)) (s : Int) : Int := (ts.getLast?.map fun t => t.2.2).getD s
theorem hereOf_snoc (ts : List (Int × Int × Int)) (t : Int × Int × Int) (s : Int) : hereOf (ts ++ [t]) s = t.2.2 := by
  unfold hereOf
  rw [List.getLast?_append]
  rfl
theorem turns_here {ds : List Int} {s b : Int} (r : List Int) : (turnsS r ds s b).2 = hereOf (turnsS r ds s b).1 s := by
  refine snoc_ind (P := fun r => (turnsS r ds s b).2 = hereOf (turnsS r ds s b).1 s) rfl (fun r x ih => ?_) r
  rw [turnsS_snoc]
  unfold stepT
  split
  · rw [hereOf_snoc]
  · exact ih
theorem turns_next {ds : List Int} {s b : Int} (r : List Int) : ∀ (i : Nat) (t : Int × Int × Int), (turnsS r ds s b).1[i]? = some t → t.2.1 = hereOf ((turnsS r ds s b).1.take i) s := by
  refine snoc_ind (P := fun r => ∀ (i : Nat) (t : Int × Int × Int), (turnsS r ds s b).1[i]? = some t → t.2.1 = hereOf ((turnsS r ds s b).1.take i) s) (fun i t h => by simp [turnsS] at h) (fun r x ih => ?_) r
  intro i t h
  have hh := turns_here (ds := ds) (s := s) (b := b) r
  rw [turnsS_snoc] at h ⊢
  unfold stepT at h ⊢
  split at h
  · rename_i c
    rw [if_pos c]
    rcases Nat.lt_or_ge i (turnsS r ds s b).1.length with h1 | h1
    · rw [List.getElem?_append_left h1] at h
      rw [List.take_append_of_le_length (Nat.le_of_lt h1)]
      exact ih i t h
    · rw [List.getElem?_append_right h1] at h
      have e : i - (turnsS r ds s b).1.length = 0 := by
        rcases Nat.eq_zero_or_pos (i - (turnsS r ds s b).1.length) with z | z
        · exact z
        · rw [List.getElem?_eq_none (by simp; omega)] at h
          cases h
      rw [e] at h
      cases h
      have e2 : i = (turnsS r ds s b).1.length := by omega
      rw [e2, List.take_left']
      · exact hh
      · rfl
  · rename_i c
    rw [if_neg c]
    exact ih i t h
theorem turns_find {ds : List Int} {s b : Int} (r : List Int) : ∀ t ∈ (turnsS r ds s b).1, (∀ d, t.2.1 ≤ d → d < t.2.2 → (r.find? fun l => decide (d < dayOf ds l)) = some t.1) ∧ (t.2.2 < b → dayOf ds t.1 = t.2.2) := by
  refine snoc_ind (P := fun r => ∀ t ∈ (turnsS r ds s b).1, (∀ d, t.2.1 ≤ d → d < t.2.2 → (r.find? fun l => decide (d < dayOf ds l)) = some t.1) ∧ (t.2.2 < b → dayOf ds t.1 = t.2.2)) (fun t h => by cases h) (fun r x ih => ?_) r
  intro t ht
  have seen := turns_seen (ds := ds) (s := s) (b := b) r
  rw [turnsS_snoc] at ht
  unfold stepT at ht
  have old : t ∈ (turnsS r ds s b).1 → (∀ d, t.2.1 ≤ d → d < t.2.2 → ((r ++ [x]).find? fun l => decide (d < dayOf ds l)) = some t.1) ∧ (t.2.2 < b → dayOf ds t.1 = t.2.2) := fun ht => by
    refine ⟨fun d h1 h2 => ?_, (ih t ht).2⟩
    rw [List.find?_append, (ih t ht).1 d h1 h2]
    rfl
  split at ht
  · rename_i c
    rcases List.mem_append.mp ht with ht | ht
    · exact old ht
    · rw [List.mem_singleton.mp ht]
      refine ⟨fun d h1 h2 => ?_, fun h => ?_⟩
      · have h1 : (turnsS r ds s b).2 ≤ d := h1
        have h2 : d < min (dayOf ds x) b := h2
        have no : (r.find? fun l => decide (d < dayOf ds l)) = none := by
          rw [List.find?_eq_none]
          intro l hl
          have := seen l hl
          have : ¬ d < dayOf ds l := by omega
          simpa using this
        rw [List.find?_append, no]
        have : d < dayOf ds x := by omega
        simp [this]
      · show dayOf ds x = min (dayOf ds x) b
        have h : min (dayOf ds x) b < b := h
        omega
  · exact old ht
theorem turns_holder {ds : List Int} {s b : Int} (r : List Int) {t : Int × Int × Int} (ht : t ∈ (turnsS r ds s b).1) {d : Int} (h1 : t.2.1 ≤ d) (h2 : d < t.2.2) : holderOf r ds d = t.1 := by
  unfold holderOf
  rw [((turns_find r t ht).1 d h1 h2)]
  rfl
theorem holder_day {r ds : List Int} {d x : Int} (h : holderOf r ds d = x) (h0 : 0 ≤ x) : d < dayOf ds x := by
  unfold holderOf at h
  cases e : r.find? fun l => decide (d < dayOf ds l) with
  | none =>
    rw [e] at h
    have h : (-1 : Int) = x := h
    omega
  | some y =>
    rw [e] at h
    have h : y = x := h
    subst h
    have := List.find?_some e
    simpa using this
theorem turns_end {ds : List Int} {s b : Int} (r : List Int) (h : (turnsS r ds s b).2 < b) : holderOf r ds (turnsS r ds s b).2 = -1 := by
  refine holder_none fun j y hy => ?_
  have := turns_seen (ds := ds) (s := s) (b := b) r y (List.mem_of_getElem? hy)
  omega
theorem turns_ranks {ds : List Int} {s b : Int} (r : List Int) : r.Nodup → ((turnsS r ds s b).1.map fun t => (r.idxOf t.1 : Int)).Pairwise (· < ·) := by
  refine snoc_ind (P := fun r => r.Nodup → ((turnsS r ds s b).1.map fun t => (r.idxOf t.1 : Int)).Pairwise (· < ·)) (fun _ => List.Pairwise.nil) (fun r x ih => ?_) r
  intro nd
  have n1 := (List.nodup_append.mp nd).1
  have nx : x ∉ r := fun z => (List.nodup_append.mp nd).2.2 x z x (List.mem_singleton.mpr rfl) rfl
  have mem : ∀ t ∈ (turnsS r ds s b).1, t.1 ∈ r := fun t ht => by
    obtain ⟨h1, h2⟩ := (snoc_ind (P := fun r => ∀ t ∈ (turnsS r ds s b).1, t.1 ∈ r ∧ True) (fun t h => by cases h) (fun r x ih t ht => by
      rw [turnsS_snoc] at ht
      unfold stepT at ht
      split at ht
      · rcases List.mem_append.mp ht with ht | ht
        · exact ⟨List.mem_append_left _ (ih t ht).1, trivial⟩
        · rw [List.mem_singleton.mp ht]
          exact ⟨List.mem_append_right _ (List.mem_singleton.mpr rfl), trivial⟩
      · exact ⟨List.mem_append_left _ (ih t ht).1, trivial⟩) r) t ht
    exact h1
  have old : ((turnsS r ds s b).1.map fun t => ((r ++ [x]).idxOf t.1 : Int)) = (turnsS r ds s b).1.map fun t => (r.idxOf t.1 : Int) := List.map_congr_left fun t ht => by
    rw [List.idxOf_append, if_pos (mem t ht)]
  rw [turnsS_snoc]
  unfold stepT
  split
  · rw [List.map_append, old, List.pairwise_append]
    refine ⟨ih n1, by simp, fun a ha c hc => ?_⟩
    obtain ⟨t, ht, rfl⟩ := List.mem_map.mp ha
    have hc := List.mem_singleton.mp hc
    rw [hc]
    have h1 := List.idxOf_lt_length_iff.mpr (mem t ht)
    show (r.idxOf t.1 : Int) < ((r ++ [x]).idxOf x : Int)
    rw [List.idxOf_append, if_neg nx]
    omega
  · rw [old]
    exact ih n1
theorem turns_sum {ds : List Int} {s b : Int} (r : List Int) : ((turnsS r ds s b).1.map fun t => (((t.2.2 - t.2.1).toNat : Nat) : Int)).sum = (turnsS r ds s b).2 - s := by
  refine snoc_ind (P := fun r => ((turnsS r ds s b).1.map fun t => (((t.2.2 - t.2.1).toNat : Nat) : Int)).sum = (turnsS r ds s b).2 - s) (by simp [turnsS]) (fun r x ih => ?_) r
  rw [turnsS_snoc]
  unfold stepT
  split
  · rw [List.map_append, List.sum_append, ih]
    show _ + List.sum [(((min (dayOf ds x) b - (turnsS r ds s b).2).toNat : Nat) : Int)] = min (dayOf ds x) b - s
    simp only [List.sum_cons, List.sum_nil]
    omega
  · exact ih
end LH
namespace LH
theorem sum_nats (ts : List (Int × Int × Int)) : 0 ≤ (ts.map fun t => (((t.2.2 - t.2.1).toNat : Nat) : Int)).sum := by
  induction ts with
  | nil => exact Int.le_refl _
  | cons t ts ih =>
    rw [List.map_cons, List.sum_cons]
    omega
end LH
namespace LH
open PySem PySem.Spec PyProof.Rows L2
open Classical in
noncomputable def dueW (door : Int) (r ds : List Int) (s : Int) (o : Option Int) : Str :=
  if ¬ CountOk (ds.length : Int) then "BadCount" else if ¬ DaysOk ds then "BadDay" else if ¬ RowOk (ds.length : Int) r then "BadRow" else
    if door = 0 then (if ¬ DayOk s then "BadDay" else "") else if ¬ RunOk s o then "BadDay" else ""
end LH

set_option Elab.async false
set_option linter.all false
set_option maxRecDepth 100000
set_option maxHeartbeats 4000000
/-! a tie more; who may hold: the mathematics -/
namespace LH
theorem feas_app {n : Nat} {ts us : List Tie} {φ : Nat → Int} : Feas n (ts ++ us) φ ↔ Feas n ts φ ∧ ∀ t ∈ us, t.2.2 ≤ φ (nd n t.1) - φ (nd n t.2.1) :=
  ⟨fun f => ⟨⟨f.z, f.lo, f.hi, fun t ht => f.ke t (List.mem_append_left _ ht)⟩, fun t ht => f.ke t (List.mem_append_right _ ht)⟩,
   fun ⟨f, h⟩ => ⟨f.z, f.lo, f.hi, fun t ht => (List.mem_append.mp ht).elim (f.ke t) (h t)⟩⟩
theorem can_one {n : Nat} {ts : List Tie} {t : Tie} (hok : ∀ t ∈ ts, TieIx (n : Int) t) (ix : TieIx (n : Int) t) (c : Can n ts) : Can n (ts ++ [t]) ↔ gapsG n ts (nd n t.2.1) (nd n t.1) + t.2.2 ≤ 0 := by
  have hd := (can_iff hok).mp c
  have n1 := nd_le (n := n) ix.2.1
  have n2 := nd_le (n := n) ix.2.2.2.1
  constructor
  · rintro ⟨φ, f⟩
    obtain ⟨f1, f2⟩ := feas_app.mp f
    have a := gap_le f1 n2 n1
    have b := f2 t (List.mem_singleton.mpr rfl)
    omega
  · intro h
    have f := feas_gap hok hd n1
    refine ⟨_, feas_app.mpr ⟨f, fun u hu => ?_⟩⟩
    rw [List.mem_singleton.mp hu]
    have := hd _ n1
    show t.2.2 ≤ gapsG n ts (nd n t.1) (nd n t.1) - gapsG n ts n (nd n t.1) - (gapsG n ts (nd n t.2.1) (nd n t.1) - gapsG n ts n (nd n t.1))
    omega
def moreG (n : Nat) (g : Nat → Nat → Int) (t : Tie) : Nat → Nat → Int := fun i j => max (g i j) (g i (nd n t.1) + (t.2.2 + g (nd n t.2.1) j))
theorem gaps_one {n : Nat} {ts : List Tie} {t : Tie} (hok : ∀ t ∈ ts, TieIx (n : Int) t) (ix : TieIx (n : Int) t) (c : Can n (ts ++ [t])) {i j : Nat} (hi : i ≤ n) (hj : j ≤ n) : gapsG n (ts ++ [t]) i j = moreG n (gapsG n ts) t i j := by
  have ok2 : ∀ u ∈ ts ++ [t], TieIx (n : Int) u := fun u hu => (List.mem_append.mp hu).elim (hok u) (fun h => by rw [List.mem_singleton.mp h]; exact ix)
  have c0 : Can n ts := by
    obtain ⟨φ, f⟩ := c
    exact ⟨φ, (feas_app.mp f).1⟩
  have hd := (can_iff hok).mp c0
  have hd2 := (can_iff ok2).mp c
  have cl := (can_one hok ix c0).mp c
  have n1 := nd_le (n := n) ix.2.1
  have n2 := nd_le (n := n) ix.2.2.2.1
  have close := fun (a b c : Nat) (hb : b ≤ n) => gap_close (n := n) (ts := ts) hd hb a c
  have mjj : moreG n (gapsG n ts) t j j = 0 := by
    have h1 := hd j hj
    have h2 := close (nd n t.2.1) j (nd n t.1) hj
    unfold moreG
    omega
  have F : Feas n (ts ++ [t]) (fun a => moreG n (gapsG n ts) t a j - moreG n (gapsG n ts) t n j) := by
    refine feas_app.mpr ⟨⟨?_, fun a ha => ?_, fun a ha => ?_, fun u hu => ?_⟩, fun u hu => ?_⟩
    · show moreG n (gapsG n ts) t n j - moreG n (gapsG n ts) t n j = 0
      omega
    · have h1 := close a n j (Nat.le_refl n)
      have h2 := gap_lo (n := n) (ts := ts) a
      have h3 := close a n (nd n t.1) (Nat.le_refl n)
      show 0 ≤ moreG n (gapsG n ts) t a j - moreG n (gapsG n ts) t n j
      unfold moreG
      omega
    · have h1 := close n a j (Nat.le_of_lt ha)
      have h2 := gap_hi (n := n) (ts := ts) n a
      have h3 := close n a (nd n t.1) (Nat.le_of_lt ha)
      show moreG n (gapsG n ts) t a j - moreG n (gapsG n ts) t n j ≤ 9999
      unfold moreG
      omega
    · have ok := hok u hu
      have h0 := gap_tie (n := n) hu
      have h1 := close (nd n u.1) (nd n u.2.1) j (nd_le ok.2.2.2.1)
      have h3 := close (nd n u.1) (nd n u.2.1) (nd n t.1) (nd_le ok.2.2.2.1)
      show u.2.2 ≤ moreG n (gapsG n ts) t (nd n u.1) j - moreG n (gapsG n ts) t n j - (moreG n (gapsG n ts) t (nd n u.2.1) j - moreG n (gapsG n ts) t n j)
      unfold moreG
      omega
    · rw [List.mem_singleton.mp hu]
      have h0 := hd _ n1
      show t.2.2 ≤ moreG n (gapsG n ts) t (nd n t.1) j - moreG n (gapsG n ts) t n j - (moreG n (gapsG n ts) t (nd n t.2.1) j - moreG n (gapsG n ts) t n j)
      unfold moreG
      omega
  have up := gap_le F hi hj
  have mono : ∀ a b, a ≤ n → b ≤ n → gapsG n ts a b ≤ gapsG n (ts ++ [t]) a b := fun a b ha hb => by
    have f := feas_gap ok2 hd2 hb
    have h1 := gap_le (feas_app.mp f).1 ha hb
    have h2 := hd2 b hb
    try dsimp only at h1
    omega
  have lo1 := mono i j hi hj
  have lo2 := mono i (nd n t.1) hi n1
  have lo3 := mono (nd n t.2.1) j n2 hj
  have tt := gap_tie (n := n) (ts := ts ++ [t]) (t := t) (List.mem_append_right _ (List.mem_singleton.mpr rfl))
  have c1 := gap_close hd2 n1 i j
  have c2 := gap_close hd2 n2 (nd n t.1) j
  try dsimp only at up
  have e : moreG n (gapsG n ts) t i j ≤ gapsG n (ts ++ [t]) i j := by
    unfold moreG
    omega
  omega
theorem can_left {n : Nat} {ts us : List Tie} (c : Can n (ts ++ us)) : Can n ts := by
  obtain ⟨φ, f⟩ := c
  exact ⟨φ, (feas_app.mp f).1⟩
theorem app_ix {n : Nat} {ts us : List Tie} (h1 : ∀ t ∈ ts, TieIx (n : Int) t) (h2 : ∀ t ∈ us, TieIx (n : Int) t) : ∀ t ∈ ts ++ us, TieIx (n : Int) t := fun t ht => (List.mem_append.mp ht).elim (h1 t) (h2 t)
/-! who holds -/
def holdT (r : List Int) (d x : Int) : List Tie := if x = -1 then r.map fun e => (-1, e, -d) else ((r.take (r.idxOf x)).map fun e => (-1, e, -d)) ++ [(x, -1, d + 1)]
theorem holdT_ix {m : Int} {r : List Int} {d x : Int} (hr : ∀ y ∈ r, 0 ≤ y ∧ y < m) (hx : x = -1 ∨ x ∈ r) (h0 : 0 < m) : ∀ t ∈ holdT r d x, TieIx m t := by
  intro t ht
  unfold holdT at ht
  split at ht
  · obtain ⟨e, he, rfl⟩ := List.mem_map.mp ht
    have := hr e he
    exact ⟨by show (-1 : Int) ≤ -1; omega, by show (-1 : Int) < m; omega, by show -1 ≤ e; omega, by show e < m; omega, trivial⟩
  · rename_i c
    rcases List.mem_append.mp ht with ht | ht
    · obtain ⟨e, he, rfl⟩ := List.mem_map.mp ht
      have := hr e (List.mem_of_mem_take he)
      exact ⟨by show (-1 : Int) ≤ -1; omega, by show (-1 : Int) < m; omega, by show -1 ≤ e; omega, by show e < m; omega, trivial⟩
    · rw [List.mem_singleton.mp ht]
      have := hr x (hx.elim (fun z => absurd z c) id)
      exact ⟨by show -1 ≤ x; omega, by show x < m; omega, by show (-1 : Int) ≤ -1; omega, by show (-1 : Int) < m; omega, trivial⟩
theorem holdT_len (r : List Int) (d x : Int) : (holdT r d x).length ≤ r.length + 1 := by
  unfold holdT
  split
  · simp
  · simp
    omega
theorem find_split {p : Int → Bool} : ∀ {r : List Int} {x : Int}, x ∈ r → r.Nodup → ((r.find? p) = some x ↔ (∀ e ∈ r.take (r.idxOf x), p e = false) ∧ p x = true)
  | [], x, h, _ => by cases h
  | y :: r, x, h, nd => by
    by_cases e : y = x
    · subst e
      rw [List.idxOf_cons_self, List.take_zero]
      cases hp : p y with
      | true => simp [List.find?_cons, hp]
      | false =>
        simp only [List.find?_cons, hp]
        constructor
        · intro z
          have := List.find?_some z
          rw [hp] at this
          cases this
        · rintro ⟨_, z⟩
          cases z
    · have hx : x ∈ r := (List.mem_cons.mp h).elim (fun z => absurd z.symm e) id
      have ih := find_split (p := p) hx (List.nodup_cons.mp nd).2
      rw [show (y :: r).idxOf x = r.idxOf x + 1 by rw [List.idxOf_cons, show (y == x) = false from beq_eq_false_iff_ne.mpr e]; rfl, List.take_succ_cons]
      cases hp : p y with
      | true =>
        simp only [List.find?_cons, hp]
        constructor
        · intro z
          exact absurd (Option.some.inj z) e
        · rintro ⟨z, _⟩
          have := z y List.mem_cons_self
          rw [hp] at this
          cases this
      | false =>
        simp only [List.find?_cons, hp]
        rw [ih]
        constructor
        · rintro ⟨z1, z2⟩
          exact ⟨fun e he => (List.mem_cons.mp he).elim (fun q => by rw [q]; exact hp) (z1 e), z2⟩
        · rintro ⟨z1, z2⟩
          exact ⟨fun e he => z1 e (List.mem_cons_of_mem _ he), z2⟩
/-- the ties of who holds, kept -/
theorem hold_iff {n : Nat} {r ds : List Int} {d x : Int} (hr : RowOk (n : Int) r) (hx : x = -1 ∨ x ∈ r) : (∀ t ∈ holdT r d x, KeptW ds t) ↔ holderOf r ds d = x := by
  have pos : ∀ y ∈ r, ¬ y = -1 := fun y hy z => by have := (hr.2 y hy).1; omega
  have k1 : ∀ e ∈ r, (KeptW ds (-1, e, -d) ↔ ¬ d < dayOf ds e) := fun e he => by
    unfold KeptW
    rw [dayOf_neg (by show (-1 : Int) < 0; omega)]
    show -d ≤ 0 - dayOf ds e ↔ _
    omega
  rcases hx with rfl | hx
  · unfold holdT
    rw [if_pos rfl]
    constructor
    · intro h
      refine holder_none fun j y hy => ?_
      have hy := List.mem_of_getElem? hy
      exact (k1 y hy).mp (h _ (List.mem_map.mpr ⟨y, hy, rfl⟩))
    · intro h t ht
      obtain ⟨e, he, rfl⟩ := List.mem_map.mp ht
      refine (k1 e he).mpr fun z => ?_
      unfold holderOf at h
      cases q : r.find? fun l => decide (d < dayOf ds l) with
      | none =>
        have := List.find?_eq_none.mp q e he
        exact this (decide_eq_true z)
      | some y =>
        rw [q] at h
        exact pos y (List.mem_of_find?_eq_some q) h
  · have c := pos x hx
    unfold holdT
    rw [if_neg c]
    have kx : KeptW ds (x, -1, d + 1) ↔ d < dayOf ds x := by
      unfold KeptW
      rw [show dayOf ds (x, (-1 : Int), d + 1).2.1 = 0 from dayOf_neg (by show (-1 : Int) < 0; omega)]
      show d + 1 ≤ dayOf ds x - 0 ↔ _
      omega
    have fs := find_split (p := fun l => decide (d < dayOf ds l)) hx hr.1.2.2
    have hh : holderOf r ds d = x ↔ (r.find? fun l => decide (d < dayOf ds l)) = some x := by
      unfold holderOf
      cases q : r.find? fun l => decide (d < dayOf ds l) with
      | none =>
        constructor
        · intro z
          exact absurd z.symm c
        · intro z
          cases z
      | some y =>
        constructor
        · intro z
          exact congrArg some z
        · intro z
          exact Option.some.inj z
    rw [hh, fs]
    constructor
    · intro h
      refine ⟨fun e he => ?_, ?_⟩
      · have := (k1 e (List.mem_of_mem_take he)).mp (h _ (List.mem_append_left _ (List.mem_map.mpr ⟨e, he, rfl⟩)))
        exact decide_eq_false this
      · exact decide_eq_true (kx.mp (h _ (List.mem_append_right _ (List.mem_singleton.mpr rfl))))
    · rintro ⟨h1, h2⟩ t ht
      rcases List.mem_append.mp ht with ht | ht
      · obtain ⟨e, he, rfl⟩ := List.mem_map.mp ht
        exact (k1 e (List.mem_of_mem_take he)).mpr (of_decide_eq_false (h1 e he))
      · rw [List.mem_singleton.mp ht]
        exact kx.mpr (of_decide_eq_true h2)
/-- some way has this holder -/
theorem may_iff {n : Nat} {ts : List Tie} {r : List Int} {d x : Int} (hok : ∀ t ∈ ts, TieIx (n : Int) t) (hr : RowOk (n : Int) r) (hx : x = -1 ∨ x ∈ r) (h0 : 0 < n) : Can n (ts ++ holdT r d x) ↔ ∃ ds, Way n ts ds ∧ holderOf r ds d = x := by
  have hi := holdT_ix (d := d) hr.2 hx (by omega)
  constructor
  · rintro ⟨φ, f⟩
    have w := f.way (app_ix hok hi)
    exact ⟨_, ⟨w.len, w.rg, fun t ht => w.kp t (List.mem_append_left _ ht)⟩, (hold_iff hr hx).mp fun t ht => w.kp t (List.mem_append_right _ ht)⟩
  · rintro ⟨ds, w, e⟩
    have k := (hold_iff (ds := ds) (d := d) hr hx).mpr e
    exact ⟨_, Way.feas (ts := ts ++ holdT r d x) (app_ix hok hi) ⟨w.len, w.rg, fun t ht => (List.mem_append.mp ht).elim (w.kp t) (k t)⟩⟩
theorem holder_mem (r ds : List Int) (d : Int) : holderOf r ds d = -1 ∨ holderOf r ds d ∈ r := by
  unfold holderOf
  cases q : r.find? fun l => decide (d < dayOf ds l) with
  | none => exact .inl rfl
  | some y => exact .inr (List.mem_of_find?_eq_some q)
open Classical in
noncomputable def mayOf (n : Nat) (ts : List Tie) (r : List Int) (d : Int) : List Int := (r ++ [-1]).filter fun x => decide (Can n (ts ++ holdT r d x))
theorem mem_row1 {r : List Int} {x : Int} : x ∈ r ++ [-1] ↔ x = -1 ∨ x ∈ r := by
  rw [List.mem_append, List.mem_singleton]
  exact Or.comm
theorem mem_may {n : Nat} {ts : List Tie} {r : List Int} {d x : Int} : x ∈ mayOf n ts r d ↔ (x = -1 ∨ x ∈ r) ∧ Can n (ts ++ holdT r d x) := by
  unfold mayOf
  rw [List.mem_filter, mem_row1]
  simp
theorem may_ne {n : Nat} {ts : List Tie} {r : List Int} {d : Int} (hok : ∀ t ∈ ts, TieIx (n : Int) t) (hr : RowOk (n : Int) r) (h0 : 0 < n) (c : Can n ts) : mayOf n ts r d ≠ [] := by
  obtain ⟨φ, f⟩ := c
  have w := f.way hok
  have m := holder_mem r ((List.range n).map φ) d
  have : holderOf r ((List.range n).map φ) d ∈ mayOf n ts r d := mem_may.mpr ⟨m, (may_iff hok hr m h0).mpr ⟨_, w, rfl⟩⟩
  intro z
  rw [z] at this
  cases this
theorem may_len {n : Nat} {ts : List Tie} {r : List Int} {d : Int} : (mayOf n ts r d).length ≤ r.length + 1 := by
  unfold mayOf
  refine Nat.le_trans (List.length_filter_le _ _) ?_
  simp
end LH
namespace LH
open PySem PySem.Spec PyProof.Rows L2
/-- one that may hold, and the gaps of its ways -/
def HoldsAt (K : PySem.W.Frag) (n : Nat) (ts : List Tie) (r : List Int) (d : Int) (H : Hp) (v : V) (x : Int) : Prop :=
  ∃ (p q : Addr) (as : List Addr), v = .ref p ∧ H p = some (.tup [.int x, .ref q]) ∧ SqL K H q (as.map V.ref) ∧ MatAt H as (gapsG n (ts ++ holdT r d x)) n
theorem HoldsAt.mono {K : PySem.W.Frag} {n : Nat} {ts : List Tie} {r : List Int} {d : Int} {H H' : Hp} {v : V} {x : Int} (e : Same H H') (h : HoldsAt K n ts r d H v x) : HoldsAt K n ts r d H' v x := by
  obtain ⟨p, q, as, h1, h2, h3, h4⟩ := h
  exact ⟨p, q, as, h1, e _ _ h2, e.seq h3, h4.mono e⟩
abbrev HoldersAt (K : PySem.W.Frag) (n : Nat) (ts : List Tie) (r : List Int) (d : Int) (H : Hp) : List V → List Int → Prop := AllAt (HoldsAt K n ts r d H)
theorem holders_mono {K : PySem.W.Frag} {n : Nat} {ts : List Tie} {r : List Int} {d : Int} {H H' : Hp} {vs : List V} {xs : List Int} (e : Same H H') (h : HoldersAt K n ts r d H vs xs) : HoldersAt K n ts r d H' vs xs := AllAt.imp (fun _ _ => HoldsAt.mono e) h
end LH
namespace LH
open PySem PySem.Spec PyProof.Rows L2
def HoldsN (K : PySem.W.Frag) (n : Nat) (ts : List Tie) (r : List Int) (d : Int) (D : Addr) (H : Hp) (v : V) (x : Int) : Prop :=
  ∃ (p q : Addr) (as : List Addr), v = .ref p ∧ p ≠ D ∧ q ≠ D ∧ (∀ a ∈ as, a ≠ D) ∧ H p = some (.tup [.int x, .ref q]) ∧ SqL K H q (as.map V.ref) ∧ MatAt H as (gapsG n (ts ++ holdT r d x)) n
theorem holdsN_mono {K : PySem.W.Frag} {n : Nat} {ts : List Tie} {r : List Int} {d : Int} {D : Addr} {H H' : Hp} {vs : List V} {xs : List Int} (e : Same H H') (h : AllAt (HoldsN K n ts r d D H) vs xs) : AllAt (HoldsN K n ts r d D H') vs xs :=
  AllAt.imp (fun _ _ ⟨p, q, as, h1, n1, n2, n3, h2, h3, h4⟩ => ⟨p, q, as, h1, n1, n2, n3, e _ _ h2, e.seq h3, h4.mono e⟩) h
theorem sqL_upd {K : PySem.W.Frag} {H : Hp} {a D : Addr} {o : HO} {xs : List V} (n : a ≠ D) (h : SqL K H a xs) : SqL K (upd H D o) a xs := by
  rcases h with (h | ⟨u, h⟩) | h
  · exact .inl (.inl (by rw [upd_ne n]; exact h))
  · exact .inl (.inr ⟨u, by rw [upd_ne n]; exact h⟩)
  · exact .inr h
theorem holdsN_upd {K : PySem.W.Frag} {n : Nat} {ts : List Tie} {r : List Int} {d : Int} {D : Addr} {H : Hp} {o : HO} {vs : List V} {xs : List Int} (h : AllAt (HoldsN K n ts r d D H) vs xs) : AllAt (HoldsN K n ts r d D (upd H D o)) vs xs :=
  AllAt.imp (fun _ _ ⟨p, q, as, h1, n1, n2, n3, h2, h3, h4⟩ => ⟨p, q, as, h1, n1, n2, n3, by rw [upd_ne n1]; exact h2, sqL_upd n2 h3, ⟨h4.len, h4.nd, fun i a ha => by rw [upd_ne (n3 a (List.mem_of_getElem? ha))]; exact h4.row i a ha⟩⟩) h
theorem holdsN_at {K : PySem.W.Frag} {n : Nat} {ts : List Tie} {r : List Int} {d : Int} {D : Addr} {H : Hp} {vs : List V} {xs : List Int} (h : AllAt (HoldsN K n ts r d D H) vs xs) : HoldersAt K n ts r d H vs xs :=
  AllAt.imp (fun _ _ ⟨p, q, as, h1, _, _, _, h2, h3, h4⟩ => ⟨p, q, as, h1, h2, h3, h4⟩) h
open Classical in
noncomputable def mayTake (n : Nat) (ts : List Tie) (r : List Int) (d : Int) (i : Nat) : List Int := ((r ++ [-1]).take i).filter fun x => decide (Can n (ts ++ holdT r d x))
theorem mayTake_len (n : Nat) (ts : List Tie) (r : List Int) (d : Int) (i : Nat) : (mayTake n ts r d i).length ≤ r.length + 1 := by
  unfold mayTake
  refine Nat.le_trans (List.length_filter_le _ _) ?_
  rw [List.length_take, List.length_append]
  simp
  omega
open Classical in
theorem mayTake_succ {n : Nat} {ts : List Tie} {r : List Int} {d x : Int} {i : Nat} (h : (r ++ [-1])[i]? = some x) : mayTake n ts r d (i + 1) = mayTake n ts r d i ++ if Can n (ts ++ holdT r d x) then [x] else [] := by
  unfold mayTake
  rw [filt_take _ h]
  simp
theorem mayTake_all (n : Nat) (ts : List Tie) (r : List Int) (d : Int) : mayTake n ts r d (r ++ [-1]).length = mayOf n ts r d := by
  unfold mayTake mayOf
  rw [List.take_length]
end LH
namespace LH
open PySem PySem.Spec PyProof.Rows L2
theorem early_can {n : Nat} {ts : List Tie} {H H' : Hp} {v : V} (hok : ∀ t ∈ ts, TieIx (n : Int) t) (h : EarlyIs n ts H H' v) : v = .non ↔ ¬ Can n ts := by
  rcases h with ⟨rfl, no⟩ | ⟨p, ds, rfl, _, _, w, _⟩
  · exact ⟨fun _ => no, fun _ => rfl⟩
  · exact ⟨(fun z => by cases z), fun z => absurd (w.can hok) z⟩
open Classical in
theorem mayOf_app (n : Nat) (ts : List Tie) (r : List Int) (d : Int) : mayOf n ts r d = (r.filter fun x => decide (Can n (ts ++ holdT r d x))) ++ if Can n (ts ++ holdT r d (-1)) then [-1] else [] := by
  unfold mayOf
  rw [List.filter_append]
  simp [List.filter_cons]
end LH

set_option Elab.async false
set_option linter.all false
set_option maxRecDepth 100000
set_option maxHeartbeats 4000000
/-! windows that are apart; sorted of pairs -/
namespace LH
open PySem PySem.Spec PyProof.Rows L2
theorem srtP {X : Cx} (K : PySem.W.Frag) (h : X.K = K := by rfl) : CallR X (.builtin "sorted") (rSortedPO K) := by subst h; exact cr_sortedPO
def kOf (H : Hp) : V → Int × Int
  | .ref t => match H t with
    | some (.tup [.int a, .int b]) => (a, b)
    | _ => (0, 0)
  | _ => (0, 0)
theorem kOf_at {H : Hp} {v : V} {w : Int × Int} (h : PairAt H v w) : kOf H v = w ∧ ∃ t, v = V.ref t ∧ H t = some (.tup [.int (kOf H v).1, .int (kOf H v).2]) := by
  obtain ⟨t, rfl, ht⟩ := h
  have e : kOf H (.ref t) = w := by
    show (match H t with
      | some (HO.tup [V.int a, V.int b]) => (a, b)
      | _ => (0, 0)) = w
    rw [ht]
  exact ⟨e, t, rfl, by rw [e]; exact ht⟩
theorem kOf_all {H : Hp} : ∀ {xs : List V} {ws : List (Int × Int)}, PairsAt H xs ws → (∀ x ∈ xs, ∃ t, x = V.ref t ∧ H t = some (.tup [.int (kOf H x).1, .int (kOf H x).2])) ∧ xs.map (kOf H) = ws
  | [], [], _ => ⟨(fun x hx => by cases hx), rfl⟩
  | v :: vs, w :: ws, h => by
    obtain ⟨h1, h2⟩ := kOf_all h.2
    obtain ⟨e, g⟩ := kOf_at h.1
    refine ⟨fun x hx => ?_, by rw [List.map_cons, e, h2]⟩
    rcases List.mem_cons.mp hx with rfl | hx
    · exact g
    · exact h1 x hx
theorem pairs_of {H : Hp} {ys : List V} (h : ∀ x ∈ ys, ∃ t, x = V.ref t ∧ H t = some (.tup [.int (kOf H x).1, .int (kOf H x).2])) : PairsAt H ys (ys.map (kOf H)) := by
  induction ys with
  | nil => exact trivial
  | cons y ys ih =>
    refine ⟨?_, ih fun x hx => h x (List.mem_cons_of_mem _ hx)⟩
    obtain ⟨t, e1, e2⟩ := h y List.mem_cons_self
    exact ⟨t, e1, e2⟩
/-- two windows without a common day -/
def Off (a b : Int × Int) : Prop := a.2 < b.1 ∨ b.2 < a.1
def Apart (ws : List (Int × Int)) : Prop := ws.Pairwise Off
theorem apart_perm {ws vs : List (Int × Int)} (h : ws.Perm vs) : Apart ws ↔ Apart vs := h.pairwise_iff (fun {a b} h => h.symm)
/-- sorted by first and last -/
def Rising (ws : List (Int × Int)) : Prop := ws.Pairwise fun a b => a.1 < b.1 ∨ (a.1 = b.1 ∧ a.2 ≤ b.2)
theorem rising_of {H : Hp} {ys : List V} (h : SrtO.Srtd (ltP (kOf H)) ys) : Rising (ys.map (kOf H)) := by
  refine List.pairwise_map.mpr (h.imp fun {a b} h => ?_)
  have := SrtO.lexB_no.mp h
  omega
theorem apart_iff {ws : List (Int × Int)} (hr : Rising ws) (hw : ∀ w ∈ ws, w.1 ≤ w.2) : (∀ (k : Nat) a b, ws[k]? = some a → ws[k + 1]? = some b → a.2 < b.1) ↔ Apart ws := by
  induction ws with
  | nil => exact ⟨fun _ => List.Pairwise.nil, fun _ k a b h => by simp at h⟩
  | cons w ws ih =>
    have ih := ih (List.pairwise_cons.mp hr).2 fun x hx => hw x (List.mem_cons_of_mem _ hx)
    have r1 := (List.pairwise_cons.mp hr).1
    have w0 := hw w List.mem_cons_self
    constructor
    · intro h
      refine List.pairwise_cons.mpr ⟨fun b hb => ?_, ih.mp fun k a b h1 h2 => h (k + 1) a b h1 h2⟩
      cases ws with
      | nil => cases hb
      | cons v vs =>
        have h0 := h 0 w v rfl rfl
        have rv := (List.pairwise_cons.mp (List.pairwise_cons.mp hr).2).1
        refine .inl ?_
        rcases List.mem_cons.mp hb with rfl | hb
        · exact h0
        · have := rv b hb
          omega
    · intro h k a b h1 h2
      have p := List.pairwise_cons.mp h
      cases k with
      | zero =>
        cases ws with
        | nil => simp at h2
        | cons v vs =>
          have e1 : w = a := Option.some.inj h1
          have e2 : v = b := Option.some.inj h2
          subst e1 e2
          have q := p.1 v List.mem_cons_self
          have s := r1 v List.mem_cons_self
          have v0 := hw v (List.mem_cons_of_mem _ List.mem_cons_self)
          unfold Off at q
          omega
      | succ k => exact ih.mpr p.2 k a b h1 h2
/-- the windows of a life, a window for each one that may hold -/
noncomputable def winsOf (n : Nat) (ts : List Tie) (r : List Int) (d : Int) (i : Nat) : List (Int × Int) := (mayOf n ts r d).map fun x => (gapsG n (ts ++ holdT r d x) i n, - gapsG n (ts ++ holdT r d x) n i)
open Classical in
noncomputable def endsB (n : Nat) (ts : List Tie) (r : List Int) (d : Int) (i : Nat) : Bool := decide (Apart (winsOf n ts r d i))
noncomputable def endersOf (n : Nat) (ts : List Tie) (r : List Int) (d : Int) : List Int := places (endsB n ts r d) n
theorem win_le {n : Nat} {us : List Tie} (hok : ∀ t ∈ us, TieIx (n : Int) t) (c : Can n us) {i : Nat} (hi : i < n) : gapsG n us i n ≤ - gapsG n us n i := by
  obtain ⟨φ, f⟩ := c
  have h1 := gap_le f (Nat.le_of_lt hi) (Nat.le_refl n)
  have h2 := gap_le f (Nat.le_refl n) (Nat.le_of_lt hi)
  omega
theorem wins_le {n : Nat} {ts : List Tie} {r : List Int} {d : Int} (hok : ∀ t ∈ ts, TieIx (n : Int) t) (hr : RowOk (n : Int) r) (h0 : 0 < n) {i : Nat} (hi : i < n) : ∀ w ∈ winsOf n ts r d i, w.1 ≤ w.2 := by
  intro w hw
  obtain ⟨x, hx, rfl⟩ := List.mem_map.mp hw
  have m := mem_may.mp hx
  exact win_le (app_ix hok (holdT_ix hr.2 m.1 (by omega))) m.2 hi
end LH
namespace LH
open PySem PySem.Spec PyProof.Rows L2
def SpreadAt (n : Nat) (ts : List Tie) (r : List Int) (d : Int) (H : Hp) (v : V) (x : Int) : Prop := ∃ p e l : Addr, v = .ref p ∧ H p = some (.tup [.ref e, .ref l]) ∧ H e = some (.lst (((List.range n).map fun i => gapsG n (ts ++ holdT r d x) i n).map V.int)) ∧ H l = some (.lst (((List.range n).map fun i => - gapsG n (ts ++ holdT r d x) n i).map V.int))
theorem SpreadAt.mono {n : Nat} {ts : List Tie} {r : List Int} {d : Int} {H H' : Hp} {v : V} {x : Int} (e : Same H H') (h : SpreadAt n ts r d H v x) : SpreadAt n ts r d H' v x := by
  obtain ⟨p, q, l, h1, h2, h3, h4⟩ := h
  exact ⟨p, q, l, h1, e _ _ h2, e _ _ h3, e _ _ h4⟩
def SpreadN (n : Nat) (ts : List Tie) (r : List Int) (d : Int) (D : Addr) (H : Hp) (v : V) (x : Int) : Prop := ∃ p e l : Addr, v = .ref p ∧ p ≠ D ∧ e ≠ D ∧ l ≠ D ∧ H p = some (.tup [.ref e, .ref l]) ∧ H e = some (.lst (((List.range n).map fun i => gapsG n (ts ++ holdT r d x) i n).map V.int)) ∧ H l = some (.lst (((List.range n).map fun i => - gapsG n (ts ++ holdT r d x) n i).map V.int))
theorem spreadN_mono {n : Nat} {ts : List Tie} {r : List Int} {d : Int} {D : Addr} {H H' : Hp} {vs : List V} {xs : List Int} (e : Same H H') (h : AllAt (SpreadN n ts r d D H) vs xs) : AllAt (SpreadN n ts r d D H') vs xs :=
  AllAt.imp (fun _ _ ⟨p, q, l, h1, n1, n2, n3, h2, h3, h4⟩ => ⟨p, q, l, h1, n1, n2, n3, e _ _ h2, e _ _ h3, e _ _ h4⟩) h
theorem spreadN_upd {n : Nat} {ts : List Tie} {r : List Int} {d : Int} {D : Addr} {H : Hp} {o : HO} {vs : List V} {xs : List Int} (h : AllAt (SpreadN n ts r d D H) vs xs) : AllAt (SpreadN n ts r d D (upd H D o)) vs xs :=
  AllAt.imp (fun _ _ ⟨p, q, l, h1, n1, n2, n3, h2, h3, h4⟩ => ⟨p, q, l, h1, n1, n2, n3, by rw [upd_ne n1]; exact h2, by rw [upd_ne n2]; exact h3, by rw [upd_ne n3]; exact h4⟩) h
theorem spreadN_at {n : Nat} {ts : List Tie} {r : List Int} {d : Int} {D : Addr} {H : Hp} {vs : List V} {xs : List Int} (h : AllAt (SpreadN n ts r d D H) vs xs) : AllAt (SpreadAt n ts r d H) vs xs :=
  AllAt.imp (fun _ _ ⟨p, q, l, h1, _, _, _, h2, h3, h4⟩ => ⟨p, q, l, h1, h2, h3, h4⟩) h
theorem range_at {n : Nat} {f : Nat → Int} {o : Int} (h0 : 0 ≤ o) (h1 : o < n) : atI (((List.range n).map f).map V.int) o = some (V.int (f o.toNat)) := at_ints_nat (i := o.toNat) (by omega) (by rw [List.getElem?_map, List.getElem?_range (by omega)]; rfl)
end LH
namespace LH
theorem holder_dayM {r ds : List Int} {d x : Int} (h : holderOf r ds d = x) (h0 : 0 ≤ x) : d < dayOf ds x := by
  unfold holderOf at h
  cases e : r.find? fun l => decide (d < dayOf ds l) with
  | none =>
    rw [e] at h
    have h : (-1 : Int) = x := h
    omega
  | some y =>
    rw [e] at h
    have h : y = x := h
    subst h
    have := List.find?_some e
    simpa using this
end LH
namespace LH
theorem endsB_iff {n : Nat} {ts : List Tie} {r : List Int} {d : Int} {q : Nat} : endsB n ts r d q = true ↔ Apart (winsOf n ts r d q) := by
  unfold endsB
  simp
end LH
namespace LH
open PySem PySem.Spec PyProof.Rows L2
theorem may_nodup {n : Nat} {ts : List Tie} {r : List Int} {d : Int} (hr : RowOk (n : Int) r) : (mayOf n ts r d).Nodup := by
  unfold mayOf
  refine List.Pairwise.filter _ ?_
  rw [← List.nodup_iff_pairwise_ne, List.nodup_append]
  refine ⟨hr.1.2.2, by simp, fun a ha b hb => ?_⟩
  rw [List.mem_singleton.mp hb]
  have := (hr.2 a ha).1
  omega
/-- each day of a window is one's -/
theorem win_day {n : Nat} {us : List Tie} (hok : ∀ t ∈ us, TieIx (n : Int) t) (c : Can n us) {i : Nat} (hi : i < n) {v : Int} (h1 : gapsG n us i n ≤ v) (h2 : v ≤ - gapsG n us n i) : ∃ ds, Way n us ds ∧ dayOf ds (i : Int) = v := by
  have ndi : nd n (i : Int) = i := by rw [nd_nat (by omega)]; omega
  have ndm : nd n (-1) = n := nd_neg (by decide)
  have hd := (can_iff hok).mp c
  have ix1 : TieIx (n : Int) ((i : Int), -1, v) := ⟨by show -1 ≤ (i : Int); omega, by show (i : Int) < n; omega, by show (-1 : Int) ≤ -1; omega, by show (-1 : Int) < n; omega, trivial⟩
  have ix2 : TieIx (n : Int) (-1, (i : Int), -v) := ⟨by show (-1 : Int) ≤ -1; omega, by show (-1 : Int) < n; omega, by show -1 ≤ (i : Int); omega, by show (i : Int) < n; omega, trivial⟩
  have c1 : Can n (us ++ [((i : Int), -1, v)]) := (can_one hok ix1 c).mpr (by
    show gapsG n us (nd n (-1)) (nd n (i : Int)) + v ≤ 0
    rw [ndi, ndm]
    omega)
  have ok1 : ∀ t ∈ us ++ [((i : Int), (-1 : Int), v)], TieIx (n : Int) t := app_ix hok fun t ht => by rw [List.mem_singleton.mp ht]; exact ix1
  have g1 := gaps_one hok ix1 c1 (Nat.le_of_lt hi) (Nat.le_refl n)
  have c2 : Can n (us ++ [((i : Int), (-1 : Int), v)] ++ [(-1, (i : Int), -v)]) := (can_one ok1 ix2 c1).mpr (by
    show gapsG n (us ++ [((i : Int), (-1 : Int), v)]) (nd n (i : Int)) (nd n (-1)) + -v ≤ 0
    rw [ndi, ndm, g1]
    unfold moreG
    show max (gapsG n us i n) (gapsG n us i (nd n (i : Int)) + (v + gapsG n us (nd n (-1)) n)) + -v ≤ 0
    rw [ndi, ndm, hd i (Nat.le_of_lt hi), hd n (Nat.le_refl n)]
    omega)
  obtain ⟨φ, f⟩ := c2
  obtain ⟨f1, f2⟩ := feas_app.mp f
  obtain ⟨f3, f4⟩ := feas_app.mp f1
  have w := f3.way hok
  refine ⟨_, w, ?_⟩
  have a1 := f4 _ (List.mem_singleton.mpr rfl)
  have a2 := f2 _ (List.mem_singleton.mpr rfl)
  have e : dayOf ((List.range n).map φ) (i : Int) = φ i := dayOf_get (by omega) (by rw [show ((i : Int)).toNat = i by omega, List.getElem?_map, List.getElem?_range hi]; rfl)
  rw [e]
  have a1 : v ≤ φ (nd n (i : Int)) - φ (nd n (-1)) := a1
  have a2 : -v ≤ φ (nd n (-1)) - φ (nd n (i : Int)) := a2
  rw [ndi, ndm, f.z] at a1 a2
  omega
theorem way_win {n : Nat} {us : List Tie} {ds : List Int} (hok : ∀ t ∈ us, TieIx (n : Int) t) (w : Way n us ds) {i : Nat} (hi : i < n) : gapsG n us i n ≤ dayOf ds (i : Int) ∧ dayOf ds (i : Int) ≤ - gapsG n us n i := by
  have f := w.feas hok
  have h1 := gap_le f (Nat.le_of_lt hi) (Nat.le_refl n)
  have h2 := gap_le f (Nat.le_refl n) (Nat.le_of_lt hi)
  have e : dayOf ds (i : Int) = wayF n ds i := by
    rw [dayOf_nd (n := n) (by omega), nd_nat (by omega)]
    congr 1
  rw [f.z] at h1 h2
  omega
/-- who ends the doubt, by ways -/
theorem ends_ways {n : Nat} {ts : List Tie} {r : List Int} {d : Int} (hok : ∀ t ∈ ts, TieIx (n : Int) t) (hr : RowOk (n : Int) r) (h0 : 0 < n) {i : Nat} (hi : i < n) :
    (∀ ds es, Way n ts ds → Way n ts es → dayOf ds (i : Int) = dayOf es (i : Int) → holderOf r ds d = holderOf r es d) ↔ Apart (winsOf n ts r d i) := by
  have wx : ∀ ds, Way n ts ds → holderOf r ds d ∈ mayOf n ts r d ∧ Way n (ts ++ holdT r d (holderOf r ds d)) ds := fun ds w => by
    have m := holder_mem r ds d
    refine ⟨mem_may.mpr ⟨m, (may_iff hok hr m h0).mpr ⟨ds, w, rfl⟩⟩, w.len, w.rg, fun t ht => (List.mem_append.mp ht).elim (w.kp t) ((hold_iff hr m).mpr rfl t)⟩
  have ixx : ∀ x, x ∈ mayOf n ts r d → ∀ t ∈ ts ++ holdT r d x, TieIx (n : Int) t := fun x hx => app_ix hok (holdT_ix hr.2 (mem_may.mp hx).1 (by omega))
  constructor
  · intro h
    unfold winsOf
    refine List.pairwise_map.mpr ((may_nodup hr).imp_of_mem fun {x y} hx hy ne => ?_)
    apply Classical.byContradiction
    intro no
    unfold Off at no
    dsimp only at no
    have lx := win_le (ixx x hx) (mem_may.mp hx).2 hi
    have ly := win_le (ixx y hy) (mem_may.mp hy).2 hi
    obtain ⟨ds, w1, e1⟩ := win_day (ixx x hx) (mem_may.mp hx).2 hi (v := max (gapsG n (ts ++ holdT r d x) i n) (gapsG n (ts ++ holdT r d y) i n)) (by omega) (by omega)
    obtain ⟨es, w2, e2⟩ := win_day (ixx y hy) (mem_may.mp hy).2 hi (v := max (gapsG n (ts ++ holdT r d x) i n) (gapsG n (ts ++ holdT r d y) i n)) (by omega) (by omega)
    have q := h ds es ⟨w1.len, w1.rg, fun t ht => w1.kp t (List.mem_append_left _ ht)⟩ ⟨w2.len, w2.rg, fun t ht => w2.kp t (List.mem_append_left _ ht)⟩ (by rw [e1, e2])
    rw [(hold_iff hr (mem_may.mp hx).1).mp fun t ht => w1.kp t (List.mem_append_right _ ht), (hold_iff hr (mem_may.mp hy).1).mp fun t ht => w2.kp t (List.mem_append_right _ ht)] at q
    exact ne q
  · intro h ds es w1 w2 e
    obtain ⟨m1, v1⟩ := wx ds w1
    obtain ⟨m2, v2⟩ := wx es w2
    apply Classical.byContradiction
    intro ne
    have a1 := way_win (ixx _ m1) v1 hi
    have a2 := way_win (ixx _ m2) v2 hi
    obtain ⟨j, hj, e1⟩ := List.mem_iff_getElem.mp m1
    obtain ⟨k, hk, e2⟩ := List.mem_iff_getElem.mp m2
    have p := List.pairwise_iff_getElem.mp h
    have wl : (winsOf n ts r d i).length = (mayOf n ts r d).length := List.length_map ..
    have wj : ∀ (q : Nat) (hq : q < (mayOf n ts r d).length), (winsOf n ts r d i)[q]'(by omega) = (gapsG n (ts ++ holdT r d (mayOf n ts r d)[q]) i n, - gapsG n (ts ++ holdT r d (mayOf n ts r d)[q]) n i) := fun q hq => by
      unfold winsOf
      rw [List.getElem_map]
    rcases Nat.lt_trichotomy j k with z | z | z
    · have q := p j k (by omega) (by omega) z
      rw [wj j hj, wj k hk, e1, e2] at q
      unfold Off at q
      dsimp only at q
      omega
    · subst z
      rw [e1] at e2
      exact ne e2
    · have q := p k j (by omega) (by omega) z
      rw [wj j hj, wj k hk, e1, e2] at q
      unfold Off at q
      dsimp only at q
      omega
theorem putK_len {κ : Type} [DecidableEq κ] (kvs : List (κ × V)) (k : κ) (v : V) : (putK kvs k v).length ≤ kvs.length + 1 := by
  unfold putK
  split
  · rw [List.length_map]
    omega
  · rw [List.length_append]
    exact Nat.le_refl _
end LH
namespace LH
open PySem PySem.Spec PyProof.Rows L2
open Classical in
noncomputable def dueA (n : Nat) (r : List Int) (d x : Int) (door : Int) : Str :=
  if ¬ RowOk (n : Int) r then "BadRow" else if ¬ DayOk d then "BadDay" else if door = 2 ∧ ¬ (x = -1 ∨ x ∈ r) then "NoLife" else ""
end LH

set_option Elab.async false
set_option linter.all false
set_option maxRecDepth 100000
set_option maxHeartbeats 4000000
/-! min of a list of triples of ints -/
namespace LH
open PySem PySem.Spec PyProof.Rows L2
/-- u stands before t -/
def BeforeT (u t : Tie) : Prop := u.1 < t.1 ∨ (u.1 = t.1 ∧ (u.2.1 < t.2.1 ∨ (u.2.1 = t.2.1 ∧ u.2.2 < t.2.2)))
def tupT (t : Tie) : PySem.W.Tup Int := ⟨[t.1, t.2.1, t.2.2]⟩
theorem tupT_inj {t u : Tie} (h : tupT t = tupT u) : t = u := by
  obtain ⟨a, b, c⟩ := t
  obtain ⟨a', b', c'⟩ := u
  unfold tupT at h
  injection h with h
  injection h with h1 h
  injection h with h2 h
  injection h with h3 h
  dsimp only at h1 h2 h3
  rw [h1, h2, h3]
theorem lt_tupT {u t : Tie} : PySem.W.DatumOrd.lt (tupT u) (tupT t) = true ↔ BeforeT u t := by
  show PySem.W.listLt [u.1, u.2.1, u.2.2] [t.1, t.2.1, t.2.2] = true ↔ _
  unfold BeforeT
  simp only [PySem.W.listLt]
  have e : ∀ a b : Int, PySem.W.DatumOrd.lt a b = decide (a < b) := fun _ _ => rfl
  split
  · split
    · split
      · simp; omega
      · rw [e]; simp; omega
    · rw [e]; simp; omega
  · rw [e]; simp; omega
theorem minOf_least : ∀ (ts : List Tie) (t : Tie), ∃ m, PySem.W.minOf (tupT t) (ts.map tupT) = tupT m ∧ m ∈ t :: ts ∧ ∀ u ∈ t :: ts, ¬ BeforeT u m
  | [], t => ⟨t, rfl, List.mem_cons_self, fun u hu => by rw [List.mem_singleton.mp hu]; unfold BeforeT; omega⟩
  | s :: ts, t => by
    have step : PySem.W.minOf (tupT t) ((s :: ts).map tupT) = PySem.W.minOf (if PySem.W.DatumOrd.lt (tupT s) (tupT t) = true then tupT s else tupT t) (ts.map tupT) := rfl
    by_cases c : BeforeT s t
    · rw [if_pos (lt_tupT.mpr c)] at step
      obtain ⟨m, h1, h2, h3⟩ := minOf_least ts s
      refine ⟨m, step.trans h1, List.mem_cons_of_mem _ h2, fun u hu => ?_⟩
      rcases List.mem_cons.mp hu with rfl | hu
      · have := h3 s List.mem_cons_self
        unfold BeforeT at *
        omega
      · exact h3 u hu
    · rw [if_neg (fun z => c (lt_tupT.mp z))] at step
      obtain ⟨m, h1, h2, h3⟩ := minOf_least ts t
      refine ⟨m, step.trans h1, ?_, fun u hu => ?_⟩
      · rcases List.mem_cons.mp h2 with z | z
        · exact List.mem_cons.mpr (.inl z)
        · exact List.mem_cons_of_mem _ (List.mem_cons_of_mem _ z)
      · rcases List.mem_cons.mp hu with rfl | hu
        · exact h3 u List.mem_cons_self
        · rcases List.mem_cons.mp hu with rfl | hu
          · have := h3 t List.mem_cons_self
            unfold BeforeT at *
            omega
          · exact h3 u (List.mem_cons_of_mem _ hu)
def rMinT (K : PySem.W.Frag) : List V → Hp → VK → Prop := fun vs H Q => ∃ (a : Addr) (xs : List V) (ts : List Tie), vs = [V.ref a] ∧ SqL K H a xs ∧ TiesAt H xs ts ∧ ts ≠ [] ∧
  ∀ v t, t ∈ ts → (∀ u ∈ ts, ¬ BeforeT u t) → TieAt H v t → Q v H
section
variable {X : Cx}
theorem holds_ties {pins : List (Addr × Obj)} {σ : L2.St} {H : Hp} {s : Shared} (I : Inv X pins σ H s) : ∀ {xs : List V} {ts : List Tie} {its : List Value}, TiesAt H xs ts → Vals xs its → PySem.W.HoldAll s.heap its (ts.map tupT)
  | [], [], _, _, r => by
    cases r
    exact PySem.W.HoldAll.nil
  | x :: xs, t :: ts, _, h, r => by
    cases r with
    | @cons _ u _ _ r1 r2 =>
      refine PySem.W.HoldAll.cons ?_ (holds_ties I h.2 r2)
      obtain ⟨p, rfl, hp⟩ := h.1
      obtain ⟨its2, rv2, hT, _⟩ := I.tuple (SqT.of hp)
      obtain rfl : u = Value.ref p := r1
      refine PySem.W.holds_tup hT ?_
      cases rv2 with
      | cons q1 q =>
        cases q with
        | cons q2 q =>
          cases q with
          | cons q3 q =>
            cases q
            obtain ⟨t1, rfl⟩ := q1
            obtain ⟨t2, rfl⟩ := q2
            obtain ⟨t3, rfl⟩ := q3
            exact PySem.W.HoldAll.cons (PySem.W.holds_int _ _) (PySem.W.HoldAll.cons (PySem.W.holds_int _ _) (PySem.W.HoldAll.cons (PySem.W.holds_int _ _) PySem.W.HoldAll.nil))
theorem holds_unique {α : Type} [DecidableEq α] [PySem.W.Datum α] {h : Heap} {v : Value} {x y : α} (h1 : PySem.W.Holds h v x) (h2 : PySem.W.Holds h v y) : x = y := by
  obtain ⟨as, r1⟩ := h1
  obtain ⟨bs, r2⟩ := h2
  have e := PySem.SeqAt.plain_unique _ _ _ _ _ (PySem.W.Datum.plain x) r1 r2
  have a := PySem.W.Datum.eqv x x
  rw [decide_eq_true rfl] at a
  have b := PySem.W.Datum.eqv x y
  rw [← e, a] at b
  exact of_decide_eq_true b.symm
theorem cr_minT (hc : X.calm = true) (hu : X.A.units + 64 < cLine) : CallR X (.builtin "min") (rMinT X.K) := by
  intro pins s σ H vs us Q I r h
  obtain ⟨a, xs, ts, rfl, hs, hT, hne, q⟩ := h
  obtain ⟨its, rv, hl, _⟩ := I.list hs
  rw [Vals.ref1 r]
  have HA := holds_ties I hT rv
  cases ts with
  | nil => exact absurd rfl hne
  | cons t ts =>
    rw [List.map_cons] at HA
    obtain ⟨m, e, hm, hl2⟩ := minOf_least ts t
    refine PySem.W.min_list_datum (I.ok.hd hc) hl.isList HA (by show X.A.units + 1 + (0 + 1) < cLine; omega) fun i v h' tk hi hh hk => ?_
    have hi2 : its[i]? = some v := by simpa using hi
    obtain ⟨y, hy, hv⟩ := PySem.W.HoldAll.at HA hi2
    have e2 := holds_unique (PySem.W.Holds.keeps hk hv) hh
    rw [← List.map_cons, List.getElem?_map] at hy
    obtain ⟨z, hz, ez⟩ := Option.map_eq_some_iff.mp hy
    have e3 : z = m := tupT_inj (ez.trans (e2.trans e))
    obtain ⟨x, hx, hxt⟩ := hT.get' hz
    have rx : RelV x v := by
      obtain ⟨u, hu2, ru⟩ := Vals.get rv hx
      rw [hi2] at hu2
      rw [Option.some.inj hu2]
      exact ru
    subst e3
    exact ⟨x, H, I.kept hk, rx, q x z hm hl2 hxt⟩
end
end LH
namespace LH
open PySem PySem.Spec PyProof.Rows L2
theorem minT {X : Cx} (K : PySem.W.Frag) (hc : X.calm = true) (hu : X.A.units + 64 < cLine) (h : X.K = K := by rfl) : CallR X (.builtin "min") (rMinT K) := by subst h; exact cr_minT hc hu
end LH

set_option Elab.async false
set_option linter.all false
set_option maxRecDepth 100000
set_option maxHeartbeats 4000000
/-! on how many days a life holds: margins, fewest, most -/
namespace LH
def aheadOf (r : List Int) (x : Int) : List Int := r.take (r.idxOf x)
def firstsOf (es : List Int) (s : Int) : List (Int × Int) := (-1, s) :: es.map fun e => (e, 0)
def lastsOf (x b : Int) : List (Int × Int) := [(x, 0), (-1, b)]
def marT (es : List Int) (x s b : Int) : List Tie := (lastsOf x b).flatMap fun l => (firstsOf es s).map fun f => (l.1, f.1, l.2 - f.2)
def cntOf (r ds : List Int) (x s b : Int) : Int := (((turnsOf r ds s b).filter fun t => decide (t.1 = x)).map fun t => t.2.2 - t.2.1).sum
def marOf (ds : List Int) (t : Tie) : Int := dayOf ds t.1 - dayOf ds t.2.1 + t.2.2
theorem mem_mar {es : List Int} {x s b : Int} {t : Tie} : t ∈ marT es x s b ↔ ∃ l ∈ lastsOf x b, ∃ f ∈ firstsOf es s, t = (l.1, f.1, l.2 - f.2) := by
  unfold marT
  rw [List.mem_flatMap]
  constructor
  · rintro ⟨l, hl, ht⟩
    obtain ⟨f, hf, e⟩ := List.mem_map.mp ht
    exact ⟨l, hl, f, hf, e.symm⟩
  · rintro ⟨l, hl, f, hf, e⟩
    exact ⟨l, hl, List.mem_map.mpr ⟨f, hf, e.symm⟩⟩
theorem mem_lasts {x b : Int} {l : Int × Int} : l ∈ lastsOf x b ↔ l = (x, 0) ∨ l = (-1, b) := by
  unfold lastsOf
  simp
theorem mem_firsts {es : List Int} {s : Int} {f : Int × Int} : f ∈ firstsOf es s ↔ f = (-1, s) ∨ ∃ e ∈ es, f = (e, 0) := by
  unfold firstsOf
  rw [List.mem_cons, List.mem_map]
  constructor
  · rintro (h | ⟨e, he, h⟩)
    · exact .inl h
    · exact .inr ⟨e, he, h.symm⟩
  · rintro (h | ⟨e, he, h⟩)
    · exact .inl h
    · exact .inr ⟨e, he, h.symm⟩
theorem mar_ne {es : List Int} {x s b : Int} : marT es x s b ≠ [] := by
  intro z
  have : ((x, -1, 0 - s) : Tie) ∈ marT es x s b := mem_mar.mpr ⟨(x, 0), mem_lasts.mpr (.inl rfl), (-1, s), mem_firsts.mpr (.inl rfl), rfl⟩
  rw [z] at this
  cases this
theorem mar_len {es : List Int} {x s b : Int} : (marT es x s b).length = 2 * (es.length + 1) := by
  unfold marT lastsOf firstsOf
  simp
  omega
theorem mar_ix {n : Nat} {es : List Int} {x s b : Int} (hx : 0 ≤ x ∧ x < n) (he : ∀ e ∈ es, 0 ≤ e ∧ e < (n : Int)) : ∀ t ∈ marT es x s b, TieIx (n : Int) t := by
  intro t ht
  obtain ⟨l, hl, f, hf, rfl⟩ := mem_mar.mp ht
  have h1 : -1 ≤ l.1 ∧ l.1 < (n : Int) := by
    rcases mem_lasts.mp hl with rfl | rfl
    · exact ⟨by show -1 ≤ x; omega, hx.2⟩
    · exact ⟨by show (-1 : Int) ≤ -1; omega, by show (-1 : Int) < n; omega⟩
  have h2 : -1 ≤ f.1 ∧ f.1 < (n : Int) := by
    rcases mem_firsts.mp hf with rfl | ⟨e, h, rfl⟩
    · exact ⟨by show (-1 : Int) ≤ -1; omega, by show (-1 : Int) < n; omega⟩
    · have := he e h
      exact ⟨by show -1 ≤ e; omega, this.2⟩
  exact ⟨h1.1, h1.2, h2.1, h2.2, trivial⟩
/-! the count in one way -/
theorem fold_no {ds : List Int} {b x : Int} : ∀ (l : List Int) (st : List (Int × Int × Int) × Int), x ∉ l → ((l.foldl (stepT ds b) st).1.filter fun t => decide (t.1 = x)) = st.1.filter fun t => decide (t.1 = x)
  | [], _, _ => rfl
  | y :: l, st, h => by
    rw [List.foldl_cons, fold_no l _ fun z => h (List.mem_cons_of_mem _ z)]
    unfold stepT
    split
    · show (st.1 ++ [_]).filter _ = _
      rw [List.filter_append, List.filter_cons_of_neg (by
        simp only [decide_eq_true_eq]
        intro z
        exact h (by rw [← z]; exact List.mem_cons_self))]
      simp
    · rfl
theorem ahead_split {r : List Int} {x : Int} (hx : x ∈ r) (nd : r.Nodup) : ∃ q, r = aheadOf r x ++ x :: q ∧ x ∉ aheadOf r x ∧ x ∉ q := by
  have hl := List.idxOf_lt_length_iff.mpr hx
  refine ⟨r.drop (r.idxOf x + 1), ?_, ?_, ?_⟩
  · have e : r.drop (r.idxOf x) = x :: r.drop (r.idxOf x + 1) := by
      rw [List.drop_eq_getElem_cons hl, List.getElem_idxOf hl]
    unfold aheadOf
    rw [← e, List.take_append_drop]
  all_goals
    have e : r.drop (r.idxOf x) = x :: r.drop (r.idxOf x + 1) := by
      rw [List.drop_eq_getElem_cons hl, List.getElem_idxOf hl]
    rw [show r = r.take (r.idxOf x) ++ (x :: r.drop (r.idxOf x + 1)) by rw [← e, List.take_append_drop]] at nd
    have nd := List.nodup_append.mp nd
  · intro z
    exact nd.2.2 x z x List.mem_cons_self rfl
  · intro z
    exact (List.nodup_cons.mp nd.2.1).1 z
theorem cnt_eq {r ds : List Int} {x s b : Int} (hx : x ∈ r) (nd : r.Nodup) : cntOf r ds x s b = max 0 (min (dayOf ds x) b - (turnsS (aheadOf r x) ds s b).2) := by
  obtain ⟨q, e, h1, h2⟩ := ahead_split hx nd
  have f0 : ((turnsS (aheadOf r x) ds s b).1.filter fun t => decide (t.1 = x)) = [] := fold_no _ _ h1
  unfold cntOf turnsOf
  have e2 : turnsS r ds s b = q.foldl (stepT ds b) (stepT ds b (turnsS (aheadOf r x) ds s b) x) := by
    unfold turnsS
    conv => lhs; rw [e]
    rw [List.foldl_append, List.foldl_cons]
  rw [e2, fold_no _ _ h2]
  generalize turnsS (aheadOf r x) ds s b = st at *
  unfold stepT
  split
  · rename_i c
    show ((List.filter _ (st.1 ++ [_])).map _).sum = _
    rw [List.filter_append, f0, List.filter_cons_of_pos (by simp)]
    simp
    omega
  · rename_i c
    rw [f0]
    show (0 : Int) = _
    omega
theorem here_is {ds : List Int} {s b : Int} (l : List Int) : (turnsS l ds s b).2 = s ∨ ∃ e ∈ l, (turnsS l ds s b).2 = min (dayOf ds e) b := by
  refine snoc_ind (P := fun l => (turnsS l ds s b).2 = s ∨ ∃ e ∈ l, (turnsS l ds s b).2 = min (dayOf ds e) b) (.inl rfl) (fun l x ih => ?_) l
  rw [turnsS_snoc]
  unfold stepT
  split
  · exact .inr ⟨x, List.mem_append_right _ (List.mem_singleton.mpr rfl), rfl⟩
  · rcases ih with h | ⟨e, he, h⟩
    · exact .inl h
    · exact .inr ⟨e, List.mem_append_left _ he, h⟩
theorem day_m1 (ds : List Int) : dayOf ds (-1) = 0 := dayOf_neg (by omega)
theorem cnt_le {r ds : List Int} {x s b : Int} (hx : x ∈ r) (nd : r.Nodup) {t : Tie} (ht : t ∈ marT (aheadOf r x) x s b) : cntOf r ds x s b ≤ max 0 (marOf ds t) := by
  rw [cnt_eq hx nd]
  obtain ⟨l, hl, f, hf, rfl⟩ := mem_mar.mp ht
  have g := turnsS_ge ds s b (aheadOf r x)
  have sn := turns_seen (ds := ds) (s := s) (b := b) (aheadOf r x)
  generalize (turnsS (aheadOf r x) ds s b).2 = T at *
  unfold marOf
  show _ ≤ max 0 (dayOf ds l.1 - dayOf ds f.1 + (l.2 - f.2))
  have hl2 : min (dayOf ds x) b ≤ dayOf ds l.1 + l.2 := by
    rcases mem_lasts.mp hl with rfl | rfl
    · show _ ≤ dayOf ds x + 0
      omega
    · show _ ≤ dayOf ds (-1) + b
      rw [day_m1]
      omega
  by_cases c : T < b
  · have hf2 : dayOf ds f.1 + f.2 ≤ T := by
      rcases mem_firsts.mp hf with rfl | ⟨e, he, rfl⟩
      · show dayOf ds (-1) + s ≤ T
        rw [day_m1]
        omega
      · have := sn e he
        show dayOf ds e + 0 ≤ T
        omega
    omega
  · omega
theorem cnt_ge {r ds : List Int} {x s b c : Int} (hx : x ∈ r) (nd : r.Nodup) (h : ∀ t ∈ marT (aheadOf r x) x s b, c ≤ marOf ds t) : c ≤ cntOf r ds x s b := by
  rw [cnt_eq hx nd]
  have hh := here_is (ds := ds) (s := s) (b := b) (aheadOf r x)
  generalize (turnsS (aheadOf r x) ds s b).2 = T at *
  have key : ∀ f ∈ firstsOf (aheadOf r x) s, c ≤ min (dayOf ds x) b - (dayOf ds f.1 + f.2) := fun f hf => by
    have h1 := h _ (mem_mar.mpr ⟨(x, 0), mem_lasts.mpr (.inl rfl), f, hf, rfl⟩)
    have h2 := h _ (mem_mar.mpr ⟨(-1, b), mem_lasts.mpr (.inr rfl), f, hf, rfl⟩)
    unfold marOf at h1 h2
    have h1 : c ≤ dayOf ds x - dayOf ds f.1 + (0 - f.2) := h1
    have h2 : c ≤ dayOf ds (-1) - dayOf ds f.1 + (b - f.2) := h2
    rw [day_m1] at h2
    omega
  rcases hh with h0 | ⟨e, he, h0⟩
  · have := key (-1, s) (mem_firsts.mpr (.inl rfl))
    have this : c ≤ min (dayOf ds x) b - (dayOf ds (-1) + s) := this
    rw [day_m1] at this
    omega
  · have := key (e, 0) (mem_firsts.mpr (.inr ⟨e, he, rfl⟩))
    have this : c ≤ min (dayOf ds x) b - (dayOf ds e + 0) := this
    omega
theorem cnt_nn (r ds : List Int) (x s b : Int) (hx : x ∈ r) (nd : r.Nodup) : 0 ≤ cntOf r ds x s b := by
  rw [cnt_eq hx nd]
  omega
/-! of all ways -/
theorem mar_feas {n : Nat} {ds : List Int} {t : Tie} (ix : TieIx (n : Int) t) : marOf ds t = wayF n ds (nd n t.1) - wayF n ds (nd n t.2.1) + t.2.2 := by
  unfold marOf
  rw [dayOf_nd (n := n) ix.2.1, dayOf_nd (n := n) ix.2.2.2.1]
theorem mar_low {n : Nat} {ts : List Tie} {ds : List Int} {t : Tie} (hok : ∀ t ∈ ts, TieIx (n : Int) t) (w : Way n ts ds) (ix : TieIx (n : Int) t) : gapsG n ts (nd n t.1) (nd n t.2.1) + t.2.2 ≤ marOf ds t := by
  rw [mar_feas ix]
  have := gap_le (w.feas hok) (nd_le (n := n) ix.2.1) (nd_le (n := n) ix.2.2.2.1)
  omega
theorem mar_high {n : Nat} {ts : List Tie} {ds : List Int} {t : Tie} (hok : ∀ t ∈ ts, TieIx (n : Int) t) (w : Way n ts ds) (ix : TieIx (n : Int) t) : marOf ds t ≤ t.2.2 - gapsG n ts (nd n t.2.1) (nd n t.1) := by
  rw [mar_feas ix]
  have := gap_le (w.feas hok) (nd_le (n := n) ix.2.2.2.1) (nd_le (n := n) ix.2.1)
  omega
/-- as many days, in each margin -/
def holdC (us : List Tie) (c : Int) : List Tie := us.map fun t => (t.1, t.2.1, c - t.2.2)
theorem holdC_ix {m : Int} {us : List Tie} {c : Int} (h : ∀ t ∈ us, TieIx m t) : ∀ t ∈ holdC us c, TieIx m t := by
  intro t ht
  obtain ⟨u, hu, rfl⟩ := List.mem_map.mp ht
  exact h u hu
theorem holdC_way {n : Nat} {ts us : List Tie} {c : Int} {ds : List Int} (w : Way n (ts ++ holdC us c) ds) : Way n ts ds ∧ ∀ t ∈ us, c ≤ marOf ds t := by
  refine ⟨⟨w.len, w.rg, fun t ht => w.kp t (List.mem_append_left _ ht)⟩, fun t ht => ?_⟩
  have := w.kp (t.1, t.2.1, c - t.2.2) (List.mem_append_right _ (List.mem_map.mpr ⟨t, ht, rfl⟩))
  unfold KeptW at this
  unfold marOf
  have this : c - t.2.2 ≤ dayOf ds t.1 - dayOf ds t.2.1 := this
  omega
theorem way_holdC {n : Nat} {ts us : List Tie} {c : Int} {ds : List Int} (w : Way n ts ds) (h : ∀ t ∈ us, c ≤ marOf ds t) : Way n (ts ++ holdC us c) ds := by
  refine ⟨w.len, w.rg, fun t ht => ?_⟩
  rcases List.mem_append.mp ht with ht | ht
  · exact w.kp t ht
  · obtain ⟨u, hu, rfl⟩ := List.mem_map.mp ht
    have := h u hu
    unfold marOf at this
    unfold KeptW
    show c - u.2.2 ≤ dayOf ds u.1 - dayOf ds u.2.1
    omega
theorem ex_max {α : Type} (f : α → Int) : ∀ (l : List α), l ≠ [] → ∃ x ∈ l, ∀ y ∈ l, f y ≤ f x
  | [], h => absurd rfl h
  | [x], _ => ⟨x, List.mem_cons_self, fun y hy => by rw [List.mem_singleton.mp hy]; exact Int.le_refl _⟩
  | x :: y :: l, _ => by
    obtain ⟨z, hz, h⟩ := ex_max f (y :: l) (by simp)
    by_cases c : f z ≤ f x
    · refine ⟨x, List.mem_cons_self, fun u hu => ?_⟩
      rcases List.mem_cons.mp hu with rfl | hu
      · exact Int.le_refl _
      · exact Int.le_trans (h u hu) c
    · refine ⟨z, List.mem_cons_of_mem _ hz, fun u hu => ?_⟩
      rcases List.mem_cons.mp hu with rfl | hu
      · omega
      · exact h u hu
/-- each margin alone, and so all at once -/
theorem can_mar {n : Nat} {ts : List Tie} {es : List Int} {x s b c : Int} (hok : ∀ t ∈ ts, TieIx (n : Int) t) (can : Can n ts) (hx : 0 ≤ x ∧ x < n) (he : ∀ e ∈ es, 0 ≤ e ∧ e < (n : Int))
    (h : ∀ t ∈ marT es x s b, c ≤ t.2.2 - gapsG n ts (nd n t.2.1) (nd n t.1)) : Can n (ts ++ holdC (marT es x s b) c) := by
  have hd := (can_iff hok).mp can
  have close := fun (a b c : Nat) (hb : b ≤ n) => gap_close (n := n) (ts := ts) hd hb a c
  have nx := nd_le (n := n) hx.2
  have nn : nd n (-1) = n := nd_neg (by omega)
  have dn := hd n (Nat.le_refl n)
  obtain ⟨f0, hf0, hm⟩ := ex_max (fun f : Int × Int => f.2 + gapsG n ts (nd n f.1) n) (firstsOf es s) (by unfold firstsOf; simp)
  have nf : ∀ f ∈ firstsOf es s, nd n f.1 ≤ n := fun f hf => by
    rcases mem_firsts.mp hf with rfl | ⟨e, h, rfl⟩
    · exact nd_le (by show (-1 : Int) < n; omega)
    · exact nd_le (he e h).2
  have hX : ∀ f ∈ firstsOf es s, c ≤ 0 - f.2 - gapsG n ts (nd n f.1) (nd n x) := fun f hf => h _ (mem_mar.mpr ⟨(x, 0), mem_lasts.mpr (.inl rfl), f, hf, rfl⟩)
  have hB : ∀ f ∈ firstsOf es s, c ≤ b - f.2 - gapsG n ts (nd n f.1) n := fun f hf => by
    have := h _ (mem_mar.mpr ⟨(-1, b), mem_lasts.mpr (.inr rfl), f, hf, rfl⟩)
    have this : c ≤ b - f.2 - gapsG n ts (nd n f.1) (nd n (-1)) := this
    rw [nn] at this
    exact this
  have a1 := hX f0 hf0
  have a2 := hB f0 hf0
  have a3 := close (nd n f0.1) n (nd n x) (Nat.le_refl n)
  obtain ⟨T, eT⟩ : ∃ T, T = f0.2 + gapsG n ts (nd n f0.1) n := ⟨_, rfl⟩
  have hm : ∀ f ∈ firstsOf es s, f.2 + gapsG n ts (nd n f.1) n ≤ T := fun f hf => by rw [eT]; exact hm f hf
  have b1 : gapsG n ts n (nd n x) + c + T ≤ 0 := by omega
  have b2 : c - b + T ≤ 0 := by omega
  obtain ⟨φ, ef⟩ : ∃ φ : Nat → Int, ∀ i, φ i = max (gapsG n ts i n) (max (gapsG n ts i (nd n x) + c + T) (gapsG n ts i n + c - b + T)) := ⟨_, fun _ => rfl⟩
  have z : φ n = 0 := by
    rw [ef]
    omega
  refine ⟨φ, feas_app.mpr ⟨⟨z, fun a ha => ?_, fun a ha => ?_, fun u hu => ?_⟩, fun u hu => ?_⟩⟩
  · have := gap_lo (n := n) (ts := ts) a
    rw [ef]
    omega
  · have h1 := close n a n (Nat.le_of_lt ha)
    have h2 := close n a (nd n x) (Nat.le_of_lt ha)
    have h3 := gap_hi (n := n) (ts := ts) n a
    rw [ef]
    omega
  · have ok := hok u hu
    have h0 := gap_tie (n := n) hu
    have h1 := close (nd n u.1) (nd n u.2.1) n (nd_le ok.2.2.2.1)
    have h2 := close (nd n u.1) (nd n u.2.1) (nd n x) (nd_le ok.2.2.2.1)
    rw [ef, ef]
    omega
  · obtain ⟨t, ht, rfl⟩ := List.mem_map.mp hu
    obtain ⟨l, hl, f, hf, rfl⟩ := mem_mar.mp ht
    have c1 := hX f hf
    have c2 := hB f hf
    have c3 := hm f hf
    show c - (l.2 - f.2) ≤ φ (nd n l.1) - φ (nd n f.1)
    have k1 : φ (nd n f.1) ≤ T - f.2 := by
      rw [ef]
      omega
    have k2 : T + c - l.2 ≤ φ (nd n l.1) := by
      rcases mem_lasts.mp hl with rfl | rfl
      · show T + c - 0 ≤ φ (nd n x)
        have := hd _ nx
        rw [ef]
        omega
      · show T + c - b ≤ φ (nd n (-1))
        rw [nn, ef]
        omega
    omega
def IsFew (n : Nat) (ts : List Tie) (r : List Int) (x s b k : Int) : Prop := (∃ ds, Way n ts ds ∧ cntOf r ds x s b = k) ∧ ∀ ds, Way n ts ds → k ≤ cntOf r ds x s b
def IsMost (n : Nat) (ts : List Tie) (r : List Int) (x s b k : Int) : Prop := (∃ ds, Way n ts ds ∧ cntOf r ds x s b = k) ∧ ∀ ds, Way n ts ds → cntOf r ds x s b ≤ k
theorem ahead_ok {n : Nat} {r : List Int} {x : Int} (hr : RowOk (n : Int) r) : ∀ e ∈ aheadOf r x, 0 ≤ e ∧ e < (n : Int) := fun e he => hr.2 e (List.mem_of_mem_take he)
theorem fewst_all {n : Nat} {ts : List Tie} {r : List Int} {x s b v : Int} (hok : ∀ t ∈ ts, TieIx (n : Int) t) (hr : RowOk (n : Int) r) (hx : x ∈ r)
    (hv : ∀ t ∈ marT (aheadOf r x) x s b, v ≤ gapsG n ts (nd n t.1) (nd n t.2.1) + t.2.2) : ∀ ds, Way n ts ds → max 0 v ≤ cntOf r ds x s b := by
  intro ds w
  have h1 := cnt_nn r ds x s b hx hr.1.2.2
  have h2 := cnt_ge (ds := ds) (s := s) (b := b) (c := v) hx hr.1.2.2 fun t ht => Int.le_trans (hv t ht) (mar_low hok w (mar_ix (hr.2 x hx) (ahead_ok hr) t ht))
  omega
theorem fewst_can {n : Nat} {ts : List Tie} (hok : ∀ t ∈ ts, TieIx (n : Int) t) (can : Can n ts) {t : Tie} (ix : TieIx (n : Int) t) : Can n (ts ++ [(t.2.1, t.1, - gapsG n ts (nd n t.1) (nd n t.2.1))]) := by
  refine (can_one (t := (t.2.1, t.1, - gapsG n ts (nd n t.1) (nd n t.2.1))) hok ⟨ix.2.2.1, ix.2.2.2.1, ix.1, ix.2.1, trivial⟩ can).mpr ?_
  show gapsG n ts (nd n t.1) (nd n t.2.1) + - gapsG n ts (nd n t.1) (nd n t.2.1) ≤ 0
  omega
theorem fewst_way {n : Nat} {ts : List Tie} {r : List Int} {x s b : Int} {t : Tie} (hok : ∀ t ∈ ts, TieIx (n : Int) t) (hr : RowOk (n : Int) r) (hx : x ∈ r) (ht : t ∈ marT (aheadOf r x) x s b)
    {ds : List Int} (w : Way n (ts ++ [(t.2.1, t.1, - gapsG n ts (nd n t.1) (nd n t.2.1))]) ds) : Way n ts ds ∧ cntOf r ds x s b ≤ max 0 (gapsG n ts (nd n t.1) (nd n t.2.1) + t.2.2) := by
  have w0 : Way n ts ds := ⟨w.len, w.rg, fun u hu => w.kp u (List.mem_append_left _ hu)⟩
  refine ⟨w0, ?_⟩
  have k := w.kp _ (List.mem_append_right _ (List.mem_singleton.mpr rfl))
  unfold KeptW at k
  have k : - gapsG n ts (nd n t.1) (nd n t.2.1) ≤ dayOf ds t.2.1 - dayOf ds t.1 := k
  have := cnt_le (ds := ds) hx hr.1.2.2 ht
  unfold marOf at this
  omega
theorem mostw_all {n : Nat} {ts : List Tie} {r : List Int} {x s b : Int} {t : Tie} (hok : ∀ t ∈ ts, TieIx (n : Int) t) (hr : RowOk (n : Int) r) (hx : x ∈ r) (ht : t ∈ marT (aheadOf r x) x s b) :
    ∀ ds, Way n ts ds → cntOf r ds x s b ≤ max 0 (t.2.2 - gapsG n ts (nd n t.2.1) (nd n t.1)) := by
  intro ds w
  have h1 := cnt_le (ds := ds) hx hr.1.2.2 ht
  have h2 := mar_high hok w (mar_ix (hr.2 x hx) (ahead_ok hr) t ht)
  omega
theorem mostw_can {n : Nat} {ts : List Tie} {r : List Int} {x s b v : Int} (hok : ∀ t ∈ ts, TieIx (n : Int) t) (can : Can n ts) (hr : RowOk (n : Int) r) (hx : x ∈ r)
    (hv : ∀ t ∈ marT (aheadOf r x) x s b, v ≤ t.2.2 - gapsG n ts (nd n t.2.1) (nd n t.1)) : Can n (ts ++ holdC (marT (aheadOf r x) x s b) v) := can_mar hok can (hr.2 x hx) (ahead_ok hr) hv
theorem mostw_way {n : Nat} {ts : List Tie} {r : List Int} {x s b v : Int} (hr : RowOk (n : Int) r) (hx : x ∈ r) {ds : List Int} (w : Way n (ts ++ holdC (marT (aheadOf r x) x s b) v) ds) : Way n ts ds ∧ v ≤ cntOf r ds x s b :=
  let z := holdC_way w
  ⟨z.1, cnt_ge hx hr.1.2.2 z.2⟩
theorem can_way {n : Nat} {ts : List Tie} (hok : ∀ t ∈ ts, TieIx (n : Int) t) (c : Can n ts) : Way n ts ((List.range n).map fun i => gapsG n ts i n) := (feas_least hok ((can_iff hok).mp c)).way hok
end LH
namespace LH
open PySem PySem.Spec PyProof.Rows L2
/-- a walk over a list, within a comprehension of two fors -/
theorem walk_in {K : PySem.W.Frag} {a : Addr} {xs : List V} {B : V → Hp → (Hp → Prop) → Prop} {H0 : Hp} {Qd : Hp → Prop} (Pv : Nat → Hp → Prop) (h0 : Pv 0 H0) (hl : ∀ i H, i ≤ xs.length → Pv i H → SqL K H a xs)
    (hs : ∀ i x H, xs[i]? = some x → Pv i H → B x H (Pv (i + 1))) (hd : ∀ H, Pv xs.length H → Qd H) :
    ∃ W : Nat → Nat → Hp → Prop, (∃ m, W 0 m H0) ∧ ∀ i m H, W i m H → ((Itl K a).stop i H ∧ Qd H) ∨ ((Itl K a).go i H ∧ ∃ Nx : Hp → Prop, (∀ H', Nx H' → ∃ m', m' < m ∧ W (i + 1) m' H') ∧ ∀ x H', (Itl K a).yld i H x H' → B x H' Nx) := by
  refine ⟨fun i m H => m = xs.length - i ∧ i ≤ xs.length ∧ Pv i H, ⟨xs.length, by simp, Nat.zero_le _, h0⟩, ?_⟩
  rintro i m H ⟨rfl, hi, p⟩
  have q := hl i H hi p
  by_cases hlt : i < xs.length
  · refine .inr ⟨⟨xs, xs[i], q, by simp [hlt]⟩, Pv (i + 1), fun H' p' => ⟨xs.length - (i + 1), by omega, rfl, hlt, p'⟩, fun x H' y => ?_⟩
    obtain ⟨e, y⟩ := y
    subst e
    exact hs i x _ (y xs q) p
  · obtain rfl : i = xs.length := by omega
    exact .inl ⟨⟨xs, q, by simp⟩, hd H p⟩
end LH
namespace LH
open PySem PySem.Spec PyProof.Rows L2
/-- what is asked of a life's days: G where all is well, else the errors in their order -/
def AskW (K : PySem.W.Frag) (H : Hp) (E : XK) (m : Int) (ts : List Tie) (r : List Int) (x s : Int) (o : Option Int) (G : Prop) : Prop :=
  Ways (CountOk m) (Ways (TiesOk m ts) (Ways (Can m.toNat ts) (Ways (RowOk m r) (Ways (RunOk s o) (Ways (x ∈ r) G
    (∀ H', Same H H' → E (.ref (He.ga K "NoLife")) none H')) (∀ H', Same H H' → E (.ref (He.ga K "BadDay")) none H')) (∀ H', Same H H' → E (.ref (He.ga K "BadRow")) none H'))
    (∀ H', Same H H' → E (.ref (He.ga K "CantBe")) none H')) (E (.ref (He.ga K "BadTie")) none H)) (E (.ref (He.ga K "BadCount")) none H)
theorem AskW.imp {K : PySem.W.Frag} {H : Hp} {E : XK} {m : Int} {ts : List Tie} {r : List Int} {x s : Int} {o : Option Int} {G G' : Prop} (h : AskW K H E m ts r x s o G) (f : CountOk m → TiesOk m ts → Can m.toNat ts → RowOk m r → RunOk s o → x ∈ r → G → G') : AskW K H E m ts r x s o G' :=
  .or (fun a => .or (fun b => .or (fun c => .or (fun d => .or (fun e => .or (fun g => f a b c d e g ((((((h.1 a).1 b).1 c).1 d).1 e).1 g)) (((((h.1 a).1 b).1 c).1 d).1 e).2) ((((h.1 a).1 b).1 c).1 d).2) (((h.1 a).1 b).1 c).2) ((h.1 a).1 b).2) (h.1 a).2) h.2
theorem AskW.good {K : PySem.W.Frag} {H : Hp} {E : XK} {m : Int} {ts : List Tie} {r : List Int} {x s : Int} {o : Option Int} {G : Prop} (a : CountOk m) (b : TiesOk m ts) (c : Can m.toNat ts) (d : RowOk m r) (e : RunOk s o) (g : x ∈ r) (h : G) : AskW K H E m ts r x s o G :=
  .or (fun _ => .or (fun _ => .or (fun _ => .or (fun _ => .or (fun _ => .or (fun _ => h) fun z => absurd g z) fun z => absurd e z) fun z => absurd d z) fun z => absurd c z) fun z => absurd b z) fun z => absurd a z
end LH
namespace LH
theorem isMost_of {n : Nat} {ts : List Tie} {r : List Int} {x s b : Int} {t : Tie} (hok : ∀ t ∈ ts, TieIx (n : Int) t) (can : Can n ts) (hr : RowOk (n : Int) r) (hx : x ∈ r) (ht : t ∈ marT (aheadOf r x) x s b)
    (hv : ∀ u ∈ marT (aheadOf r x) x s b, t.2.2 - gapsG n ts (nd n t.2.1) (nd n t.1) ≤ u.2.2 - gapsG n ts (nd n u.2.1) (nd n u.1)) : IsMost n ts r x s b (max 0 (t.2.2 - gapsG n ts (nd n t.2.1) (nd n t.1))) := by
  have all := mostw_all (s := s) (b := b) hok hr hx ht
  refine ⟨?_, all⟩
  by_cases c : t.2.2 - gapsG n ts (nd n t.2.1) (nd n t.1) ≤ 0
  · have w := can_way hok can
    have h1 := all _ w
    have h2 := cnt_nn r ((List.range n).map fun i => gapsG n ts i n) x s b hx hr.1.2.2
    exact ⟨_, w, by omega⟩
  · have c2 := mostw_can hok can hr hx hv
    have w := can_way (app_ix hok (holdC_ix (mar_ix (hr.2 x hx) (ahead_ok hr)))) c2
    obtain ⟨w1, h1⟩ := mostw_way hr hx w
    have h2 := all _ w1
    exact ⟨_, w1, by omega⟩
theorem isFew_of {n : Nat} {ts : List Tie} {r : List Int} {x s b : Int} {t : Tie} (hok : ∀ t ∈ ts, TieIx (n : Int) t) (can : Can n ts) (hr : RowOk (n : Int) r) (hx : x ∈ r) (ht : t ∈ marT (aheadOf r x) x s b)
    (hv : ∀ u ∈ marT (aheadOf r x) x s b, gapsG n ts (nd n t.1) (nd n t.2.1) + t.2.2 ≤ gapsG n ts (nd n u.1) (nd n u.2.1) + u.2.2) {ds : List Int} (w : Way n (ts ++ [(t.2.1, t.1, - gapsG n ts (nd n t.1) (nd n t.2.1))]) ds) :
    Way n ts ds ∧ IsFew n ts r x s b (cntOf r ds x s b) ∧ cntOf r ds x s b = max 0 (gapsG n ts (nd n t.1) (nd n t.2.1) + t.2.2) := by
  have all := fewst_all (s := s) (b := b) hok hr hx hv
  obtain ⟨w1, h1⟩ := fewst_way hok hr hx ht w
  have h2 := all _ w1
  have e : cntOf r ds x s b = max 0 (gapsG n ts (nd n t.1) (nd n t.2.1) + t.2.2) := by omega
  exact ⟨w1, ⟨⟨_, w1, rfl⟩, fun es we => by rw [e]; exact all es we⟩, e⟩
theorem swap_ixH {m : Int} {t : Tie} {v : Int} (ix : TieIx m t) : TieIx m (t.2.1, t.1, v) := ⟨ix.2.2.1, ix.2.2.2.1, ix.1, ix.2.1, trivial⟩
end LH

set_option Elab.async false
set_option linter.all false
set_option maxRecDepth 100000
set_option maxHeartbeats 4000000
/-! days counted from the end -/
namespace LH
open PySem PySem.Spec PyProof.Rows L2
def turnT (t : Tie) : Tie := if 0 ≤ t.1 ∧ 0 ≤ t.2.1 then (t.2.1, t.1, t.2.2) else if 0 ≤ t.1 then (-1, t.1, t.2.2 - 9999) else (t.2.1, -1, 9999 + t.2.2)
def revF (n : Nat) (φ : Nat → Int) (i : Nat) : Int := if i = n then 0 else 9999 - φ i
theorem turn_ix {n : Nat} {t : Tie} (h : TieOk (n : Int) t) (h1 : 1 ≤ n) : TieIx (n : Int) (turnT t) := by
  obtain ⟨a, b, c, d, _⟩ := h
  unfold turnT
  split
  · exact ⟨c, d, a, b, trivial⟩
  · split
    · exact ⟨by show (-1 : Int) ≤ -1; decide, by show (-1 : Int) < n; omega, a, b, trivial⟩
    · exact ⟨c, d, by show (-1 : Int) ≤ -1; decide, by show (-1 : Int) < n; omega, trivial⟩
theorem rev_at {n : Nat} {φ : Nat → Int} {o : Int} (h2 : o < n) : revF n φ (nd n o) = if o < 0 then 0 else 9999 - φ o.toNat := by
  unfold revF nd
  by_cases h : o < 0
  · rw [if_pos h, if_pos rfl, if_pos h]
  · rw [if_neg h, if_neg (by omega), if_neg h]
theorem val_at {n : Nat} {φ : Nat → Int} {o : Int} (hz : φ n = 0) : φ (nd n o) = if o < 0 then 0 else φ o.toNat := by
  unfold nd
  by_cases h : o < 0
  · rw [if_pos h, if_pos h, hz]
  · rw [if_neg h, if_neg h]
theorem turn_ke {n : Nat} {t : Tie} {φ : Nat → Int} (ok : TieOk (n : Int) t) (hz : φ n = 0) : ((turnT t).2.2 ≤ φ (nd n (turnT t).1) - φ (nd n (turnT t).2.1)) ↔ t.2.2 ≤ revF n φ (nd n t.1) - revF n φ (nd n t.2.1) := by
  obtain ⟨a, b, c, d, e, _⟩ := ok
  rw [rev_at b, rev_at d, val_at hz, val_at hz]
  unfold turnT
  split
  · dsimp only
    rw [if_neg (by omega), if_neg (by omega), if_neg (by omega), if_neg (by omega)]
    omega
  · split
    · dsimp only
      rw [if_pos (by decide), if_neg (by omega), if_neg (by omega), if_pos (by omega)]
      omega
    · dsimp only
      rw [if_neg (by omega), if_pos (by decide), if_pos (by omega), if_neg (by omega)]
      omega
theorem feas_rev {n : Nat} {ts : List Tie} {ψ : Nat → Int} (hok : ∀ t ∈ ts, TieOk (n : Int) t) (f : Feas n (ts.map turnT) ψ) : Feas n ts (revF n ψ) := by
  refine ⟨if_pos rfl, fun i hi => ?_, fun i hi => ?_, fun t ht => (turn_ke (hok t ht) f.z).mp (f.ke _ (List.mem_map.mpr ⟨t, ht, rfl⟩))⟩
  · unfold revF
    rw [if_neg (by omega)]
    have := f.hi i hi
    omega
  · unfold revF
    rw [if_neg (by omega)]
    have := f.lo i hi
    omega
theorem rev_rev {n : Nat} {φ : Nat → Int} (hz : φ n = 0) : revF n (revF n φ) = φ := by
  funext i
  unfold revF
  by_cases h : i = n
  · rw [if_pos h, h, hz]
  · rw [if_neg h, if_neg h]
    omega
theorem feas_turn {n : Nat} {ts : List Tie} {φ : Nat → Int} (hok : ∀ t ∈ ts, TieOk (n : Int) t) (f : Feas n ts φ) : Feas n (ts.map turnT) (revF n φ) := by
  refine ⟨if_pos rfl, fun i hi => ?_, fun i hi => ?_, fun u hu => ?_⟩
  · unfold revF
    rw [if_neg (by omega)]
    have := f.hi i hi
    omega
  · unfold revF
    rw [if_neg (by omega)]
    have := f.lo i hi
    omega
  · obtain ⟨t, ht, rfl⟩ := List.mem_map.mp hu
    refine (turn_ke (hok t ht) (if_pos rfl)).mpr ?_
    rw [rev_rev f.z]
    exact f.ke t ht
theorem late_is {n : Nat} {ts : List Tie} {ds : List Int} (n1 : 1 ≤ n) (hok : ∀ t ∈ ts, TieOk (n : Int) t) (w : Way n (ts.map turnT) ds) (l : ∀ φ, Feas n (ts.map turnT) φ → ∀ i, i < n → ds.getD i 0 ≤ φ i) : (ds.map fun d => 9999 - d) = (List.range n).map fun i => - gapsG n ts n i := by
  have ixT : ∀ t ∈ ts.map turnT, TieIx (n : Int) t := fun t ht => by
    obtain ⟨u, hu, rfl⟩ := List.mem_map.mp ht
    exact turn_ix (hok u hu) n1
  have ix : ∀ t ∈ ts, TieIx (n : Int) t := fun t ht => (hok t ht).ix
  have f := w.feas ixT
  have fr := feas_rev hok f
  have d := (can_iff ix).mp ⟨_, fr⟩
  apply List.ext_getElem?
  intro k
  rcases Nat.lt_or_ge k n with hk | hk
  · rw [List.getElem?_map, List.getElem?_map, List.getElem?_range hk, List.getElem?_eq_getElem (by rw [w.len]; exact hk)]
    show some (9999 - ds[k]'(by rw [w.len]; exact hk)) = some (- gapsG n ts n k)
    have ed : ds.getD k 0 = ds[k]'(by rw [w.len]; exact hk) := by
      rw [List.getD_eq_getElem?_getD, List.getElem?_eq_getElem (by rw [w.len]; exact hk)]
      rfl
    obtain ⟨⟨φ, g1, g2⟩, g3⟩ := greatest ix d hk
    have a := g3 _ fr
    have b := l _ (feas_turn hok g1) k hk
    unfold revF wayF at a
    unfold revF at b
    rw [if_neg (by omega), if_neg (by omega)] at a
    rw [if_neg (by omega)] at b
    congr 1
    omega
  · rw [List.getElem?_eq_none (by rw [List.length_map, w.len]; exact hk), List.getElem?_eq_none (by simpa using hk)]
theorem can_turn {n : Nat} {ts : List Tie} (hok : ∀ t ∈ ts, TieOk (n : Int) t) (c : Can n ts) : Can n (ts.map turnT) := by
  obtain ⟨φ, f⟩ := c
  exact ⟨_, feas_turn hok f⟩
theorem least_way {n : Nat} {ts : List Tie} (ix : ∀ t ∈ ts, TieIx (n : Int) t) (c : Can n ts) : Way n ts ((List.range n).map fun i => gapsG n ts i n) := (feas_least ix ((can_iff ix).mp c)).way ix
theorem most_way {n : Nat} {ts : List Tie} (ix : ∀ t ∈ ts, TieIx (n : Int) t) (c : Can n ts) : Way n ts ((List.range n).map fun i => - gapsG n ts n i) := by
  have d := (can_iff ix).mp c
  obtain ⟨φ, f⟩ := c
  refine Feas.way ix ⟨by rw [d n (Nat.le_refl n)]; rfl, fun i hi => ?_, fun i hi => ?_, fun t ht => ?_⟩
  · have := gap_le f (Nat.le_refl n) (Nat.le_of_lt hi)
    have := f.lo i hi
    have := f.z
    omega
  · have := gap_hi (n := n) (ts := ts) n i
    omega
  · have ok := ix t ht
    have := gap_tie (n := n) ht
    have := gap_close d (nd_le ok.2.1) n (nd n t.2.1)
    omega
theorem day_between {n : Nat} {ts : List Tie} {ds : List Int} (ix : ∀ t ∈ ts, TieIx (n : Int) t) (w : Way n ts ds) {i : Nat} (hi : i < n) : gapsG n ts i n ≤ ds.getD i 0 ∧ ds.getD i 0 ≤ - gapsG n ts n i := by
  have f := w.feas ix
  have a := gap_le f (Nat.le_of_lt hi) (Nat.le_refl n)
  have b := gap_le f (Nat.le_refl n) (Nat.le_of_lt hi)
  have e1 : wayF n ds i = ds.getD i 0 := if_neg (by omega)
  have e2 : wayF n ds n = 0 := if_pos rfl
  omega
end LH

set_option Elab.async false
set_option linter.all false
set_option maxRecDepth 100000
set_option maxHeartbeats 4000000
/-! on which days a life holds: in one way, in some way, in all ways -/
namespace LH
def hereT (r ds : List Int) (x s b : Int) : Int := (turnsS (aheadOf r x) ds s b).2
def spanIn (r ds : List Int) (x s b : Int) : Option (Int × Int) := if hereT r ds x s b < min (dayOf ds x) b then some (hereT r ds x s b, min (dayOf ds x) b) else none
def IsMaxL (l : List Int) (m : Int) : Prop := m ∈ l ∧ ∀ y ∈ l, y ≤ m
def IsMinL (l : List Int) (m : Int) : Prop := m ∈ l ∧ ∀ y ∈ l, m ≤ y
def topL (ds es : List Int) (s : Int) : List Int := s :: es.map (dayOf ds)
theorem ex_maxL {l : List Int} (h : l ≠ []) : ∃ m, IsMaxL l m := by
  obtain ⟨x, hx, h⟩ := ex_max (fun x : Int => x) l h
  exact ⟨x, hx, h⟩
theorem here_top {r ds : List Int} {x s b f : Int} (sb : s ≤ b) (h : IsMaxL (topL ds (aheadOf r x) s) f) : hereT r ds x s b = min f b := by
  obtain ⟨h1, h2⟩ := h
  have g := turnsS_ge ds s b (aheadOf r x)
  have sn := turns_seen (ds := ds) (s := s) (b := b) (aheadOf r x)
  have hi := here_is (ds := ds) (s := s) (b := b) (aheadOf r x)
  unfold hereT
  have fs := h2 s List.mem_cons_self
  have fe : ∀ e ∈ aheadOf r x, dayOf ds e ≤ f := fun e he => h2 _ (List.mem_cons_of_mem _ (List.mem_map.mpr ⟨e, he, rfl⟩))
  generalize (turnsS (aheadOf r x) ds s b).2 = T at *
  have up : T ≤ min f b := by
    rcases hi with h | ⟨e, he, h⟩
    · omega
    · have := fe e he
      omega
  have lo : min f b ≤ T := by
    rcases List.mem_cons.mp h1 with h | h
    · omega
    · obtain ⟨e, he, rfl⟩ := List.mem_map.mp h
      exact sn e he
  omega
theorem span_top {r ds : List Int} {x s b f : Int} (sb : s ≤ b) (h : IsMaxL (topL ds (aheadOf r x) s) f) : spanIn r ds x s b = if f < min (dayOf ds x) b then some (f, min (dayOf ds x) b) else none := by
  unfold spanIn
  rw [here_top sb h]
  by_cases c : f < min (dayOf ds x) b
  · rw [if_pos (by omega), if_pos c, show min f b = f by omega]
  · rw [if_neg (by omega), if_neg c]
theorem topL_ne (ds es : List Int) (s : Int) : topL ds es s ≠ [] := by unfold topL; simp
theorem top_mono {ds ds' es : List Int} {s f f' : Int} (h : ∀ e ∈ es, dayOf ds e ≤ dayOf ds' e) (h1 : IsMaxL (topL ds es s) f) (h2 : IsMaxL (topL ds' es s) f') : f ≤ f' := by
  rcases List.mem_cons.mp h1.1 with e | e
  · rw [e]
    exact h2.2 s List.mem_cons_self
  · obtain ⟨y, he, rfl⟩ := List.mem_map.mp e
    exact Int.le_trans (h y he) (h2.2 _ (List.mem_cons_of_mem _ (List.mem_map.mpr ⟨y, he, rfl⟩)))
/-- a life holds on a day just where all margins are one at least -/
theorem span_cnt {r ds : List Int} {x s b : Int} (hx : x ∈ r) (nd : r.Nodup) : spanIn r ds x s b = none ↔ cntOf r ds x s b = 0 := by
  rw [cnt_eq hx nd]
  unfold spanIn hereT
  constructor
  · intro h
    split at h
    · cases h
    · omega
  · intro h
    exact if_neg (by omega)
theorem cnt_span {r ds : List Int} {x s b : Int} (hx : x ∈ r) (nd : r.Nodup) : cntOf r ds x s b = match spanIn r ds x s b with | none => 0 | some p => p.2 - p.1 := by
  rw [cnt_eq hx nd]
  unfold spanIn hereT
  by_cases c : (turnsS (aheadOf r x) ds s b).2 < min (dayOf ds x) b
  · rw [if_pos c]
    show _ = min (dayOf ds x) b - (turnsS (aheadOf r x) ds s b).2
    omega
  · rw [if_neg c]
    show _ = (0 : Int)
    omega
theorem mar_of_hold {r ds : List Int} {x s b : Int} (hx : x ∈ r) (nd : r.Nodup) (h : spanIn r ds x s b ≠ none) : ∀ t ∈ marT (aheadOf r x) x s b, 1 ≤ marOf ds t := by
  intro t ht
  have h1 := cnt_le (ds := ds) hx nd ht
  have h2 := cnt_nn r ds x s b hx nd
  have h3 : cntOf r ds x s b ≠ 0 := fun z => h ((span_cnt hx nd).mpr z)
  omega
def IsDays (n : Nat) (ts : List Tie) (r : List Int) (x s b : Int) : Option (Int × Int) → Prop
  | none => ∀ ds, Way n ts ds → spanIn r ds x s b = none
  | some p => (∃ ds u, Way n ts ds ∧ spanIn r ds x s b = some (p.1, u)) ∧ (∃ ds f, Way n ts ds ∧ spanIn r ds x s b = some (f, p.2)) ∧ ∀ ds q, Way n ts ds → spanIn r ds x s b = some q → p.1 ≤ q.1 ∧ q.2 ≤ p.2
def IsSure (n : Nat) (ts : List Tie) (r : List Int) (x s b : Int) : Option (Int × Int) → Prop
  | none => (∃ ds, Way n ts ds ∧ spanIn r ds x s b = none) ∨ ∃ ds es p q, Way n ts ds ∧ Way n ts es ∧ spanIn r ds x s b = some p ∧ spanIn r es x s b = some q ∧ q.2 ≤ p.1
  | some p => (∀ ds, Way n ts ds → ∃ q, spanIn r ds x s b = some q ∧ q.1 ≤ p.1 ∧ p.2 ≤ q.2) ∧ (∃ ds u, Way n ts ds ∧ spanIn r ds x s b = some (p.1, u)) ∧ (∃ ds f, Way n ts ds ∧ spanIn r ds x s b = some (f, p.2)) ∧ p.1 < p.2
def earlyL (n : Nat) (ts : List Tie) : List Int := (List.range n).map fun i => gapsG n ts i n
def lateL (n : Nat) (ts : List Tie) : List Int := (List.range n).map fun i => - gapsG n ts n i
theorem early_day {n : Nat} {ts : List Tie} {o : Int} (h0 : 0 ≤ o) (h : o < n) : dayOf (earlyL n ts) o = gapsG n ts o.toNat n := by
  unfold dayOf earlyL
  rw [if_neg (by omega), List.getD_eq_getElem?_getD, List.getElem?_map, List.getElem?_range (by omega)]
  rfl
theorem late_day {n : Nat} {ts : List Tie} {o : Int} (h0 : 0 ≤ o) (h : o < n) : dayOf (lateL n ts) o = - gapsG n ts n o.toNat := by
  unfold dayOf lateL
  rw [if_neg (by omega), List.getD_eq_getElem?_getD, List.getElem?_map, List.getElem?_range (by omega)]
  rfl
theorem day_in {n : Nat} {ts : List Tie} {ds : List Int} (ix : ∀ t ∈ ts, TieIx (n : Int) t) (w : Way n ts ds) {o : Int} (h0 : 0 ≤ o) (h : o < n) : dayOf (earlyL n ts) o ≤ dayOf ds o ∧ dayOf ds o ≤ dayOf (lateL n ts) o := by
  rw [early_day h0 h, late_day h0 h]
  have := day_between ix w (i := o.toNat) (by omega)
  unfold dayOf
  rw [if_neg (by omega)]
  exact this
section
variable {n : Nat} {ts : List Tie} {r : List Int} {x s b f u : Int}
theorem days_none (hr : RowOk (n : Int) r) (hx : x ∈ r) (hok : ∀ t ∈ ts, TieIx (n : Int) t) (no : ¬ Can n (ts ++ holdC (marT (aheadOf r x) x s b) 1)) : IsDays n ts r x s b none := by
  intro ds w
  refine Classical.byContradiction fun h => no ?_
  have w2 := way_holdC w (mar_of_hold hx hr.1.2.2 h)
  exact ⟨_, w2.feas (app_ix hok (holdC_ix (mar_ix (hr.2 x hx) (ahead_ok hr))))⟩
theorem days_some (hr : RowOk (n : Int) r) (hx : x ∈ r) (sb : s ≤ b) (hok : ∀ t ∈ ts, TieIx (n : Int) t) (can : Can n (ts ++ holdC (marT (aheadOf r x) x s b) 1))
    (hf : IsMaxL (topL (earlyL n (ts ++ holdC (marT (aheadOf r x) x s b) 1)) (aheadOf r x) s) f) (hu : IsMinL [dayOf (lateL n (ts ++ holdC (marT (aheadOf r x) x s b) 1)) x, b] u) : f < u ∧ IsDays n ts r x s b (some (f, u)) := by
  have hok2 := app_ix hok (holdC_ix (c := 1) (mar_ix (s := s) (b := b) (hr.2 x hx) (ahead_ok hr (x := x))))
  have we := can_way hok2 can
  have wl := most_way hok2 can
  generalize ets : ts ++ holdC (marT (aheadOf r x) x s b) 1 = ts2 at *
  have h0x := hr.2 x hx
  have eu : u = min (dayOf (lateL n ts2) x) b := by
    obtain ⟨u1, u2⟩ := hu
    have a1 := u2 _ List.mem_cons_self
    have a2 := u2 b (List.mem_cons_of_mem _ List.mem_cons_self)
    simp only [List.mem_cons, List.not_mem_nil, or_false] at u1
    omega
  have holds : ∀ ds, Way n ts2 ds → Way n ts ds ∧ spanIn r ds x s b ≠ none := fun ds w => by
    rw [← ets] at w
    obtain ⟨w1, h1⟩ := holdC_way w
    refine ⟨w1, fun z => ?_⟩
    have := cnt_ge hx hr.1.2.2 h1
    have := (span_cnt hx hr.1.2.2).mp z
    omega
  have se := span_top (b := b) (x := x) sb hf
  obtain ⟨we1, ne⟩ := holds (earlyL n ts2) we
  have c1 : f < min (dayOf (earlyL n ts2) x) b := Classical.byContradiction fun z => ne (by rw [se, if_neg z])
  rw [if_pos c1] at se
  obtain ⟨fl, hfl⟩ := ex_maxL (topL_ne (lateL n ts2) (aheadOf r x) s)
  have sl := span_top (b := b) (x := x) sb hfl
  obtain ⟨wl1, nl⟩ := holds (lateL n ts2) wl
  have c2 : fl < min (dayOf (lateL n ts2) x) b := Classical.byContradiction fun z => nl (by rw [sl, if_neg z])
  rw [if_pos c2, ← eu] at sl
  have bt := fun ds (w : Way n ts2 ds) (o : Int) h0 h => day_in hok2 w (o := o) h0 h
  refine ⟨?_, ⟨_, _, we1, se⟩, ⟨_, _, wl1, sl⟩, fun ds q w e => ?_⟩
  · have := (bt _ we x h0x.1 h0x.2).2
    have this : dayOf (earlyL n ts2) x ≤ dayOf (lateL n ts2) x := this
    omega
  · have w2 : Way n ts2 ds := by
      rw [← ets]
      exact way_holdC w (mar_of_hold hx hr.1.2.2 (by rw [e]; simp))
    obtain ⟨fd, hfd⟩ := ex_maxL (topL_ne ds (aheadOf r x) s)
    rw [span_top (b := b) (x := x) sb hfd] at e
    split at e
    · cases e
      have b1 := top_mono (fun e he => (bt ds w2 e (ahead_ok hr e he).1 (ahead_ok hr e he).2).1) hf hfd
      have b2 := (bt ds w2 x h0x.1 h0x.2).2
      exact ⟨b1, by show min (dayOf ds x) b ≤ u; omega⟩
    · cases e
theorem sure_is (hr : RowOk (n : Int) r) (hx : x ∈ r) (sb : s ≤ b) (hok : ∀ t ∈ ts, TieIx (n : Int) t) (can : Can n ts)
    (hf : IsMaxL (topL (lateL n ts) (aheadOf r x) s) f) (hu : IsMinL [dayOf (earlyL n ts) x, b] u) : IsSure n ts r x s b (if f < u then some (f, u) else none) := by
  have we := can_way hok can
  have wl := most_way hok can
  have h0x := hr.2 x hx
  have eu : u = min (dayOf (earlyL n ts) x) b := by
    obtain ⟨u1, u2⟩ := hu
    have a1 := u2 _ List.mem_cons_self
    have a2 := u2 b (List.mem_cons_of_mem _ List.mem_cons_self)
    simp only [List.mem_cons, List.not_mem_nil, or_false] at u1
    omega
  have sl := span_top (b := b) (x := x) sb hf
  obtain ⟨fe, hfe⟩ := ex_maxL (topL_ne (earlyL n ts) (aheadOf r x) s)
  have se := span_top (b := b) (x := x) sb hfe
  rw [← eu] at se
  have bt := fun ds (w : Way n ts ds) (o : Int) h0 h => day_in hok w (o := o) h0 h
  have ffe : fe ≤ f := top_mono (fun e he => (bt _ we e (ahead_ok hr e he).1 (ahead_ok hr e he).2).2) hfe hf
  have xle := (bt _ wl x h0x.1 h0x.2).1
  have xle : dayOf (earlyL n ts) x ≤ dayOf (lateL n ts) x := xle
  by_cases c : f < u
  · rw [if_pos c]
    rw [if_pos (show f < min (dayOf (lateL n ts) x) b by omega)] at sl
    rw [if_pos (show fe < u by omega)] at se
    refine ⟨fun ds w => ?_, ⟨_, _, wl, sl⟩, ⟨_, _, we, se⟩, c⟩
    obtain ⟨fd, hfd⟩ := ex_maxL (topL_ne ds (aheadOf r x) s)
    have b1 := top_mono (fun e he => (bt ds w e (ahead_ok hr e he).1 (ahead_ok hr e he).2).2) hfd hf
    have b2 := (bt ds w x h0x.1 h0x.2).1
    refine ⟨_, (span_top (b := b) (x := x) sb hfd).trans (if_pos (by omega)), b1, by show u ≤ min (dayOf ds x) b; omega⟩
  · rw [if_neg c]
    by_cases c1 : f < min (dayOf (lateL n ts) x) b
    · rw [if_pos c1] at sl
      by_cases c2 : fe < u
      · rw [if_pos c2] at se
        exact .inr ⟨_, _, _, _, wl, we, sl, se, Int.not_lt.mp c⟩
      · rw [if_neg c2] at se
        exact .inl ⟨_, we, se⟩
    · rw [if_neg c1] at sl
      exact .inl ⟨_, wl, sl⟩
end
end LH

set_option Elab.async false
set_option linter.all false
set_option maxRecDepth 100000
set_option maxHeartbeats 4000000
/-! the days met in each of all ways -/
namespace LH
open PySem PySem.Spec PyProof.Rows L2
theorem turns_one {r ds : List Int} {x s b : Int} (hx : x ∈ r) (nd : r.Nodup) : (((turnsOf r ds s b).filter fun t => decide (t.1 = x)).map fun t => t.2) = (spanIn r ds x s b).toList := by
  obtain ⟨q, e, h1, h2⟩ := ahead_split hx nd
  have f0 : ((turnsS (aheadOf r x) ds s b).1.filter fun t => decide (t.1 = x)) = [] := fold_no _ _ h1
  unfold turnsOf spanIn hereT
  have e2 : turnsS r ds s b = q.foldl (stepT ds b) (stepT ds b (turnsS (aheadOf r x) ds s b) x) := by
    unfold turnsS
    conv => lhs; rw [e]
    rw [List.foldl_append, List.foldl_cons]
  rw [e2, fold_no _ _ h2]
  generalize turnsS (aheadOf r x) ds s b = st at *
  unfold stepT
  by_cases c : st.2 < min (dayOf ds x) b
  · rw [if_pos c, if_pos c]
    show (List.filter _ (st.1 ++ [_])).map _ = _
    rw [List.filter_append, f0, List.filter_cons_of_pos (by simp)]
    rfl
  · rw [if_neg c, if_neg c, f0]
    rfl
abbrev OptsAt (H : Hp) : List V → List (Option (Int × Int)) → Prop := AllAt (PairOpt H)
theorem opts_mono {H H' : Hp} {vs : List V} {os : List (Option (Int × Int))} (e : Same H H') (h : OptsAt H vs os) : OptsAt H' vs os := AllAt.imp (fun _ _ => PairOpt.mono e) h
theorem opt_updL {H : Hp} {l : Addr} {o : HO} {zs : List V} (hl : H l = some (.lst zs)) {v : V} : ∀ {z : Option (Int × Int)}, PairOpt H v z → PairOpt (upd H l o) v z
  | none, h => h
  | some _, ⟨a, h1, h2⟩ => ⟨a, h1, by rw [upd_ne (ne_of h2 hl (by intro z; cases z))]; exact h2⟩
theorem opts_updL {H : Hp} {l : Addr} {o : HO} {zs : List V} (hl : H l = some (.lst zs)) {vs : List V} {os : List (Option (Int × Int))} (h : OptsAt H vs os) : OptsAt (upd H l o) vs os := AllAt.imp (fun _ _ => opt_updL hl) h
def OneN (D : Addr) (H : Hp) (v : V) (o : Option (Int × Int)) : Prop := ∃ a zs, v = .ref a ∧ a ≠ D ∧ H a = some (.lst zs) ∧ PairsAt H zs o.toList
theorem oneN_mono {D : Addr} {H H' : Hp} {vs : List V} {os : List (Option (Int × Int))} (e : Same H H') (h : AllAt (OneN D H) vs os) : AllAt (OneN D H') vs os := AllAt.imp (fun _ _ ⟨a, zs, h1, h2, h3, h4⟩ => ⟨a, zs, h1, h2, e _ _ h3, pairs_mono e h4⟩) h
theorem oneN_upd {D : Addr} {H : Hp} {o : HO} {zs : List V} (hl : H D = some (.lst zs)) {vs : List V} {os : List (Option (Int × Int))} (h : AllAt (OneN D H) vs os) : AllAt (OneN D (upd H D o)) vs os :=
  AllAt.imp (fun _ _ ⟨a, zs, h1, h2, h3, h4⟩ => ⟨a, zs, h1, h2, by rw [upd_ne h2]; exact h3, pairs_updL hl h4⟩) h
def prD (w : Int × Int) : PyData := .tuple [.int w.1, .int w.2]
def prsD (ws : List (Int × Int)) : PyData := .list (ws.map prD)
theorem dpAll_prs {K : PySem.W.Frag} {H : Hp} : ∀ {vs : List V} {ws : List (Int × Int)}, PairsAt H vs ws → DpAll K H vs (ws.map prD)
  | [], [], _ => .nil
  | _ :: _, _ :: _, h => by
    obtain ⟨⟨a, rfl, ha⟩, h2⟩ := h
    exact .cons (.tup (SqT.of ha) (.cons (.int _) (.cons (.int _) .nil))) (dpAll_prs h2)
theorem dp_prs {K : PySem.W.Frag} {H : Hp} {a : Addr} {vs : List V} {ws : List (Int × Int)} (h : SqL K H a vs) (h2 : PairsAt H vs ws) : Dp K H (.ref a) (prsD ws) := .lst h (dpAll_prs h2)
theorem shaped_prs (ws : List (Int × Int)) : SeqAt.shaped (prsD ws) = true := by
  have key : ∀ ws : List (Int × Int), PyData.canLayAll0 (ws.map prD) = true ∧ PyData.depthAll (ws.map prD) ≤ 1 := fun ws => by
    induction ws with
    | nil => exact ⟨rfl, Nat.zero_le _⟩
    | cons r ws ih =>
      have e1 : PyData.canLay0 (prD r) = true := by simp [prD, PyData.canLay0, PyData.canLayAll0]
      have e2 : PyData.depth (prD r) ≤ 1 := by simp [prD, PyData.depth, PyData.depthAll]
      constructor
      · simp only [List.map_cons, PyData.canLayAll0, ih.1, e1, Bool.and_self]
      · simp only [List.map_cons, PyData.depthAll]
        omega
  refine shaped_mk ?_ ?_
  · unfold prsD
    simp only [PyData.canLay0, (key ws).1]
  · unfold prsD
    simp only [PyData.depth]
    have := (key ws).2
    omega
theorem eqv_prs_nil (ws : List (Int × Int)) : PyData.eqv (prsD ws) (.list []) = decide (ws = []) := by
  cases ws with
  | nil => rfl
  | cons w ws => simp [prsD, PyData.eqv, PyData.eqvAll]
def optD : Option (Int × Int) → PyData
  | none => .none
  | some w => prD w
theorem dpAll_opts {K : PySem.W.Frag} {H : Hp} : ∀ {vs : List V} {os : List (Option (Int × Int))}, OptsAt H vs os → DpAll K H vs (os.map optD)
  | [], [], _ => .nil
  | _ :: _, none :: _, h => by
    obtain ⟨h1, h2⟩ := h
    cases (show _ = V.non from h1)
    exact .cons .non (dpAll_opts h2)
  | _ :: _, some _ :: _, h => by
    obtain ⟨⟨a, rfl, ha⟩, h2⟩ := h
    exact .cons (.tup (SqT.of ha) (.cons (.int _) (.cons (.int _) .nil))) (dpAll_opts h2)
theorem shaped_opts (os : List (Option (Int × Int))) : SeqAt.shaped (.list (os.map optD)) = true := by
  have key : ∀ os : List (Option (Int × Int)), PyData.canLayAll0 (os.map optD) = true ∧ PyData.depthAll (os.map optD) ≤ 1 := fun os => by
    induction os with
    | nil => exact ⟨rfl, Nat.zero_le _⟩
    | cons r os ih =>
      have e1 : PyData.canLay0 (optD r) = true := by cases r <;> simp [optD, prD, PyData.canLay0, PyData.canLayAll0]
      have e2 : PyData.depth (optD r) ≤ 1 := by cases r <;> simp [optD, prD, PyData.depth, PyData.depthAll]
      constructor
      · simp only [List.map_cons, PyData.canLayAll0, ih.1, e1, Bool.and_self]
      · simp only [List.map_cons, PyData.depthAll]
        omega
  refine shaped_mk ?_ ?_
  · simp only [PyData.canLay0, (key os).1]
  · simp only [PyData.depth]
    have := (key os).2
    omega
theorem any_none (os : List (Option (Int × Int))) : ((os.map optD).any fun z => PyData.eqv z .none) = decide (none ∈ os) := by
  induction os with
  | nil => rfl
  | cons o os ih =>
    rw [List.map_cons, List.any_cons, ih]
    cases o with
    | none => simp [optD, PyData.eqv]
    | some w => simp [optD, prD, PyData.eqv]
/-! what is told of the days met -/
def MetSpan (os : List (Option (Int × Int))) : Option (Int × Int) → Prop
  | none => ∀ o ∈ os, o = none
  | some p => (∃ u, some (p.1, u) ∈ os) ∧ (∃ f, some (f, p.2) ∈ os) ∧ ∀ q, some q ∈ os → p.1 ≤ q.1 ∧ q.2 ≤ p.2
def MetSure (os : List (Option (Int × Int))) : Option (Int × Int) → Prop
  | none => none ∈ os ∨ ∃ p q, some p ∈ os ∧ some q ∈ os ∧ q.2 ≤ p.1
  | some p => (∀ o ∈ os, ∃ q, o = some q ∧ q.1 ≤ p.1 ∧ p.2 ≤ q.2) ∧ (∃ u, some (p.1, u) ∈ os) ∧ (∃ f, some (f, p.2) ∈ os) ∧ p.1 < p.2
theorem MetSpan.uniq {os : List (Option (Int × Int))} : ∀ {z z' : Option (Int × Int)}, MetSpan os z → MetSpan os z' → z = z'
  | none, none, _, _ => rfl
  | none, some _, h, ⟨⟨_, h1⟩, _⟩ => by cases h _ h1
  | some _, none, ⟨⟨_, h1⟩, _⟩, h => by cases h _ h1
  | some (a, b), some (c, d), ⟨⟨u, h1⟩, ⟨f, h2⟩, h3⟩, ⟨⟨u', g1⟩, ⟨f', g2⟩, g3⟩ => by
    have a1 : c ≤ a := (g3 _ h1).1
    have a2 : b ≤ d := (g3 _ h2).2
    have a3 : a ≤ c := (h3 _ g1).1
    have a4 : d ≤ b := (h3 _ g2).2
    rw [show a = c by omega, show b = d by omega]
theorem MetSure.uniq {os : List (Option (Int × Int))} : ∀ {z z' : Option (Int × Int)}, MetSure os z → MetSure os z' → z = z'
  | none, none, _, _ => rfl
  | none, some (a, b), h, ⟨h1, _, _, h4⟩ => by
    rcases h with h | ⟨p, q, hp, hq, hle⟩
    · obtain ⟨q, e, _⟩ := h1 _ h
      cases e
    · obtain ⟨_, e, x1, _⟩ := h1 _ hp
      cases e
      obtain ⟨_, e, _, x2⟩ := h1 _ hq
      cases e
      have h4 : a < b := h4
      have x1 : p.1 ≤ a := x1
      have x2 : b ≤ q.2 := x2
      omega
  | some (a, b), none, ⟨h1, _, _, h4⟩, h => by
    rcases h with h | ⟨p, q, hp, hq, hle⟩
    · obtain ⟨q, e, _⟩ := h1 _ h
      cases e
    · obtain ⟨_, e, x1, _⟩ := h1 _ hp
      cases e
      obtain ⟨_, e, _, x2⟩ := h1 _ hq
      cases e
      have h4 : a < b := h4
      have x1 : p.1 ≤ a := x1
      have x2 : b ≤ q.2 := x2
      omega
  | some (a, b), some (c, d), ⟨h0, ⟨u, h1⟩, ⟨f, h2⟩, h3⟩, ⟨g0, ⟨u', g1⟩, ⟨f', g2⟩, g3⟩ => by
    obtain ⟨_, e, a1, _⟩ := g0 _ h1
    cases e
    obtain ⟨_, e, _, a2⟩ := g0 _ h2
    cases e
    obtain ⟨_, e, a3, _⟩ := h0 _ g1
    cases e
    obtain ⟨_, e, _, a4⟩ := h0 _ g2
    cases e
    have a1 : a ≤ c := a1
    have a2 : d ≤ b := a2
    have a3 : c ≤ a := a3
    have a4 : b ≤ d := a4
    rw [show a = c by omega, show b = d by omega]
section
variable {n : Nat} {ts : List Tie} {r : List Int} {x s b : Int} {W : List (List Int)}
theorem met_days (hW : ∀ ds, ds ∈ W ↔ Way n ts ds) : ∀ {z : Option (Int × Int)}, IsDays n ts r x s b z → MetSpan (W.map fun ds => spanIn r ds x s b) z
  | none, h => fun o ho => by
    obtain ⟨ds, hd, rfl⟩ := List.mem_map.mp ho
    exact h ds ((hW ds).mp hd)
  | some p, ⟨⟨d1, u, w1, e1⟩, ⟨d2, f, w2, e2⟩, h⟩ => ⟨⟨u, List.mem_map.mpr ⟨d1, (hW d1).mpr w1, e1⟩⟩, ⟨f, List.mem_map.mpr ⟨d2, (hW d2).mpr w2, e2⟩⟩, fun q hq => by
    obtain ⟨ds, hd, e⟩ := List.mem_map.mp hq
    exact h ds q ((hW ds).mp hd) e⟩
theorem met_surely (hW : ∀ ds, ds ∈ W ↔ Way n ts ds) : ∀ {z : Option (Int × Int)}, IsSure n ts r x s b z → MetSure (W.map fun ds => spanIn r ds x s b) z
  | none, h => by
    rcases h with ⟨ds, w, e⟩ | ⟨ds, es, p, q, w1, w2, e1, e2, hle⟩
    · exact .inl (List.mem_map.mpr ⟨ds, (hW ds).mpr w, e⟩)
    · exact .inr ⟨p, q, List.mem_map.mpr ⟨ds, (hW ds).mpr w1, e1⟩, List.mem_map.mpr ⟨es, (hW es).mpr w2, e2⟩, hle⟩
  | some p, ⟨h, ⟨d1, u, w1, e1⟩, ⟨d2, f, w2, e2⟩, hlt⟩ => ⟨fun o ho => by
    obtain ⟨ds, hd, rfl⟩ := List.mem_map.mp ho
    exact h ds ((hW ds).mp hd), ⟨u, List.mem_map.mpr ⟨d1, (hW d1).mpr w1, e1⟩⟩, ⟨f, List.mem_map.mpr ⟨d2, (hW d2).mpr w2, e2⟩⟩, hlt⟩
theorem met_few (hW : ∀ ds, ds ∈ W ↔ Way n ts ds) {k m : Int} (h : IsFew n ts r x s b k) (h1 : m ∈ W.map fun ds => cntOf r ds x s b) (h2 : ∀ y ∈ W.map fun ds => cntOf r ds x s b, m ≤ y) : k = m := by
  obtain ⟨⟨ds, w, e⟩, h⟩ := h
  obtain ⟨es, hs, e2⟩ := List.mem_map.mp h1
  have a := h es ((hW es).mp hs)
  have c := h2 _ (List.mem_map.mpr ⟨ds, (hW ds).mpr w, rfl⟩)
  have e2 : cntOf r es x s b = m := e2
  have c : m ≤ cntOf r ds x s b := c
  omega
theorem met_most (hW : ∀ ds, ds ∈ W ↔ Way n ts ds) {k m : Int} (h : IsMost n ts r x s b k) (h1 : m ∈ W.map fun ds => cntOf r ds x s b) (h2 : ∀ y ∈ W.map fun ds => cntOf r ds x s b, y ≤ m) : k = m := by
  obtain ⟨⟨ds, w, e⟩, h⟩ := h
  obtain ⟨es, hs, e2⟩ := List.mem_map.mp h1
  have a := h es ((hW es).mp hs)
  have c := h2 _ (List.mem_map.mpr ⟨ds, (hW ds).mpr w, rfl⟩)
  have e2 : cntOf r es x s b = m := e2
  have c : cntOf r ds x s b ≤ m := c
  omega
end
/-- the days met, without those that are none -/
def somes (os : List (Option (Int × Int))) : List (Int × Int) := os.filterMap id
theorem mem_somes {os : List (Option (Int × Int))} {p : Int × Int} : p ∈ somes os ↔ some p ∈ os := by
  unfold somes
  rw [List.mem_filterMap]
  constructor
  · rintro ⟨o, h, e⟩
    have e : o = some p := e
    rw [← e]
    exact h
  · intro h
    exact ⟨_, h, rfl⟩
theorem somes_take {os : List (Option (Int × Int))} {i : Nat} {o : Option (Int × Int)} (h : os[i]? = some o) : somes (os.take (i + 1)) = somes (os.take i) ++ o.toList := by
  unfold somes
  rw [List.take_succ, h, List.filterMap_append]
  cases o <;> rfl
theorem somes_len (os : List (Option (Int × Int))) : (somes os).length ≤ os.length := List.length_filterMap_le _ _
theorem somes_nil {os : List (Option (Int × Int))} (h : somes os = []) : MetSpan os none := fun o ho => by
  cases o with
  | none => rfl
  | some p =>
    have := mem_somes.mpr ho
    rw [h] at this
    cases this
theorem somes_span {os : List (Option (Int × Int))} {f u : Int} (h1 : IsMinL ((somes os).map fun p => p.1) f) (h2 : IsMaxL ((somes os).map fun p => p.2) u) : MetSpan os (some (f, u)) := by
  obtain ⟨p, hp, e1⟩ := List.mem_map.mp h1.1
  obtain ⟨q, hq, e2⟩ := List.mem_map.mp h2.1
  refine ⟨⟨p.2, ?_⟩, ⟨q.1, ?_⟩, fun y hy => ⟨h1.2 _ (List.mem_map.mpr ⟨y, mem_somes.mpr hy, rfl⟩), h2.2 _ (List.mem_map.mpr ⟨y, mem_somes.mpr hy, rfl⟩)⟩⟩
  · show some (f, p.2) ∈ os
    rw [← e1]
    exact mem_somes.mp hp
  · show some (q.1, u) ∈ os
    rw [← e2]
    exact mem_somes.mp hq
theorem somes_all {os : List (Option (Int × Int))} : (somes os).length = os.length ↔ none ∉ os := by
  unfold somes
  induction os with
  | nil => simp
  | cons o os ih =>
    cases o with
    | none =>
      have := List.length_filterMap_le id os
      simp
      omega
    | some p => simp [ih]
theorem somes_sure {os : List (Option (Int × Int))} {f u : Int} (hn : none ∉ os) (h1 : IsMaxL ((somes os).map fun p => p.1) f) (h2 : IsMinL ((somes os).map fun p => p.2) u) : MetSure os (if f < u then some (f, u) else none) := by
  obtain ⟨p, hp, e1⟩ := List.mem_map.mp h1.1
  obtain ⟨q, hq, e2⟩ := List.mem_map.mp h2.1
  have hp := mem_somes.mp hp
  have hq := mem_somes.mp hq
  have e1 : p.1 = f := e1
  have e2 : q.2 = u := e2
  by_cases c : f < u
  · rw [if_pos c]
    refine ⟨fun o ho => ?_, ⟨p.2, ?_⟩, ⟨q.1, ?_⟩, c⟩
    · cases o with
      | none => exact absurd ho hn
      | some y => exact ⟨y, rfl, h1.2 _ (List.mem_map.mpr ⟨y, mem_somes.mpr ho, rfl⟩), h2.2 _ (List.mem_map.mpr ⟨y, mem_somes.mpr ho, rfl⟩)⟩
    · show some (f, p.2) ∈ os
      rw [← e1]
      exact hp
    · show some (q.1, u) ∈ os
      rw [← e2]
      exact hq
  · rw [if_neg c]
    exact .inr ⟨p, q, hp, hq, by omega⟩
theorem somes_id {os : List (Option (Int × Int))} (hn : none ∉ os) : os = (somes os).map some := by
  unfold somes
  induction os with
  | nil => rfl
  | cons o os ih =>
    cases o with
    | none => exact absurd List.mem_cons_self hn
    | some p =>
      have := ih fun z => hn (List.mem_cons_of_mem _ z)
      simp
      exact this
theorem opts_pairs {H : Hp} : ∀ {vs : List V} {ws : List (Int × Int)}, OptsAt H vs (ws.map some) → PairsAt H vs ws
  | [], [], _ => trivial
  | _ :: _, _ :: _, h => ⟨h.1, opts_pairs h.2⟩
end LH
namespace LH
open PySem PySem.Spec PyProof.Rows L2
theorem ties_all {H : Hp} : ∀ {vs : List V} {ts : List Tie}, TiesAt H vs ts → AllAt (TieAt H) vs ts
  | [], [], _ => trivial
  | _ :: _, _ :: _, h => ⟨h.1, ties_all h.2⟩
def ownF (x : Int) (t : Tie) : Option (Int × Int) := if t.1 = x then some t.2 else none
theorem ownF_is {r ds : List Int} {x s b : Int} (hx : x ∈ r) (nd : r.Nodup) : (turnsOf r ds s b).filterMap (ownF x) = (spanIn r ds x s b).toList := by
  rw [← turns_one hx nd]
  generalize turnsOf r ds s b = us
  induction us with
  | nil => rfl
  | cons u us ih =>
    unfold ownF at *
    by_cases c : u.1 = x
    · simp [c, ih]
    · simp [c, ih]
end LH
namespace LH
open PySem PySem.Spec PyProof.Rows L2
theorem any_row {W : List (List Int)} {d : List Int} (h : d ∈ W) : ((W.map intsD).any fun z => PyData.eqv z (intsD d)) = true := List.any_eq_true.mpr ⟨intsD d, List.mem_map.mpr ⟨d, h, rfl⟩, eqv_self (shaped_ints d)⟩
theorem spanIn_some {r ds : List Int} {x s b : Int} {p : Int × Int} (h : spanIn r ds x s b = some p) : s ≤ p.1 ∧ p.1 < p.2 ∧ p.2 ≤ b := by
  have g := turnsS_ge ds s b (aheadOf r x)
  unfold spanIn hereT at h
  split at h
  · cases h
    refine ⟨g, by assumption, ?_⟩
    show min (dayOf ds x) b ≤ b
    omega
  · cases h
section
variable {n : Nat} {ts : List Tie} {r : List Int} {x s : Int} {o : Option Int}
theorem days_ok (run : RunOk s o) {z : Option (Int × Int)} (h : IsDays n ts r x s (belowOf o) z) : ∀ p, z = some p → SpanOk p := by
  rintro p rfl
  obtain ⟨⟨ds, u, w, e⟩, ⟨es, f, w2, e2⟩, h⟩ := h
  have h1 := spanIn_some e
  have h2 := spanIn_some e2
  have h3 := (h ds _ w e).2
  have bw := run.below
  have s0 := run.1.1
  have h1 : s ≤ p.1 ∧ p.1 < u ∧ u ≤ belowOf o := h1
  have h2 : s ≤ f ∧ f < p.2 ∧ p.2 ≤ belowOf o := h2
  have h3 : u ≤ p.2 := h3
  exact ⟨by omega, by omega, by omega⟩
theorem sure_ok (run : RunOk s o) {z : Option (Int × Int)} (h : IsSure n ts r x s (belowOf o) z) : ∀ p, z = some p → SpanOk p := by
  rintro p rfl
  obtain ⟨_, ⟨ds, u, w, e⟩, ⟨es, f, w2, e2⟩, h⟩ := h
  have h1 := spanIn_some e
  have h2 := spanIn_some e2
  have bw := run.below
  have s0 := run.1.1
  have h1 : s ≤ p.1 ∧ p.1 < u ∧ u ≤ belowOf o := h1
  have h2 : s ≤ f ∧ f < p.2 ∧ p.2 ≤ belowOf o := h2
  exact ⟨by omega, h, by omega⟩
end
def lenO' : Option (Int × Int) → Int
  | none => 0
  | some p => p.2 - p.1
theorem met_cnt {r : List Int} {x s b : Int} (hx : x ∈ r) (nd : r.Nodup) (W : List (List Int)) : (W.map fun ds => spanIn r ds x s b).map lenO' = W.map fun ds => cntOf r ds x s b := by
  rw [List.map_map]
  refine List.map_congr_left fun ds _ => ?_
  rw [cnt_span hx nd]
  show lenO' (spanIn r ds x s b) = _
  cases spanIn r ds x s b <;> rfl
def AnsD (K : PySem.W.Frag) (n : Nat) (ts : List Tie) (r : List Int) (x : Int) (H : Hp) (v : V) (q : Int × Option Int) : Prop := ∃ z, SpanOpt K H v z ∧ IsDays n ts r x q.1 (belowOf q.2) z
def AnsS (K : PySem.W.Frag) (n : Nat) (ts : List Tie) (r : List Int) (x : Int) (H : Hp) (v : V) (q : Int × Option Int) : Prop := ∃ z, SpanOpt K H v z ∧ IsSure n ts r x q.1 (belowOf q.2) z
def AnsF (n : Nat) (ts : List Tie) (r : List Int) (x : Int) (v : V) (q : Int × Option Int) : Prop := ∃ k, v = .int k ∧ IsFew n ts r x q.1 (belowOf q.2) k
def AnsM (n : Nat) (ts : List Tie) (r : List Int) (x : Int) (v : V) (q : Int × Option Int) : Prop := ∃ k, v = .int k ∧ IsMost n ts r x q.1 (belowOf q.2) k
theorem ansD_mono {K : PySem.W.Frag} {n : Nat} {ts : List Tie} {r : List Int} {x : Int} {H H' : Hp} {vs : List V} {qs : List (Int × Option Int)} (e : Same H H') (h : AllAt (AnsD K n ts r x H) vs qs) : AllAt (AnsD K n ts r x H') vs qs := AllAt.imp (fun _ _ ⟨z, h1, h2⟩ => ⟨z, h1.mono e, h2⟩) h
theorem ansS_mono {K : PySem.W.Frag} {n : Nat} {ts : List Tie} {r : List Int} {x : Int} {H H' : Hp} {vs : List V} {qs : List (Int × Option Int)} (e : Same H H') (h : AllAt (AnsS K n ts r x H) vs qs) : AllAt (AnsS K n ts r x H') vs qs := AllAt.imp (fun _ _ ⟨z, h1, h2⟩ => ⟨z, h1.mono e, h2⟩) h
theorem spanOpt_updL {K : PySem.W.Frag} {H : Hp} {l : Addr} {o : HO} {zs : List V} (hl : H l = some (.lst zs)) {v : V} : ∀ {z : Option (Int × Int)}, SpanOpt K H v z → SpanOpt K (upd H l o) v z
  | none, h => h
  | some _, ⟨a, dx, h1, h2⟩ => ⟨a, dx, h1, by rw [upd_ne (ne_of h2 hl (by intro z; cases z))]; exact h2⟩
theorem AllAt.at3 {α : Type} {P : V → α → Prop} {vs : List V} {xs : List α} {i : Nat} {x : α} (h : AllAt P vs xs) (hx : xs[i]? = some x) : ∃ v, vs[i]? = some v ∧ P v x := by
  have il := (List.getElem?_eq_some_iff.mp hx).1
  rw [← AllAt.length h] at il
  obtain ⟨y, hy, hp⟩ := AllAt.get h (List.getElem?_eq_getElem il)
  rw [hx] at hy
  cases hy
  exact ⟨_, List.getElem?_eq_getElem il, hp⟩
end LH
namespace LH
open PySem PySem.Spec PyProof.Rows L2
section
variable {K : PySem.W.Frag} {n : Nat} {ts : List Tie} {r : List Int} {x : Int} {H H' : Hp} {v : V} {q : Int × Option Int}
theorem AnsD.mono (e : Same H H') (h : AnsD K n ts r x H v q) : AnsD K n ts r x H' v q := by
  obtain ⟨z, h1, h2⟩ := h
  exact ⟨z, h1.mono e, h2⟩
theorem AnsS.mono (e : Same H H') (h : AnsS K n ts r x H v q) : AnsS K n ts r x H' v q := by
  obtain ⟨z, h1, h2⟩ := h
  exact ⟨z, h1.mono e, h2⟩
theorem AnsD.upd {l : Addr} {o : HO} {zs : List V} (hl : H l = some (.lst zs)) (h : AnsD K n ts r x H v q) : AnsD K n ts r x (upd H l o) v q := by
  obtain ⟨z, h1, h2⟩ := h
  exact ⟨z, spanOpt_updL hl h1, h2⟩
theorem AnsS.upd {l : Addr} {o : HO} {zs : List V} (hl : H l = some (.lst zs)) (h : AnsS K n ts r x H v q) : AnsS K n ts r x (upd H l o) v q := by
  obtain ⟨z, h1, h2⟩ := h
  exact ⟨z, spanOpt_updL hl h1, h2⟩
end
end LH

set_option Elab.async false
set_option linter.all false
set_option maxRecDepth 100000
set_option maxHeartbeats 4000000
/-! who may hold on a day, and the days on which one may; function values -/
namespace LH
def MayH (n : Nat) (ts : List Tie) (r : List Int) (d x : Int) : Prop := ∃ ds, Way n ts ds ∧ holderOf r ds d = x
def OnlyH (n : Nat) (ts : List Tie) (r : List Int) (d x : Int) : Prop := ∀ ds, Way n ts ds → holderOf r ds d = x
theorem holder_is {n : Nat} {r ds : List Int} {d x : Int} (hr : RowOk (n : Int) r) (hx : x ∈ r) : holderOf r ds d = x ↔ (∀ e ∈ aheadOf r x, dayOf ds e ≤ d) ∧ d < dayOf ds x := by
  rw [← hold_iff hr (.inr hx)]
  have x0 := (hr.2 x hx).1
  unfold holdT
  rw [if_neg (by omega)]
  constructor
  · intro h
    constructor
    · intro e he
      have := h (-1, e, -d) (List.mem_append_left _ (List.mem_map.mpr ⟨e, he, rfl⟩))
      unfold KeptW at this
      have this : -d ≤ dayOf ds (-1) - dayOf ds e := this
      rw [day_m1] at this
      omega
    · have := h (x, -1, d + 1) (List.mem_append_right _ (List.mem_singleton.mpr rfl))
      unfold KeptW at this
      have this : d + 1 ≤ dayOf ds x - dayOf ds (-1) := this
      rw [day_m1] at this
      omega
  · rintro ⟨h1, h2⟩ t ht
    rcases List.mem_append.mp ht with ht | ht
    · obtain ⟨e, he, rfl⟩ := List.mem_map.mp ht
      have := h1 e he
      unfold KeptW
      show -d ≤ dayOf ds (-1) - dayOf ds e
      rw [day_m1]
      omega
    · rw [List.mem_singleton.mp ht]
      unfold KeptW
      show d + 1 ≤ dayOf ds x - dayOf ds (-1)
      rw [day_m1]
      omega
theorem span_hold {n : Nat} {r ds : List Int} {d x s b : Int} (hr : RowOk (n : Int) r) (hx : x ∈ r) (h1 : s ≤ d) (h2 : d < b) : holderOf r ds d = x ↔ ∃ p, spanIn r ds x s b = some p ∧ p.1 ≤ d ∧ d < p.2 := by
  rw [holder_is hr hx]
  obtain ⟨f, hf⟩ := ex_maxL (topL_ne ds (aheadOf r x) s)
  rw [span_top (by omega) hf]
  constructor
  · rintro ⟨a1, a2⟩
    have : f ≤ d := by
      rcases List.mem_cons.mp hf.1 with h | h
      · omega
      · obtain ⟨e, he, rfl⟩ := List.mem_map.mp h
        exact a1 e he
    exact ⟨_, if_pos (by omega), this, by show d < min (dayOf ds x) b; omega⟩
  · rintro ⟨p, e, a1, a2⟩
    split at e
    · cases e
      have a1 : f ≤ d := a1
      have a2 : d < min (dayOf ds x) b := a2
      exact ⟨fun e he => Int.le_trans (hf.2 _ (List.mem_cons_of_mem _ (List.mem_map.mpr ⟨e, he, rfl⟩))) a1, by omega⟩
    · cases e
section
variable {n : Nat} {ts : List Tie} {r : List Int} {d x s b : Int}
/-- of a life's days, as told -/
structure LookP (L : Int → Prop) (s b : Int) (z : Option (Int × Int)) : Prop where
  no : z = none → ∀ d, s ≤ d → d < b → ¬ L d
  yes : ∀ p, z = some p → s ≤ p.1 ∧ p.1 < p.2 ∧ p.2 ≤ b ∧ L p.1 ∧ L (p.2 - 1) ∧ (s ≤ p.1 - 1 → ¬ L (p.1 - 1)) ∧ (p.2 < b → ¬ L p.2)
theorem look_days (hr : RowOk (n : Int) r) (hx : x ∈ r) {z : Option (Int × Int)} (h : IsDays n ts r x s b z) : LookP (fun d => MayH n ts r d x) s b z := by
  refine ⟨?_, ?_⟩
  · rintro rfl d h1 h2 ⟨ds, w, e⟩
    obtain ⟨p, ep, _⟩ := (span_hold hr hx h1 h2).mp e
    rw [h ds w] at ep
    cases ep
  · rintro p rfl
    obtain ⟨⟨d1, u, w1, e1⟩, ⟨d2, f, w2, e2⟩, h3⟩ := h
    have a1 := spanIn_some e1
    have a2 := spanIn_some e2
    have a3 := (h3 d1 _ w1 e1).2
    have a1 : s ≤ p.1 ∧ p.1 < u ∧ u ≤ b := a1
    have a2 : s ≤ f ∧ f < p.2 ∧ p.2 ≤ b := a2
    have a3 : u ≤ p.2 := a3
    refine ⟨a1.1, by omega, a2.2.2, ⟨d1, w1, (span_hold hr hx a1.1 (by omega)).mpr ⟨_, e1, Int.le_refl _, a1.2.1⟩⟩, ⟨d2, w2, (span_hold (s := s) (b := b) hr hx (by omega) (by omega)).mpr ⟨_, e2, by show f ≤ p.2 - 1; omega, by show p.2 - 1 < p.2; omega⟩⟩, ?_, ?_⟩
    · rintro h1 ⟨ds, w, e⟩
      obtain ⟨q, eq, q1, q2⟩ := (span_hold (b := b) hr hx h1 (by omega)).mp e
      have := (h3 ds q w eq).1
      omega
    · rintro h1 ⟨ds, w, e⟩
      obtain ⟨q, eq, q1, q2⟩ := (span_hold (s := s) hr hx (by omega) h1).mp e
      have := (h3 ds q w eq).2
      omega
theorem look_sure (hr : RowOk (n : Int) r) (hx : x ∈ r) {z : Option (Int × Int)} (h : IsSure n ts r x s b z) : LookP (fun d => OnlyH n ts r d x) s b z := by
  refine ⟨?_, ?_⟩
  · rintro rfl d h1 h2 all
    rcases h with ⟨ds, w, e⟩ | ⟨ds, es, p, q, w1, w2, e1, e2, hle⟩
    · obtain ⟨p, ep, _⟩ := (span_hold hr hx h1 h2).mp (all ds w)
      rw [e] at ep
      cases ep
    · obtain ⟨p', ep, p1, p2⟩ := (span_hold hr hx h1 h2).mp (all ds w1)
      obtain ⟨q', eq, q1, q2⟩ := (span_hold hr hx h1 h2).mp (all es w2)
      rw [e1] at ep
      cases ep
      rw [e2] at eq
      cases eq
      omega
  · rintro p rfl
    obtain ⟨h0, ⟨d1, u, w1, e1⟩, ⟨d2, f, w2, e2⟩, h3⟩ := h
    have a1 := spanIn_some e1
    have a2 := spanIn_some e2
    have a1 : s ≤ p.1 ∧ p.1 < u ∧ u ≤ b := a1
    have a2 : s ≤ f ∧ f < p.2 ∧ p.2 ≤ b := a2
    refine ⟨a1.1, h3, a2.2.2, fun ds w => ?_, fun ds w => ?_, ?_, ?_⟩
    · obtain ⟨q, e, q1, q2⟩ := h0 ds w
      exact (span_hold hr hx a1.1 (by omega)).mpr ⟨q, e, q1, by omega⟩
    · obtain ⟨q, e, q1, q2⟩ := h0 ds w
      exact (span_hold (s := s) (b := b) hr hx (by omega) (by omega)).mpr ⟨q, e, by omega, by omega⟩
    · intro h1 all
      obtain ⟨q, eq, q1, q2⟩ := (span_hold (b := b) hr hx h1 (by omega)).mp (all d1 w1)
      rw [e1] at eq
      cases eq
      have q1 : p.1 ≤ p.1 - 1 := q1
      omega
    · intro h1 all
      obtain ⟨q, eq, q1, q2⟩ := (span_hold (s := s) hr hx (by omega) h1).mp (all d2 w2)
      rw [e2] at eq
      cases eq
      have q2 : p.2 < p.2 := q2
      omega
end
end LH
namespace LH
open PySem PySem.Spec PyProof.Rows L2
theorem AllAt.to_bools {vs : List V} {bs : List Bool} (h : AllAt (fun v i => v = V.bl i) vs bs) : vs = bs.map V.bl := by
  induction bs generalizing vs with
  | nil => cases vs with
    | nil => rfl
    | cons v vs => exact h.elim
  | cons n ns ih => cases vs with
    | nil => exact h.elim
    | cons v vs =>
      obtain ⟨h1, h2⟩ := h
      rw [List.map_cons, ← ih h2, h1]
section
variable {P : Program} {w : World} {K : PySem.W.Frag} {mg : Str → Option Value} {base : Heap}
/-- a def that lets nothing out, at its address -/
structure OwnA (P : Program) (w : World) (K : PySem.W.Frag) (mg : Str → Option Value) (base : Heap) (f : Addr) (ps : List Str) (k : Nat) (sp : Sp) : Prop where
  ex : ∃ fd : FuncData, FnOk P w K mg base CX0 k f fd ps sp ∧ PySem.W.keepIn K (.ref f) = true ∧ Binds K fd ps []
theorem Own.addr {x : Str} {ps : List Str} {k : Nat} {sp : Sp} (C : Own P w K mg base x ps k sp) : ∃ f, OwnA P w K mg base f ps k sp ∧ mg x = some (.ref f) := by
  obtain ⟨f, fd, F, hm, hk, hb⟩ := C.ex
  exact ⟨f, ⟨fd, F, hk, hb⟩, hm⟩
end
/-- a call through a name that holds one of two defs -/
def tVia2 (i : Nat) (f1 f2 : Addr) (sp1 sp2 : Sp) (t : TA) : TE := fun σ H Q => (σ[i]? = some (some (.ref f1)) ∧ tCall sp1 [] E0 t σ H Q) ∨ (σ[i]? = some (some (.ref f2)) ∧ tCall sp2 [] E0 t σ H Q)
section
variable {X : Cx}
theorem pe_fn {x : Str} {f : Addr} {pos : Pos} (hm : X.mg x = some (.ref f)) (hg : Gl X x := by rfl) (hd : (x == ("__debug__" : Str)) = false := by decide) : PE X (.Name x pos) (tC (.ref f)) := pe_glob hg hm rfl hd
theorem via1 {i : Nat} {f : Addr} {x : Str} {ps : List Str} {k : Nat} {sp : Sp} {e : Expr} {es : List Expr} {p pos : Pos} {t : TA} (C : OwnA X.prog X.w X.K X.mg X.base f ps k sp) (hr : Room k X.A) (hv : PE X (.Name x p) (tVar i)) (ha : PA X (e :: es) t)
    (he : starEach (e :: es) X.env = (false, eval e X.env) :: starEach es X.env) (hpl : (backTo pos (starEach es X.env)).any (·.1) = false)
    {pins : List (Addr × Obj)} {s : Shared} {σ : L2.St} {H : Hp} {Q : VK} (I : L2.Inv X pins σ H s) (hσ : σ[i]? = some (some (.ref f))) (h : tCall sp [] E0 t σ H Q) :
    wpAny (model X.prog X.w) X.A (eval (.Call (.Name x p) (e :: es) [] pos) X.env) (EP X pins σ Q) X.xe s := by
  obtain ⟨fd, F, hk, hb⟩ := C.ex
  refine wpAny_Call_Name_kw (thn (hv.run pins s σ H (fun v H' => v = V.ref f ∧ H' = H) I ⟨_, hσ, rfl, rfl⟩) fun u s1 ⟨v, H1, I1, rv, ev, eH⟩ => ?_)
  subst ev
  subst eH
  obtain rfl : u = Value.ref f := rv
  refine PySem.W.callWith_K (h₀ := X.base) I1.ok.mod.kin hk (thn (ha.run pos pins s1 σ H1 _ I1 h) fun us s2 ⟨vs, H2, I2, r, q⟩ => ⟨I2.kIn, ?_⟩) he hpl
  exact run_fn F hr hb .nil pass0 I2 r q
theorem pe_via2 {i : Nat} {f1 f2 : Addr} {x : Str} {ps1 ps2 : List Str} {k1 k2 : Nat} {sp1 sp2 : Sp} {e : Expr} {es : List Expr} {p pos : Pos} {t : TA} (C1 : OwnA X.prog X.w X.K X.mg X.base f1 ps1 k1 sp1) (C2 : OwnA X.prog X.w X.K X.mg X.base f2 ps2 k2 sp2) (h1 : Room k1 X.A) (h2 : Room k2 X.A)
    (hv : PE X (.Name x p) (tVar i)) (ha : PA X (e :: es) t) (he : starEach (e :: es) X.env = (false, eval e X.env) :: starEach es X.env := by rfl) (hpl : (backTo pos (starEach es X.env)).any (·.1) = false := by rfl) :
    PE X (.Call (.Name x p) (e :: es) [] pos) (tVia2 i f1 f2 sp1 sp2 t) := by
  refine ⟨fun pins s σ H Q I h => ?_⟩
  rcases h with ⟨hσ, h⟩ | ⟨hσ, h⟩
  · exact via1 C1 h1 hv ha he hpl I hσ h
  · exact via1 C2 h2 hv ha he hpl I hσ h
end
end LH

set_option Elab.async false
set_option linter.all false
set_option maxRecDepth 100000
set_option maxHeartbeats 4000000
/-! try with several except clauses that each name what they caught -/
namespace L2N
open PySem PySem.Spec PyProof.Rows L2
abbrev TSu := Addr → Value → Option Addr → TS
def wNest (K : PySem.W.Frag) (Wo : WX) (D : Ends) : List (Value × Nat × TSu) → WX
  | [] => Wo
  | (c, i, ts) :: r => wAs K c i ts (wNest K Wo D r) D
inductive HdAs (X : Cx) : List ExceptHandler → List (Value × Nat × TSu) → Prop
  | nil : HdAs X [] []
  | cons {x n : Str} {c : Value} {i : Nat} {ts : TSu} {b0 : Stmt} {su : List Stmt} {np hp : Pos} {hs : List ExceptHandler} {l : List (Value × Nat × TSu)} (hi : X.N[i]? = some n) (hk : X.env.kindOf n = some .local) (hc : Names X x c)
      (run : ∀ (a : Addr) (oe : Obj) (cls : Value) (d : Option Addr) (pn : List (Addr × Obj)), Zn cls d oe → (∃ vs, oe.data = .fields vs) → PSs (X.suite a ((a, oe) :: pn)) (b0 :: su) (ts a cls d)) (r : HdAs X hs l) :
      HdAs X (.ExceptHandler (some (.Name x np)) (some n) (b0 :: su) hp :: hs) ((c, i, ts) :: l)
section
variable {X : Cx} {body : List Stmt} {h1 : ExceptHandler} {hs : List ExceptHandler} {l : List (Value × Nat × TSu)} {pos : Pos} {tb : WX → TS} {Wo : WX}
theorem ps_try_nest (hst : X.stack = X.env :: X.outer) (hfm : X.env.frame = some X.env.locals) (hN : X.N.Nodup) (tk : Takes X Wo)
    (hb : ∀ (W : WX) (pn : List (Addr × Obj)) (xe : Value → Shared → Prop), Takes (X.tr pn xe) W → PassesOwn (model X.prog X.w) X.A X.env xe → PSs (X.tr pn xe) body (tb W))
    (hh : HdAs X (h1 :: hs) l) : PS X (.Try body (h1 :: hs) [] [] pos) (fun D σ H => tb (wNest X.K Wo D l) D σ H) := by
  constructor
  intro pins s σ H D I h
  have ok := I.ok
  have fr : X.A.frames = some (X.env :: X.outer) := ok.frames.trans (by rw [hst])
  refine wpAny_Try_except ?_
  refine wpAny_mono ((hb (wNest X.K Wo D l) (X.pn ++ pins) (fun e t1 => wpAny (model X.prog X.w) X.A (noteFrame e X.env) (fun _ t2 => wpAny (model X.prog X.w) X.A (setFlight e none) (fun _ t3 => wpAny (model X.prog X.w) X.A (handleBy e X.env (h1 :: hs)) (SP X pins D) X.xe t3) X.xe t2) X.xe t1)
    (fun u t xx => ?_) PassesOwn.looking).run [] s σ H D (I.toTry _) h) (fun f t hsp => ?_) (fun _ _ z => z)
  · obtain ⟨a, B, sI, pins', σ1, H1, cls, d, rfl, J0, nb, up, sky, na, os, ag, w⟩ := xx
    have J : Inv X pins σ1 H1 sI := J0.ofTry ok
    have sk : Sky B (X.env :: X.outer) a (Zn cls d) X.env.locals t.heap := hst ▸ sky
    show wpAny (model X.prog X.w) X.A (noteFrame (.ref a) X.env) _ _ _
    refine Sky.land Zn.steady fr hfm sk fun g fl up2 => ?_
    have Jg : Inv X pins σ1 H1 { t with heap := g } := J.landed nb fl.1 (up.trans up2) os ag
    obtain ⟨og, vg, eg, zg, dg⟩ := fl.there
    have out : a ∉ frs (X.env :: X.outer) := fun hm => by
      obtain ⟨_, o2, e2, no⟩ := fl.2.2.1.mem hm
      rw [eg] at e2
      cases e2
      exact no _ dg
    have nL : a ≠ X.env.locals := fun z => out (List.mem_filterMap.mpr ⟨X.env, List.mem_cons_self, by rw [hfm, z]⟩)
    have nF : a ∉ X.fs := fun hm => by
      obtain ⟨e, he, q⟩ := List.mem_filterMap.mp hm
      exact out (List.mem_filterMap.mpr ⟨e, List.mem_cons_of_mem _ he, q⟩)
    have Sg := Jg.suite eg dg na nL nF
    have go : ∀ {hs' : List ExceptHandler} {l' : List (Value × Nat × TSu)}, HdAs X hs' l' → wNest X.K Wo D l' cls d σ1 H1 → wpAny (model X.prog X.w) X.A (handleBy (.ref a) X.env hs') (SP X pins D) X.xe { t with heap := g } := by
      intro hs' l' hk
      induction hk with
      | nil =>
        intro w
        refine wpAny_handleBy_nil ?_
        obtain ⟨_, _, _, oe, vs, T, oT, ts', he, hz, hd, h1', hr⟩ := id fl
        unfold PySem.passOn
        refine wpAny_bind (wpAny_field he hd h1' ?_)
        rw [if_neg (show ¬ ((Value.ref T == Value.none) = true) by simp)]
        have fin : wpAny (model X.prog X.w) X.A (setFlight (.ref a) X.env.frame) (fun _ t4 => wpAny (model X.prog X.w) X.A (throw (.ref a) : Sem Flow) (SP X pins D) X.xe t4) X.xe { t with heap := g } := by
          rw [hfm]
          exact HandSPX.setFlight_upZ fl fun g4 hh4 up4 => wpAny_throw (tk _ _ ⟨a, B, sI, pins, σ1, H1, cls, d, rfl, J, nb, (up.trans up2).trans up4, .inr (.inr (by rw [hst]; exact hh4)), na, os, ag, w⟩)
        first
          | exact wpAny_bind (wpAny_pure (wpAny_bind fin))
          | exact wpAny_bind fin
      | @cons x n c i ts b0 su np hp hs2 l2 hi hk hc run r ih =>
        intro w
        obtain ⟨b, b1, yes, no⟩ := w
        have hloc : Loc X.env.scope n := .inl hk
        refine wpAny_handleBy_cons (codeAny_handlers_test ?_) (by intro q; cases q)
        have LT : PySem.W.Looks (model X.prog X.w) g (typeOf (.ref a)) cls := fun _ _ _ _ kk q => wpAny_typeOf_ref (kk _ _ eg) (by rw [zg.1]; exact q)
        have LM := PySem.W.exm_one (M := model X.prog X.w) (Jg.kIn) LT b1
        have look : ∀ {Q E : Value → Shared → Prop}, Q c { t with heap := g } → wpAny (model X.prog X.w) (X.A.mark (some (.ref a))) (eval (.Name x np) X.env) Q E { t with heap := g } := fun {Q E} q => by
          obtain ⟨gl, db, hm | ⟨hm, hv, nn⟩⟩ := hc
          · exact ld_glob (X := X.suite a ((a, og) :: (X.pn ++ pins))) Sg gl hm q db
          · exact ld_blt (X := X.suite a ((a, og) :: (X.pn ++ pins))) Sg gl hm hv q nn db
        refine look (LM.here ?_)
        cases b with
        | false => exact ih (no rfl)
        | true =>
          refine codeAny_handlers_suite_as ?_
          refine HandSPX.lands_againZ fl fun g4 fl4 up4 => ?_
          have J4 : Inv X pins σ1 H1 { t with heap := g4 } := J.landed nb fl4.1 ((up.trans up2).trans up4) os ag
          obtain ⟨o4, v4, e4, z4, d4⟩ := fl4.there
          refine store_ok (X := X.suite a ((a, o4) :: (X.pn ++ pins))) (v := .ref a) (J4.suite e4 d4 na nL nF) hN hi hloc rfl (fun t5 S5 => ?_) (.inr hk)
          refine wpAny_mono ((run a o4 cls d (X.pn ++ pins) z4 ⟨_, d4⟩).run [] t5 _ H1 _ S5 (yes rfl a na)) (fun f t6 hsp => ?_) (fun _ _ z => z.elim)
          have fin : ∀ {σ6 : St} {H6 : Hp} {Q : Shared → Prop}, Inv (X.suite a ((a, o4) :: (X.pn ++ pins))) [] σ6 H6 t6 → (∀ t7, Inv X pins (σ6.set i none) H6 t7 → Q t7) → wpAny (model X.prog X.w) X.A (do bindName X.env n .none; unbindBehindTheSuite X.env n hp) (fun _ t7 => Q t7) X.xe t6 := fun {σ6 H6 Q} S6 hq => gone_ok (S6.unsuite ok) hN hi hk hq
          cases f with
          | next =>
            obtain ⟨σ6, H6, S6, q6⟩ := hsp
            exact fin S6 fun t7 J7 => ⟨_, _, J7, q6⟩
          | brk =>
            obtain ⟨σ6, H6, S6, q6⟩ := hsp
            exact fin S6 fun t7 J7 => ⟨_, _, J7, q6⟩
          | cont =>
            obtain ⟨σ6, H6, S6, q6⟩ := hsp
            exact fin S6 fun t7 J7 => ⟨_, _, J7, q6⟩
          | ret u =>
            obtain ⟨v6, σ6, H6, S6, r6, q6⟩ := hsp
            exact fin S6 fun t7 J7 => ⟨_, _, _, J7, r6, q6⟩
    exact go hh w
  · cases f with
    | next =>
      obtain ⟨σ2, H2, J2, q⟩ := hsp
      exact wpAny_execs_nil ⟨σ2, H2, J2.ofTry ok, q⟩
    | brk =>
      obtain ⟨σ2, H2, J2, q⟩ := hsp
      exact ⟨σ2, H2, J2.ofTry ok, q⟩
    | cont =>
      obtain ⟨σ2, H2, J2, q⟩ := hsp
      exact ⟨σ2, H2, J2.ofTry ok, q⟩
    | ret u =>
      obtain ⟨v, σ2, H2, J2, r, q⟩ := hsp
      exact ⟨v, σ2, H2, J2.ofTry ok, r, q⟩
end
end L2N

set_option Elab.async false
set_option linter.all false
set_option maxRecDepth 100000
set_option maxHeartbeats 4000000
/-! str(x), repr(x), bool(x) by x's own defs; x in a list of own things -/
namespace LH
open PySem PySem.Spec PyProof.Rows L2
theorem valsR {ps : List Addr} {us : List Value} (r : Vals (ps.map V.ref) us) : us = ps.map Value.ref := by
  induction ps generalizing us with
  | nil => cases r; rfl
  | cons p ps ih =>
    cases r with
    | cons r1 r2 =>
      have e : _ = Value.ref p := r1
      rw [List.map_cons, e, ih r2]
/-- an own def of a class, called with what it is handed -/
theorem met_run {X : Cx} {f : Addr} {fd : FuncData} {ps : List Str} {k : Nat} {sp : Sp} (F : FnOk X.prog X.w X.K X.mg X.base (L2N.CX X.prog X.w) k f fd ps sp) (hb : Binds X.K fd ps []) {A : Around} (hr : Room k A) (hfr : A.frames = X.A.frames) {pins : List (Addr × Obj)} {s : Shared} {σ : L2.St} {H : Hp} {vs : List V} {us : List Value} {Q : VK}
    (I : L2.Inv X pins σ H s) (r : Vals vs us) (h : sp vs H Q E0) : wpAny (model X.prog X.w) A (call (.ref f) us) (fun v s' => ∃ z H', L2.Inv X pins σ H' s' ∧ RelV z v ∧ Q z H') X.xe s := by
  have e0 : Env0 X.prog X.w X.K X.mg X.base A X.stack s H := by
    have e := I.env0
    exact ⟨by rw [hfr]; exact e.frames, e.mod, e.bs, e.bsz, e.funs, e.frf, e.hok, e.bare⟩
  have hl := F.len _ _ _ _ h
  refine wpAny_call (codeAny_mono (F.run A X.stack s H ⟨us, []⟩ us vs _ E0 hr e0 (by
    have := hb s us I.kIn (by rw [List.append_nil, ← r.length]; exact hl)
    simpa using this) r h) fun r s' hq => ?_)
  cases r with
  | error e =>
    obtain ⟨_, _, _, _, _, _, _, _, _, _, _, _, z⟩ := hq
    exact z.elim
  | ok fl =>
    cases fl with
    | ret w =>
      obtain ⟨z, H', I', rz, q⟩ := I.after hq
      exact ⟨z, H', I', rz, q⟩
    | next => exact False.elim hq
    | brk => exact False.elim hq
    | cont => exact False.elim hq
def rStrO (C : Addr) (sp : Sp) : List V → Hp → VK → Prop := fun vs H Q => ∃ a dx fs, vs = [V.ref a] ∧ H a = some (.ins C dx fs) ∧ sp [.ref a] H (fun v H' => ∃ y : Str, v = .str y ∧ Q (.str y) H') E0
theorem strO {X : Cx} (K : PySem.W.Frag) {x : Str} {ps : List Str} {k : Nat} {sp : Sp} (C : MetX X.prog X.w X.K X.mg X.base x "__str__" ps k sp) (hr : Room (k + 2) X.A) (hK : X.K = K := by rfl) : CallR X (.type "str") (rStrO (He.ga K x) sp) := by
  subst hK
  intro pins s σ H vs us Q I r h
  obtain ⟨a, dx, fs, rfl, ha, q⟩ := h
  obtain ⟨u, rfl, ru⟩ := vals1 r
  obtain rfl : u = Value.ref a := ru
  obtain ⟨f, fd, hc, hm, F, hb⟩ := C.ex
  obtain ⟨mA, J, _⟩ := ins_get I.hok ha
  obtain ⟨od, J, _⟩ := J.look
  refine PySem.W.kso_call hr.in1.in1.units0 I.kIn J hm.at_ hm.fn ?_
  refine wpAny_mono (met_run F hb hr.in1.in1 rfl I (.cons (show RelV (V.ref a) (Value.ref a) from rfl) .nil) q) (fun v s' z => ?_) fun _ _ x => x
  obtain ⟨z, H', I', rz, y, ez, q⟩ := z
  subst ez
  obtain ⟨t, rfl⟩ := rz
  exact ⟨.str y, H', I', ⟨t, rfl⟩, q⟩
theorem reprO {X : Cx} (K : PySem.W.Frag) {x : Str} {ps : List Str} {k : Nat} {sp : Sp} (C : MetX X.prog X.w X.K X.mg X.base x "__repr__" ps k sp) (hr : Room (k + 1) X.A) (hK : X.K = K := by rfl) : CallR X (.builtin "repr") (rStrO (He.ga K x) sp) := by
  subst hK
  intro pins s σ H vs us Q I r h
  obtain ⟨a, dx, fs, rfl, ha, q⟩ := h
  obtain ⟨u, rfl, ru⟩ := vals1 r
  obtain rfl : u = Value.ref a := ru
  obtain ⟨f, fd, hc, hm, F, hb⟩ := C.ex
  obtain ⟨mA, J, _⟩ := ins_get I.hok ha
  obtain ⟨od, J, _⟩ := J.look
  obtain ⟨m, hF⟩ := I.fr
  refine PySem.W.repr_K hr.in1.units0 hF I.ok.mod.kin J hm.at_ hm.fn ?_
  refine wpAny_mono (met_run F hb hr.in1 rfl I (.cons (show RelV (V.ref a) (Value.ref a) from rfl) .nil) q) (fun v s' z => ?_) fun _ _ x => x
  obtain ⟨z, H', I', rz, y, ez, q⟩ := z
  subst ez
  obtain ⟨t, rfl⟩ := rz
  exact ⟨.str y, H', I', ⟨t, rfl⟩, q⟩
/-- the truth of a thing with an own __len__ and no __bool__ -/
theorem truthy_len {X : Cx} {x : Str} {ps : List Str} {k : Nat} {sp : Sp} (C : MetX X.prog X.w X.K X.mg X.base x "__len__" ps k sp) {A : Around} (hr : Room (k + 1) A) (hfr : A.frames = X.A.frames) (nb : PySem.W.findIn X.K (.ref (He.ga X.K x)) "__bool__" = some none) {pins : List (Addr × Obj)} {s : Shared} {σ : L2.St} {H : Hp} {a dx : Addr} {fs : List (Str × V)} {Q : VK}
    (I : L2.Inv X pins σ H s) (ha : H a = some (.ins (He.ga X.K x) dx fs)) (h : sp [.ref a] H (fun v H' => ∃ n : Nat, v = .int n ∧ (n : Int) < 2 ^ 63 ∧ Q (.bl ((n : Int) != 0)) H') E0) :
    wpAny (model X.prog X.w) A (truthy (.ref a)) (fun b s' => ∃ H', L2.Inv X pins σ H' s' ∧ Q (.bl b) H') X.xe s := by
  obtain ⟨f, fd, hc, hm, F, hb⟩ := C.ex
  obtain ⟨mA, J, _⟩ := ins_get I.hok ha
  obtain ⟨od, J, _⟩ := J.look
  have key : wpAny (model X.prog X.w) A (runValue (.builtin "len" ⟨[.ref a], []⟩)) (fun r s' => ∃ (n : Int) (t : Tok) (H' : Hp), r = .int n t ∧ L2.Inv X pins σ H' s' ∧ Q (.bl (n != 0)) H') X.xe s := by
    refine wpAny_runValue (codeAny_builtin entry_len ?_)
    rw [Around.under_plainId plain_len _]
    unfold Builtin.«len»
    refine wpAny_bind (m := oneArg "len" _) (wpAny_pure ?_)
    refine wpAny_bind (m := callSpecial? (.ref a) (PySem.Str.ofString "__len__")) (PySem.W.special_fn I.kIn J hm.at_ (beq_iff_eq.mp hm.fn) ?_)
    refine wpAny_mono (met_run F hb hr.in1 hfr I (.cons (show RelV (V.ref a) (Value.ref a) from rfl) .nil) h) (fun v s' z => ?_) fun _ _ x => x
    obtain ⟨z, H', I', rz, n, ez, lt, q⟩ := z
    subst ez
    obtain ⟨t, rfl⟩ := rz
    refine wpAny_bind (wpAny_holding (wpAny_pure ?_))
    refine wpAny_bind (wpAny_letGo ?_)
    show wpAny _ _ (if ((n : Nat) : Int) < 0 then _ else _) _ _ _
    rw [if_neg (by omega)]
    show wpAny _ _ (if ((n : Nat) : Int) ≥ 2 ^ 63 then _ else _) _ _ _
    rw [if_neg (by omega)]
    exact wpAny_bind (wpAny_mkInt (wpAny_pure ⟨_, _, H', rfl, I'.tok _, q⟩))
  have hsp : ∀ {Q' : Option Value → Shared → Prop}, Q' (some (.ref f)) s → wpAny (model X.prog X.w) A (specialOf (.ref a) "__len__") Q' X.xe s := fun q => by
    unfold specialOf
    exact wpAny_bind (J.type.here ((PySem.W.looks_findIn I.kIn hm.at_).here q))
  unfold truthy
  first
    | refine wpAny_bind (DSub.special_no (name := Str.ofString "__bool__") I.kIn J nb ?_)
    | refine wpAny_bind (wpAny_pure (wpAny_bind (DSub.special_no (name := Str.ofString "__bool__") I.kIn J nb ?_)))
  first
    | refine wpAny_bind (hsp ?_)
    | refine wpAny_bind (wpAny_pure (wpAny_bind (hsp ?_)))
  first
    | exact wpAny_bind (wpAny_mono key (fun r s' h' => by obtain ⟨n, t, H', rfl, I', hq⟩ := h'; exact wpAny_pure ⟨H', I', hq⟩) fun _ _ e => e)
    | exact wpAny_bind (wpAny_pure (wpAny_bind (wpAny_mono key (fun r s' h' => by obtain ⟨n, t, H', rfl, I', hq⟩ := h'; exact wpAny_pure ⟨H', I', hq⟩) fun _ _ e => e)))
def rBoolO (C : Addr) (sp : Sp) : List V → Hp → VK → Prop := fun vs H Q => ∃ a dx fs, vs = [V.ref a] ∧ H a = some (.ins C dx fs) ∧ sp [.ref a] H (fun v H' => ∃ n : Nat, v = .int n ∧ (n : Int) < 2 ^ 63 ∧ Q (.bl ((n : Int) != 0)) H') E0
theorem boolO {X : Cx} (K : PySem.W.Frag) {x : Str} {ps : List Str} {k : Nat} {sp : Sp} (C : MetX X.prog X.w X.K X.mg X.base x "__len__" ps k sp) (hr : Room (k + 3) X.A) (nb : PySem.W.findIn X.K (.ref (He.ga X.K x)) "__bool__" = some none) (hK : X.K = K := by rfl) : CallR X (.type "bool") (rBoolO (He.ga K x) sp) := by
  subst hK
  intro pins s σ H vs us Q I r h
  obtain ⟨a, dx, fs, rfl, ha, q⟩ := h
  obtain ⟨u, rfl, ru⟩ := vals1 r
  obtain rfl : u = Value.ref a := ru
  refine callType_codes (T := "bool") (Bi := Builtin.«object.__init__») (Q₁ := fun r s₁ => ∃ b, r = .bool b ∧ EP X pins σ Q r s₁) PySem.F.called_bool (PySem.F.typeCall_bool_1 _) PySem.F.entry_object_init ?_ ?_
  · refine codeAny_of_tree ?_
    show wpAny _ X.A.in1.in1 (do checkBuiltinCall "bool.__new__" ⟨[.type "bool", .ref a], []⟩; again (.builtin "bool.__new__" ⟨[.type "bool", .ref a], []⟩)) _ _ s
    refine wpAny_bind (wpAny_of_eq (PySem.F.newCall_bool_1 _) (wpAny_pure ⟨plainId_quiet (by decide +kernel) _, codeAny_builtin PySem.F.entry_bool_new ?_⟩))
    rw [Around.under_plainId (by decide +kernel) _]
    unfold Builtin.«bool.__new__»
    refine wpAny_bind (wpAny_of_eq (show isType (.type "bool") = pure true from rfl) ?_)
    refine wpAny_bind (wpAny_of_eq PySem.F.conv_sub_bool ?_)
    refine wpAny_bind (wpAny_of_eq (a := [.ref a]) rfl ?_)
    refine wpAny_bind (wpAny_mono (truthy_len C hr.in1.in1 rfl nb I ha q) (fun b s' z => ?_) fun _ _ x => x)
    obtain ⟨H', I', q⟩ := z
    exact wpAny_pure ⟨b, rfl, .bl b, H', I', rfl, q⟩
  · rintro obj s₁ ⟨b, rfl, hq⟩
    exact ⟨PySem.typeIs_bool _ _, PySem.F.args_object_init_2 _ _, object_init_meets PySem.F.called_bool.init.lookup PySem.F.called_bool.made (by decide) X.prog X.w X.A.in1 _ s₁ ⟨PySem.typeIs_bool _ _, rfl, hq⟩⟩
/-! x in a list of own things -/
section
variable {X : Cx} {x : Str} {ps : List Str} {k : Nat} {sp : Sp}
/-- == inside a builtin: two things of one class by its own __eq__, which leaves all as it stands -/
theorem eqb_own (C : MetX X.prog X.w X.K X.mg X.base x "__eq__" ps k sp) {A : Around} (hr : Room k A) (hfr : A.frames = X.A.frames) {pins : List (Addr × Obj)} {s : Shared} {σ : L2.St} {H : Hp} {a b dx dy : Addr} {fs gs : List (Str × V)} {e : Bool} (I : L2.Inv X pins σ H s)
    (ha : H a = some (.ins (He.ga X.K x) dx fs)) (hb : H b = some (.ins (He.ga X.K x) dy gs)) (ty : TyX X.K H (.ref b) (.ref (He.ga X.K x))) (nf : PySem.W.notFirst X.K (He.ga X.K x) (.ref (He.ga X.K x)) = true) (hs : a = b → e = true) (h : ∀ Q : VK, Q (.bl e) H → sp [.ref a, .ref b] H Q E0) :
    wpAny (model X.prog X.w) A (eqBool (.ref a) (.ref b)) (fun r s' => r = e ∧ L2.Inv X pins σ H s') X.xe s := by
  by_cases hab : a = b
  · subst hab
    exact SeqAt.EqAt.same (A := A) (s := s) (.ref a) X.prog X.w X.xe _ ⟨(hs rfl).symm, I⟩
  · refine GQ.eqBool_refG hab (wpAny_mono (rc_own (Q := fun v H' => v = .bl e ∧ H' = H) C hr hfr I (show RelV (V.ref b) (Value.ref b) from rfl) ha ty nf (h _ ⟨e, rfl, rfl, rfl⟩)) (fun r s' q => ?_) fun _ _ x => x)
    obtain ⟨b', H', er, I', eb, eH⟩ := q
    cases eb
    subst eH
    exact ⟨_, er, rfl, I'⟩
end
section
variable {prog : Program} {w : World} {A : Around} {R : Result → Shared → Prop}
open AutoSeq1 (wpAny_loadPart')
open MeetsSeq in
theorem contains_loopG (l : Addr) (x : Value) (items : Array Value) (I : Shared → Prop) (e : Nat → Bool) (b : Bool) (hl : ∀ s, I s → s.heap.IsList l items)
    (turn : ∀ (i : Nat) (h : i < items.size) s, I s → wpAny (model prog w) A.in1 (eqBool items[i] x) (fun r s' => r = e i ∧ I s') (fun e s' => R (.error e) s') s)
    (hb1 : ∀ i, i < items.size → e i = true → b = true) (hb2 : (∀ i, i < items.size → e i = false) → b = false) (fin : ∀ s, I s → R (.ok (.ret (.bool b))) s) (k : Nat) :
    ∀ i : Nat, items.size - i = k → (∀ j, j < i → e j = false) → ∀ s, I s →
      wpAny (model prog w) A.in1 (Builtin.«list.__contains__.loop» ⟨[.ref l, x, rawInt i], []⟩) (GQ.FinOf prog w A R) (fun e s' => R (.error e) s') s := by
  induction k with
  | zero =>
    intro i hk hno s h
    obtain ⟨⟨cls, dd, data, sl⟩, ho, hc, n, hd⟩ := hl _ h
    simp only at hc hd
    subst hc hd
    have hR : R (.ok (.ret (.bool b))) s := fin s h
    rw [hb2 fun j hj => hno j (by omega)] at hR
    obtain ⟨hp, g, d, tk, os⟩ := s
    wp_walk using wpAny_loadPart' ho
    have hi : items[((i : Nat) : Int).toNat]? = none := by simp; omega
    rw [hi]
    wp_walk
    exact hR
  | succ k ih =>
    intro i hk hno s h
    obtain ⟨⟨cls, dd, data, sl⟩, ho, hc, n, hd⟩ := hl _ h
    simp only at hc hd
    subst hc hd
    have hlt : i < items.size := by omega
    have ht := turn i hlt s h
    obtain ⟨hp, g, d, tk, os⟩ := s
    wp_walk using wpAny_loadPart' ho
    have hi : items[((i : Nat) : Int).toNat]? = some items[i] := by simp [hlt]
    rw [hi]
    refine wpAny_bind (wpAny_mono ht (fun r s2 h2 => ?_) fun _ _ x => x)
    obtain ⟨hr, h2⟩ := h2
    subst hr
    cases hb : e i with
    | true =>
      have hR := fin s2 h2
      rw [hb1 i hlt hb] at hR
      obtain ⟨hp2, g2, d2, tk2, os2⟩ := s2
      wp_walk
      exact hR
    | false =>
      have hc : ((i : Int) + 1) = ((i + 1 : Nat) : Int) := by omega
      have hrec := ih (i + 1) (by omega) (fun j hj => (by
        rcases Nat.lt_or_ge j i with q | q
        · exact hno j q
        · rw [show j = i by omega]
          exact hb)) s2 h2
      obtain ⟨hp2, g2, d2, tk2, os2⟩ := s2
      wp_walk
      rw [hc]
      exact ⟨plainId_quiet plain_contains_loop _, codeAny_builtin entry_contains_loop (by
        rw [Around.under_plainId plain_contains_loop _]
        exact hrec)⟩
open MeetsSeq SeqRoads2 in
theorem notIn_listG {E : Value → Shared → Prop} {Q : Value → Shared → Prop} {s : Shared} (l : Addr) (x : Value) (items : Array Value) (I : Shared → Prop) (e : Nat → Bool) (b : Bool) (hl : ∀ s, I s → s.heap.IsList l items)
    (turn : ∀ (i : Nat) (h : i < items.size) s, I s → wpAny (model prog w) A.in1 (eqBool items[i] x) (fun r s' => r = e i ∧ I s') E s)
    (hb1 : ∀ i, i < items.size → e i = true → b = true) (hb2 : (∀ i, i < items.size → e i = false) → b = false) (fin : ∀ s, I s → Q (.bool (!b)) s) (h : I s) : wpAny (model prog w) A (compareOp .NotIn x (.ref l)) Q E s := by
  obtain ⟨⟨cls, dd, data, sl⟩, ho, hc, n, hd⟩ := hl _ h
  simp only at hc hd
  subst hc hd
  show wpAny _ A (do return .bool (!(← contains (.ref l) x))) Q E s
  refine wpAny_bind (wpAny_contains_slot ⟨_, ho, rfl⟩ F.slot_list_contains (wpAny_mono (GQ.call_here (Q := fun v s' => v = .bool b ∧ I s') F.slot_list_contains ⟨_, ho, rfl⟩ F.entry_list_contains (F.args_list_contains_2 _ _) ?_) (fun v s' hv => ?_) fun _ _ e => e))
  · obtain ⟨hp, g, d, tk, os⟩ := s
    wp_walk using wpAny_loadPart' ho
    exact ⟨plainId_quiet plain_contains_loop _, codeAny_builtin entry_contains_loop (by
      rw [Around.under_plainId plain_contains_loop _]
      exact contains_loopG (R := wants (fun v s' => v = .bool b ∧ I s') E) l x items I e b hl turn hb1 hb2 (fun s' q => ⟨rfl, q⟩) _ 0 rfl (fun j hj => absurd hj (by omega)) _ h)⟩
  · obtain ⟨rfl, hq⟩ := hv
    exact wpAny_truthy_bool (wpAny_pure (fin _ hq))
end
/-- x not in a list of things of x's class -/
def rNotInO (K : PySem.W.Frag) (C : Addr) (sp : Sp) : R2 := fun x y H Q => ∃ (a p : Addr) (qs : List Addr) (e : Nat → Bool) (dx : Addr) (fs : List (Str × V)), x = .ref a ∧ y = .ref p ∧ SqL K H p (qs.map V.ref) ∧ H a = some (.ins C dx fs) ∧ TyX K H (.ref a) (.ref C) ∧ PySem.W.notFirst K C (.ref C) = true ∧
  (∀ i q, qs[i]? = some q → (∃ dy gs, H q = some (.ins C dy gs)) ∧ (q = a → e i = true) ∧ ∀ Q2 : VK, Q2 (.bl (e i)) H → sp [.ref q, .ref a] H Q2 E0) ∧ ∀ b : Bool, (∀ i, i < qs.length → e i = true → b = true) → ((∀ i, i < qs.length → e i = false) → b = false) → Q (.bl (!b)) H
theorem notInO {X : Cx} (K : PySem.W.Frag) {x : Str} {ps : List Str} {k : Nat} {sp : Sp} (C : MetX X.prog X.w X.K X.mg X.base x "__eq__" ps k sp) (hr : Room (k + 1) X.A) (hK : X.K = K := by rfl) : OpR X (compareOp .NotIn) (rNotInO K (He.ga K x) sp) := by
  subst hK
  intro pins s σ H x y v u Q I rx ry h
  obtain ⟨a, p, qs, e, dx, fs, rfl, rfl, hq, ha, ty, nf, he, q⟩ := h
  obtain rfl : v = Value.ref a := rx
  obtain rfl : u = Value.ref p := ry
  obtain ⟨its, rv, pl, hz⟩ := I.list hq
  have ei := valsR rv
  subst ei
  have hb : ∃ b : Bool, (∀ i, i < qs.length → e i = true → b = true) ∧ ((∀ i, i < qs.length → e i = false) → b = false) := by
    by_cases c : ∃ i, i < qs.length ∧ e i = true
    · exact ⟨true, fun _ _ _ => rfl, fun z => by
        obtain ⟨i, h1, h2⟩ := c
        rw [z i h1] at h2
        cases h2⟩
    · exact ⟨false, fun i h1 h2 => absurd ⟨i, h1, h2⟩ c, fun _ => rfl⟩
  obtain ⟨b, b1, b2⟩ := hb
  have ez : (qs.map Value.ref).toArray.size = qs.length := by simp
  refine notIn_listG p (.ref a) (qs.map Value.ref).toArray (fun s' => L2.Inv X pins σ H s') e b (fun s' J => ?_) (fun i hi s' J => ?_) (fun i hi => b1 i (by rw [← ez]; exact hi)) (fun z => b2 fun i hi => z i (by rw [ez]; exact hi)) (fun s' J => ⟨.bl (!b), H, J, rfl, q b b1 b2⟩) I
  · obtain ⟨its2, rv2, pl2, _⟩ := J.list hq
    rw [valsR rv2] at pl2
    exact pl2.isList
  · have hi' : i < qs.length := by rw [← ez]; exact hi
    obtain ⟨⟨dy, gs, hg⟩, h1, h2⟩ := he i qs[i] (List.getElem?_eq_getElem hi')
    have e3 : (qs.map Value.ref).toArray[i] = Value.ref qs[i] := by simp
    rw [e3]
    exact eqb_own C hr.in1 rfl J hg ha ty nf h1 h2
end LH
namespace LH
open PySem PySem.Spec PyProof.Rows L2
theorem logS {a : Int} (h0 : 0 ≤ a) (h1 : a < 100000) : a.natAbs.log2 < 1920 := by
  by_cases z : a.natAbs = 0
  · rw [z]
    decide
  · exact (Nat.log2_lt z).mpr (Nat.lt_of_lt_of_le (show a.natAbs < 2 ^ 17 by omega) (Nat.pow_le_pow_right (by decide) (by decide)))
theorem textL {a : Int} (h0 : 0 ≤ a) : (Str.ofString (toString a)).length = (Nat.toDigits 10 a.natAbs).length := by
  obtain ⟨m, rfl⟩ := Int.eq_ofNat_of_zero_le h0
  rw [show (toString ((m : Nat) : Int)) = toString (Int.ofNat m) from rfl, text_ofNat m]
  show ((Nat.toDigits 10 m).map Char.toNat).toArray.size = _
  simp
theorem str_len_app (a b : PySem.Str) : (a ++ b).length = a.length + b.length := by
  show (a ++ b).cps.size = a.cps.size + b.cps.size
  rw [Str.cps_append, Array.size_append]
theorem se_app (a : PySem.Str) : PySem.Str.empty ++ a = a := by
  refine Str.ext' ?_
  rw [Str.cps_append]
  show #[] ++ a.cps = a.cps
  simp
/-- what str and repr tell of a span -/
def spanT (s : Int × Int) : PySem.Str := zTxt s.1 ++ "-" ++ zTxt (s.2 - 1)
def spanR (f u : Int) : PySem.Str := PySem.Str.empty ++ "Span(" ++ PySem.Str.ofString (toString f) ++ ", " ++ PySem.Str.ofString (toString u) ++ ")"
theorem zTxt_len4 {a : Int} (h0 : 0 ≤ a) (h1 : a < 10000) : (zTxt a).length = 4 := by
  have tl := textL h0
  have d1 := digits10_le (k := 4) (n := a.natAbs) (by decide) (by omega)
  unfold zTxt
  rw [str_len_app, tl]
  show (List.replicate _ 48).toArray.size + _ = 4
  rw [List.size_toArray, List.length_replicate]
  omega
theorem spanT_len9 {s : Int × Int} (h : SpanOk s) : (spanT s).length = 9 := by
  obtain ⟨o1, o2, o3⟩ := h
  unfold spanT
  rw [str_len_app, str_len_app, zTxt_len4 o1 (by omega), zTxt_len4 (by omega) (by omega)]
  rfl
end LH

set_option Elab.async false
set_option linter.all false
set_option maxRecDepth 100000
set_option maxHeartbeats 4000000
/-! figures: texts of four figures as numbers and back; a span that is read -/
namespace LH
open PySem PySem.Spec PyProof.Rows L2
open PySem.NumText (AllDigits digitsVal)
def tx (l : List Nat) : Str := ⟨l.toArray⟩
theorem tx_eq (z : Str) : tx z.cps.toList = z := by
  unfold tx
  simp
theorem tx_list (l : List Nat) : (tx l).cps.toList = l := by simp [tx]
theorem tx_len (l : List Nat) : (tx l).length = l.length := by
  show l.toArray.size = _
  simp
theorem tx_inj {a b : List Nat} (h : tx a = tx b) : a = b := by rw [← tx_list a, h, tx_list]
theorem cutS_to (l : List Nat) (k : Nat) : cutS (tx l) none (some (k : Int)) = tx (l.take k) := by
  unfold cutS
  rw [HT.sIx_nat, tx_list, tx_len]
  show (⟨((l.drop 0).take (min k l.length - 0)).toArray⟩ : Str) = _
  rw [List.drop_zero, Nat.sub_zero]
  unfold tx
  congr 2
  rw [List.take_eq_take_iff]
  omega
theorem cutS_from (l : List Nat) (k : Nat) : cutS (tx l) (some (k : Int)) none = tx (l.drop k) := by
  unfold cutS
  rw [HT.sIx_nat, tx_list, tx_len]
  show (⟨((l.drop (min k l.length)).take (l.length - min k l.length)).toArray⟩ : Str) = _
  rw [List.take_of_length_le (by rw [List.length_drop]; exact Nat.le_refl _)]
  unfold tx
  congr 2
  by_cases h : k ≤ l.length
  · rw [Nat.min_eq_left h]
  · rw [Nat.min_eq_right (show l.length ≤ k by omega), List.drop_length, List.drop_of_length_le (by omega)]
theorem cutS_mid (l : List Nat) (k m : Nat) : cutS (tx l) (some (k : Int)) (some (m : Int)) = tx ((l.drop k).take (m - k)) := by
  unfold cutS
  rw [HT.sIx_nat, HT.sIx_nat, tx_list, tx_len]
  unfold tx
  congr 2
  by_cases h : k ≤ l.length
  · rw [Nat.min_eq_left h, List.take_eq_take_iff, List.length_drop]
    omega
  · rw [Nat.min_eq_right (show l.length ≤ k by omega), List.drop_length, List.drop_of_length_le (by omega)]
    simp
def isFig (c : Nat) : Prop := 48 ≤ c ∧ c ≤ 57
instance (c : Nat) : Decidable (isFig c) := by unfold isFig; infer_instance
def figB (l : List Nat) : Bool := l.all fun c => decide (isFig c)
theorem figB_iff {l : List Nat} : figB l = true ↔ AllDigits l := by
  unfold figB AllDigits
  rw [List.all_eq_true]
  exact ⟨fun h c hc => of_decide_eq_true (h c hc), fun h c hc => decide_eq_true (h c hc)⟩
theorem fig_mem (c : Nat) : decide (c ∈ ("0123456789" : Str).cps.toList) = decide (isFig c) := by
  rw [show ("0123456789" : Str).cps.toList = [48, 49, 50, 51, 52, 53, 54, 55, 56, 57] from by decide +kernel]
  refine decide_eq_decide.mpr ?_
  unfold isFig
  simp only [List.mem_cons, List.not_mem_nil, or_false]
  omega
/-- four figures -/
def fourL (n : Nat) : List Nat := [48 + n / 1000, 48 + n / 100 % 10, 48 + n / 10 % 10, 48 + n % 10]
theorem dig_char : ∀ d : Fin 10, (Nat.digitChar d.val).toNat = 48 + d.val := by decide
theorem dig_lt {d : Nat} (h : d < 10) : (Nat.digitChar d).toNat = 48 + d := dig_char ⟨d, h⟩
theorem zTxt_four {n : Nat} (h : n < 10000) : (zTxt (n : Int)).cps.toList = fourL n := by
  unfold zTxt
  rw [Str.cps_append, Array.toList_append]
  have e : (Str.ofString (toString ((n : Nat) : Int))).cps.toList = (Nat.toDigits 10 n).map Char.toNat := by
    rw [show (toString ((n : Nat) : Int)) = toString (Int.ofNat n) from rfl, text_ofNat n]
  rw [e]
  show (List.replicate (4 - (Nat.toDigits 10 n).length) 48) ++ _ = _
  unfold fourL
  by_cases h1 : n < 10
  · rw [Nat.toDigits_of_lt_base h1]
    simp only [List.length_singleton, List.map_cons, List.map_nil, dig_lt h1]
    show [48, 48, 48, 48 + n] = _
    congr 1
    · omega
    · congr 1
      · omega
      · congr 1
        · omega
        · congr 1
          omega
  · by_cases h2 : n < 100
    · rw [Nat.toDigits_of_base_le (by decide) (by omega), Nat.toDigits_of_lt_base (n := n / 10) (by omega)]
      simp only [List.length_append, List.length_singleton, List.map_append, List.map_cons, List.map_nil, dig_lt (show n / 10 < 10 by omega), dig_lt (show n % 10 < 10 by omega)]
      show [48, 48, 48 + n / 10, 48 + n % 10] = _
      congr 1
      · omega
      · congr 1
        · omega
        · congr 1
          omega
    · by_cases h3 : n < 1000
      · rw [Nat.toDigits_of_base_le (by decide) (by omega), Nat.toDigits_of_base_le (n := n / 10) (by decide) (by omega), Nat.toDigits_of_lt_base (n := n / 10 / 10) (by omega)]
        simp only [List.length_append, List.length_singleton, List.map_append, List.map_cons, List.map_nil, dig_lt (show n / 10 / 10 < 10 by omega), dig_lt (show n / 10 % 10 < 10 by omega), dig_lt (show n % 10 < 10 by omega)]
        show [48, 48 + n / 10 / 10, 48 + n / 10 % 10, 48 + n % 10] = _
        congr 1
        · omega
        · congr 1
          omega
      · rw [Nat.toDigits_of_base_le (by decide) (by omega), Nat.toDigits_of_base_le (n := n / 10) (by decide) (by omega), Nat.toDigits_of_base_le (n := n / 10 / 10) (by decide) (by omega), Nat.toDigits_of_lt_base (n := n / 10 / 10 / 10) (by omega)]
        simp only [List.length_append, List.length_singleton, List.map_append, List.map_cons, List.map_nil, dig_lt (show n / 10 / 10 / 10 < 10 by omega), dig_lt (show n / 10 / 10 % 10 < 10 by omega), dig_lt (show n / 10 % 10 < 10 by omega), dig_lt (show n % 10 < 10 by omega)]
        show [48 + n / 10 / 10 / 10, 48 + n / 10 / 10 % 10, 48 + n / 10 % 10, 48 + n % 10] = _
        congr 1
        · omega
        · congr 1
          omega
/-- four figures as a number, and back -/
theorem four_of {l : List Nat} (hl : l.length = 4) (hf : AllDigits l) : digitsVal l < 10000 ∧ fourL (digitsVal l) = l := by
  match l, hl with
  | [a, b, c, d], _ =>
    have ha := hf a (by simp)
    have hb := hf b (by simp)
    have hc := hf c (by simp)
    have hd := hf d (by simp)
    have e : digitsVal [a, b, c, d] = (((a - 48) * 10 + (b - 48)) * 10 + (c - 48)) * 10 + (d - 48) := by simp [digitsVal]
    rw [e]
    refine ⟨by omega, ?_⟩
    unfold fourL
    congr 1
    · omega
    · congr 1
      · omega
      · congr 1
        · omega
        · congr 1
          omega
/-- the span that is so written -/
def readS (l : List Nat) : Option (Int × Int) :=
  if l.length = 9 ∧ (l.drop 4).take 1 = [45] ∧ figB (l.take 4) = true ∧ figB (l.drop 5) = true ∧ digitsVal (l.take 4) ≤ digitsVal (l.drop 5) then some ((digitsVal (l.take 4) : Nat), (digitsVal (l.drop 5) : Nat) + 1) else none
theorem readS_ok {l : List Nat} {s : Int × Int} (h : readS l = some s) : SpanOk s := by
  unfold readS at h
  split at h
  · rename_i c
    obtain ⟨c1, c2, c3, c4, c5⟩ := c
    cases h
    have f1 := (four_of (l := l.take 4) (by rw [List.length_take]; omega) (figB_iff.mp c3)).1
    have f2 := (four_of (l := l.drop 5) (by rw [List.length_drop]; omega) (figB_iff.mp c4)).1
    unfold SpanOk
    show (0 : Int) ≤ (digitsVal (l.take 4) : Nat) ∧ ((digitsVal (l.take 4) : Nat) : Int) < (digitsVal (l.drop 5) : Nat) + 1 ∧ ((digitsVal (l.drop 5) : Nat) : Int) + 1 ≤ 10000
    omega
  · cases h
theorem readS_text {l : List Nat} {s : Int × Int} (h : readS l = some s) : spanT s = tx l := by
  unfold readS at h
  split at h
  · rename_i c
    obtain ⟨c1, c2, c3, c4, c5⟩ := c
    cases h
    obtain ⟨f1, g1⟩ := four_of (l := l.take 4) (by rw [List.length_take]; omega) (figB_iff.mp c3)
    obtain ⟨f2, g2⟩ := four_of (l := l.drop 5) (by rw [List.length_drop]; omega) (figB_iff.mp c4)
    rw [← tx_eq (spanT _)]
    refine congrArg tx ?_
    show ((zTxt ((digitsVal (l.take 4) : Nat) : Int) ++ ("-" : Str)) ++ zTxt (((digitsVal (l.drop 5) : Nat) : Int) + 1 - 1)).cps.toList = l
    rw [Str.cps_append, Array.toList_append, Str.cps_append, Array.toList_append, zTxt_four f1, g1, show ((digitsVal (l.drop 5) : Nat) : Int) + 1 - 1 = ((digitsVal (l.drop 5) : Nat) : Int) by omega, zTxt_four f2, g2]
    show l.take 4 ++ [45] ++ l.drop 5 = l
    rw [← c2, List.append_assoc]
    have e : (l.drop 4).take 1 ++ l.drop 5 = l.drop 4 := by
      rw [show l.drop 5 = (l.drop 4).drop 1 by rw [List.drop_drop], List.take_append_drop]
    rw [e, List.take_append_drop]
  · cases h
theorem int_of {l : List Nat} (h : figB l = true) (h1 : l ≠ []) (h2 : l.length ≤ 4300) : PySem.intText? (tx l) = some ((digitsVal l : Nat) : Int) := by
  have q := intText_digits (x := tx l) (by rw [tx_list]; exact figB_iff.mp h) (by rw [tx_list]; exact h1) (by rw [tx_len]; exact h2)
  rw [tx_list] at q
  exact q
end LH
namespace LH
open PySem PySem.Spec PyProof.Rows L2
/-- a text of the top -/
theorem pe_cstr {X : Cx} {x z : Str} {pos : Pos} (h : ∃ t, X.mg x = some (.str z t)) (hg : Gl X x := by rfl) (hd : (x == ("__debug__" : Str)) = false := by decide) : PE X (.Name x pos) (tC (.str z)) := by
  obtain ⟨t, h⟩ := h
  exact pe_glob hg h ⟨_, rfl⟩ hd
/-- what is made of each sign of a text -/
theorem ls_bools {K : PySem.W.Frag} {l : List Nat} {g : TG} {tt : TT} {te : TE} {vs : List Nat} {σ : L2.St} {H1 : Hp} {D : Addr} {Qd : Hp → Prop} (f : Nat → Bool) (nD : H1 D = none) (hl : l.length ≤ 50000)
    (hs : ∀ (c : Nat) (H2 : Hp) (C : VK) (C2 : Hp → Prop), c ∈ l → Same H1 H2 → (∀ H4, Same H2 H4 → C (.bl (f c)) H4) → g (.str ⟨#[c]⟩) (wipe σ vs) H2 fun σ2 H3 => wipe σ2 vs = wipe σ vs ∧ tt σ2 H3 fun b H3 => if b = true then te σ2 H3 C else C2 H3)
    (hd : ∀ H, Same H1 H → H D = some (.lst ((l.map f).map V.bl)) → Qd H) :
    ∃ W : Nat → Nat → Hp → Prop, (∃ m, W 0 m (upd H1 D (.lst []))) ∧ ∀ i m H, W i m H →
      ((Its (tx l)).stop i H ∧ Qd H) ∨ ((Its (tx l)).go i H ∧ ∃ Nx : Hp → Prop, (∀ H', Nx H' → ∃ m', m' < m ∧ W (i + 1) m' H') ∧ ∀ x H', (Its (tx l)).yld i H x H' → g x (wipe σ vs) H' fun σ2 H2 => wipe σ2 vs = wipe σ vs ∧ tt σ2 H2 fun b H3 =>
        if b = true then te σ2 H3 fun y H4 => ∃ acc, H4 D = some (.lst acc) ∧ acc.length < sizeLine ∧ Nx (upd H4 D (.lst (acc ++ [y]))) else Nx H3) := by
  have sz : (tx l).cps.size = l.length := by simp [tx]
  refine lc_it (walk_str (z := tx l)) (fun i H2 => Same H1 H2 ∧ H2 D = some (.lst (((l.take i).map f).map V.bl))) ⟨same_new nD, upd_same⟩ (fun _ _ _ _ => trivial) ?_ ?_
  · rintro i v H2 H3 hi ⟨s2, hD⟩ ⟨rfl, c, hc, rfl⟩
    have hc2 : l[i]? = some c := by
      rw [← hc]
      simp [tx]
    have il := (List.getElem?_eq_some_iff.mp hc2).1
    refine hs c H3 _ _ (List.mem_of_getElem? hc2) s2 fun H4 s4 => ?_
    have hD4 := s4 _ _ hD
    refine ⟨_, hD4, sz_lt (by rw [List.length_map, List.length_map, List.length_take]; omega), same_mut (s2.trans s4) nD, ?_⟩
    rw [upd_same, List.take_succ, hc2, List.map_append, List.map_append]
    rfl
  · rintro H2 ⟨s2, hD⟩
    rw [sz, List.take_length] at hD
    exact hd H2 s2 hD
end LH
namespace LH
open PySem PySem.Spec PyProof.Rows L2
theorem dash_tx {l : List Nat} : tx l = ("-" : Str) ↔ l = [45] := by
  have e : ("-" : Str) = tx [45] := by decide +kernel
  rw [e]
  exact ⟨tx_inj, fun h => by rw [h]⟩
theorem readS_no {l : List Nat} (h : ¬ (l.length = 9 ∧ (l.drop 4).take 1 = [45] ∧ figB (l.take 4) = true ∧ figB (l.drop 5) = true ∧ PySem.NumText.digitsVal (l.take 4) ≤ PySem.NumText.digitsVal (l.drop 5))) : readS l = none := by
  unfold readS
  rw [if_neg h]
theorem readS_yes {l : List Nat} (h : l.length = 9 ∧ (l.drop 4).take 1 = [45] ∧ figB (l.take 4) = true ∧ figB (l.drop 5) = true ∧ PySem.NumText.digitsVal (l.take 4) ≤ PySem.NumText.digitsVal (l.drop 5)) : readS l = some (((PySem.NumText.digitsVal (l.take 4) : Nat) : Int), ((PySem.NumText.digitsVal (l.drop 5) : Nat) : Int) + 1) := by
  unfold readS
  rw [if_pos h]
theorem tx_app (a b : List Nat) : tx a ++ tx b = tx (a ++ b) := by
  refine Str.ext' ?_
  rw [Str.cps_append]
  show a.toArray ++ b.toArray = (a ++ b).toArray
  simp
theorem figB_app (a b : List Nat) : figB (a ++ b) = (figB a && figB b) := by
  unfold figB
  rw [List.all_append]
theorem drop_one {l : List Nat} {k c : Nat} (h : l[k]? = some c) : (l.drop k).take 1 = [c] := by
  have hl := (List.getElem?_eq_some_iff.mp h).1
  rw [List.drop_eq_getElem_cons hl]
  have e : l[k] = c := (List.getElem?_eq_some_iff.mp h).2
  rw [e]
  rfl
theorem ixN_of {m j : Nat} {i : Int} (e : i = (j : Int)) (h : j < m) : ixN m i = some j := by
  subst e
  have := ix_nd (m := m) (n := m - 1) (o := (j : Int)) (by omega) (by omega) (by omega)
  rw [this]
  unfold nd
  rw [if_neg (by omega)]
  simp
theorem at_sign {l : List Nat} {i : Int} {j c : Nat} (e : i = (j : Int)) (h : l[j]? = some c) : atI l i = some c := by
  unfold atI
  rw [ixN_of e (List.getElem?_eq_some_iff.mp h).1]
  exact h
theorem at_some (l : List Nat) {i : Int} (h0 : 0 ≤ i) (h1 : i < l.length) : ∃ c, atI l i = some c := by
  obtain ⟨m, rfl⟩ := Int.eq_ofNat_of_zero_le h0
  have hm : m < l.length := by omega
  exact ⟨l[m], at_sign (j := m) rfl (List.getElem?_eq_getElem hm)⟩
end LH

namespace K04
open PySem PySem.Spec PyProof.Rows L2 LH
section
variable {P : Program} {w : World} {K : PySem.W.Frag} {mg : Str → Option Value} {base : Heap}
theorem sc_are_figures : FnScope N_are_figures ["text"] (defScope s_are_figures) := ⟨rfl, rfl, rfl, by decide +kernel, rfl, by decide +kernel, by decide +kernel⟩
def sp_are_figures (K : PySem.W.Frag) : Sp := fun vs H Q _ => ∃ (l : List Nat), vs = [.str (tx l)] ∧ l.length ≤ 5000 ∧ ∀ H', Same H H' → Q (.bl (figB l)) H'
theorem ok_are_figures {f : Addr} {fd : FuncData} (F : FnP K "are_figures" s_are_figures f fd) (T : Txt K mg) : FnOk P w K mg base CX0 1 f fd ["text"] (sp_are_figures K) := by
  refine F.ok sc_are_figures (fun vs H Q E h => ?_) (fun cdv A outer s H vs Q E hr h => ?_)
  · obtain ⟨l, rfl, _⟩ := h
    rfl
  · obtain ⟨l, rfl, hl, k⟩ := h
    refine ⟨_, PSs.nox (pss_one (ps_ret (pe_callB (allK K rfl) (by rfl) T.n_all (by decide +kernel) (pa_cons (by exact (pe_lc (own := [("sign", 1)]) rfl sc_are_figures.nd (pi_str (pv 0)) (blkOk_by (own := [("sign", 1)]) (N := N_are_figures) (sc := defScope s_are_figures) (by decide +kernel)) (fun _ _ _ _ _ => by exact (pg_name (i := 1) sc_are_figures.nd rfl (Or.inl rfl))) (fun _ _ _ _ _ => by exact pts_nil) (fun _ _ _ _ _ => by exact (pe_cmpR op_in_sign (pv 1) (pe_cstr T.c_FIGURES) (by rfl))))) pa_nil)))), ?_⟩
    refine ⟨_, rfl, _, rfl, fun D nD => ?_⟩
    refine ls_bools (K := K) (D := D) (l := l) (fun c => decide (isFig c)) nD (by omega) ?_ ?_
    · rintro c H2 C C2 hc s2 kC
      refine ⟨rfl, ?_⟩
      refine ⟨_, rfl, c, _, rfl, rfl, ?_⟩
      rw [fig_mem]
      exact kC _ (Same.refl _)
    · intro H2 s2 hD
      refine ⟨D, _, rfl, SqL.of hD, ?_⟩
      rw [List.all_map]
      exact k H2 s2

theorem sc_BadText___init__ : FnScopeS N_BadText___init__ ["self", "at"] (defScope s_BadText___init__) := ⟨rfl, rfl, rfl, by decide +kernel, rfl, by decide +kernel, by decide +kernel, by decide +kernel, rfl, rfl⟩
def sp_BadText___init__ (K : PySem.W.Frag) : Sp := fun vs H Q _ => ∃ (x : Addr) (a : Int), vs = [.ref x, .int a] ∧ H x = some (exo x (He.ga K "BadText") none) ∧ 0 ≤ a ∧ a < 10000000000 ∧ ∀ d, H d = none → d ≠ x → Q .non (upd (upd H d (exd d [("at", V.int a)])) x (exo x (He.ga K "BadText") (some d)))
/-- raise BadText(i) -/
theorem rise_text {K : PySem.W.Frag} {H : Hp} {i : Int} {Q : XK} {E : XK} (h0 : 0 ≤ i) (h1 : i < 10000000000) (k : ∀ d H', Same H H' → H d = none → H' d = some (.xd [("at", V.int i)]) → Q (.ref (He.ga K "BadText")) (some d) H') :
    ∀ a, H a = none → sp_BadText___init__ K [.ref a, .int i] (upd H a (exo a (He.ga K "BadText") none)) (fun v H2 => v = .non ∧ ∃ (d : Addr) (fs : List (Str × V)), H2 a = some (exo a (He.ga K "BadText") (some d)) ∧ H2 d = some (exd d fs) ∧ H d = none ∧ Q (.ref (He.ga K "BadText")) (some d) (upd (del H2 a) d (.xd fs))) E :=
  fun a na => ⟨a, i, rfl, upd_same, h0, h1, fun d nd hda => by
    rw [upd_ne hda] at nd
    exact ⟨rfl, d, _, upd_same, (upd_ne hda).trans upd_same, nd, k d _ (exo_new na nd hda) nd upd_same⟩⟩
theorem log_ten {a : Int} (h0 : 0 ≤ a) (h1 : a < 10000000000) : a.natAbs.log2 < 1920 := by
  by_cases z : a.natAbs = 0
  · rw [z]
    decide
  · exact (Nat.log2_lt z).mpr (Nat.lt_of_lt_of_le (show a.natAbs < 2 ^ 34 by omega) (Nat.pow_le_pow_right (by decide) (by decide)))
theorem ok_BadText___init__ {f : Addr} {fd : FuncData} (F : FunS P K (He.ga K "BadText") "BadText.__init__" (defArgs s_BadText___init__) (defBody s_BadText___init__) (defScope s_BadText___init__) f fd) (T : Txt K mg) (pt : (P.main.scope.names.lookup ("super" : Str)).isSome = false) : FnOk P w K mg base CX0 1 f fd ["self", "at"] (sp_BadText___init__ K) := by
  refine FunS.ok F sc_BadText___init__ T.i_BadText.sup rfl rfl T.n_super pt (fun vs H Q E h => ?_) (fun _ _ _ _ => rfl) (fun _ _ _ _ => rfl) (fun _ => ⟨_, rfl⟩) (fun _ => rfl) (fun _ => rfl) (fun cda cc A outer s H vs Q E hr h => ?_)
  · obtain ⟨x, a, rfl, _⟩ := h
    rfl
  · obtain ⟨x, a, rfl, hx, h0, h1, k⟩ := h
    refine ⟨x, [.int a], _, _, rfl, hx, pa_cons (pe_joined (.cons pe_str (.cons (pe_fmt (pv 1)) .nil))) pa_nil, pss_one (ps_ost (pv 0) (pv 1)), ?_⟩
    have l1 := textL h0
    have d1 := digits10_le (k := 10) (n := a.natAbs) (by decide) (by omega)
    refine ⟨_, rfl, by decide +kernel, ?_⟩
    refine ⟨_, rfl, .inr ⟨a, rfl, log_ten h0 h1, _, rfl, ?_, ?_⟩⟩
    · rw [str_len_app, str_len_app, l1, sizeLine_eq, show (Str.empty).length = 0 from rfl, show ("row " : Str).length = 4 from rfl]
      omega
    refine ⟨(by show 1 ≤ 1000; decide), hx, ?_⟩
    refine ⟨_, rfl, _, rfl, x, _, rfl, T.i_BadText.sup.ox, T.i_BadText.fld, .inl ⟨hx, fun d nd hd => ?_⟩⟩
    exact k d nd hd

theorem sc_read_day : FnScope N_read_day ["text"] (defScope s_read_day) := ⟨rfl, rfl, rfl, by decide +kernel, rfl, by decide +kernel, by decide +kernel⟩
def TextErr (K : PySem.W.Frag) (H : Hp) (E : XK) (i : Int) : Prop := ∀ d H', Same H H' → H d = none → H' d = some (.xd [("at", V.int i)]) → E (.ref (He.ga K "BadText")) (some d) H'
theorem TextErr.up {K : PySem.W.Frag} {H H1 : Hp} {E : XK} {i : Int} (s : Same H H1) (h : TextErr K H E i) : TextErr K H1 E i := fun d H' s' nd hd => h d H' (s.trans s') (s.free nd) hd
def sp_read_day (K : PySem.W.Frag) : Sp := fun vs H Q E => ∃ (l : List Nat), vs = [.str (tx l)] ∧ l.length ≤ 5000 ∧ Ways (l.length = 4 ∧ figB l = true) (∀ H', Same H H' → Q (.int ((PySem.NumText.digitsVal l : Nat) : Int)) H') (TextErr K H E 0)
theorem ok_read_day {f : Addr} {fd : FuncData} (F : FnP K "read_day" s_read_day f fd) (T : Txt K mg) (C_are_figures : Own P w K mg base "are_figures" ["text"] 1 (sp_are_figures K)) (C_BadText___init__ : MkE P w K mg base "BadText" ["self", "at"] 1 (sp_BadText___init__ K)) : FnOk P w K mg base (L2N.CX P w) 3 f fd ["text"] (sp_read_day K) := by
  refine F.ok sc_read_day (fun vs H Q E h => ?_) (fun cdv A outer s H vs Q E hr h => ?_)
  · obtain ⟨l, rfl, _⟩ := h
    rfl
  · obtain ⟨l, rfl, hl, k1, k2⟩ := h
    refine ⟨_, (C8.pss_cut (ps_if (PW.pt (pw_or (pt_cmpR op_ne (pe_callB call_len_str (by rfl) T.n_len (by decide +kernel) (pa_cons (pv 0) pa_nil)) pe_int (nomark _)) (pw_or1 (pt_not (pt_val (pe_own C_are_figures (hr.mono (by omega)) (pa_cons (pv 0) pa_nil))))))) (pss_one (riseI K C_BadText___init__ (hr.mono (by omega)) rfl (L2N.takes_of rfl rfl rfl rfl) (pa_cons pe_int pa_nil))) pss_nil)
          (pss_one (ps_ret (pe_callTy call_int_str (by rfl) T.n_int (by decide +kernel) (pa_cons (pv 0) pa_nil))))), ?_⟩
    have tl := tx_len l
    refine ⟨fun σ H1 => σ = [some (.str (tx l))] ∧ Same H H1 ∧ l.length = 4 ∧ figB l = true, ?_, ?_⟩
    · refine ⟨_, rfl, _, rfl, sz_of (by rw [tl]; omega), rfl, _, rfl, ?_⟩
      by_cases c : l.length = 4
      · refine iteNS (by rw [tl, c]; rfl) ?_
        refine ⟨_, rfl, l, rfl, hl, fun H1 s1 => ?_⟩
        cases f : figB l with
        | true => exact ⟨_, rfl, iteF ⟨rfl, s1, c, rfl⟩⟩
        | false =>
          refine ⟨_, rfl, iteT ?_⟩
          exact ⟨(by show 1 ≤ 1000; decide), rise_text (by decide) (by decide) ((k2 fun z => by rw [f] at z; cases z.2).up s1)⟩
      · refine iteN (fun z => ?_) ?_
        · injection z with z
          rw [tl] at z
          omega
        · exact ⟨(by show 1 ≤ 1000; decide), rise_text (by decide) (by decide) (k2 fun z => c z.1)⟩
    rintro σ H1 ⟨rfl, s1, c, f⟩
    exact ⟨_, rfl, tx l, _, rfl, int_of f (fun z => by rw [z] at c; cases c) (by omega), by rw [tl]; omega, k1 ⟨c, f⟩ H1 s1⟩

theorem sc_Span___init__ : FnScope N_Span___init__ ["self", "first", "until"] (defScope s_Span___init__) := ⟨rfl, rfl, rfl, by decide +kernel, rfl, by decide +kernel, by decide +kernel⟩
def sp_Span___init__ (K : PySem.W.Frag) : Sp := fun vs H Q E => ∃ (x dx : Addr) (f u : Int), vs = [.ref x, .int f, .int u] ∧ H x = some (.ins (He.ga K "Span") dx []) ∧ (SpanOk (f, u) → Q .non (upd H x (.ins (He.ga K "Span") dx (spanF f u)))) ∧ (¬ SpanOk (f, u) → E (.ref (He.ga K "BadDay")) none H)
/-- Span(f, u) -/
theorem mk_span {K : PySem.W.Frag} {H : Hp} {f u : Int} {Q : VK} {E : XK} {x dx : Addr} (hx : H x = none) (hdx : H dx = none) (k : SpanOk (f, u) → ∀ H', Same H H' → SpanAt K H' (.ref x) (f, u) → Q .non H') (k2 : ¬ SpanOk (f, u) → ∀ H', Same H H' → E (.ref (He.ga K "BadDay")) none H') :
    sp_Span___init__ K [.ref x, .int f, .int u] (upd (upd H dx (.own x)) x (.ins (He.ga K "Span") dx [])) Q E := by
  have s1 := same_mut (o := .ins (He.ga K "Span") dx []) (same_new (o := .own x) hdx) hx
  exact ⟨x, dx, f, u, rfl, upd_same, fun ok => k ok _ (same_mut s1 hx) ⟨x, dx, rfl, upd_same⟩, fun no => k2 no _ s1⟩
theorem ok_Span___init__ {f : Addr} {fd : FuncData} (F : FunD K "__init__" "Span.__init__" (defArgs s_Span___init__) (defBody s_Span___init__) (defScope s_Span___init__) [] [] f fd) (T : Txt K mg) : FnOk P w K mg base (L2N.CX P w) 1 f fd ["self", "first", "until"] (sp_Span___init__ K) := by
  refine F.ok sc_Span___init__ (fun vs H Q E h => ?_) (fun cdv A outer s H vs Q E hr h => ?_)
  · obtain ⟨x, dx, f, u, rfl, _⟩ := h
    rfl
  · obtain ⟨x, dx, f, u, rfl, hx, k1, k2⟩ := h
    refine ⟨_, (C8.pss_cut (ps_if (pt_not (pt_chain3 op_le op_lt op_le pe_int (pv 1) (pv 2) (pe_op op_add (pe_const T.c_LAST_DAY) pe_int))) (pss_one (rise T.e_BadDay.w T.g_BadDay rfl (L2N.takes_of rfl rfl rfl rfl))) pss_nil)
          (pss_cons (setfK K (pv 0) (pv 1) rfl)
          (pss_one (setfK K (pv 0) (pv 2) rfl)))), ?_⟩
    refine ⟨fun σ H1 => σ = [some (.ref x), some (.int f), some (.int u)] ∧ H1 = H ∧ SpanOk (f, u), ?_, ?_⟩
    · refine ⟨_, rfl, _, _, rfl, rfl, _, rfl, ?_⟩
      refine ite2 (fun c1 => ?_) (fun c1 => ⟨_, rfl, iteT (k2 fun z => c1 (decide_eq_true z.1))⟩)
      refine ⟨_, rfl, _, _, rfl, rfl, _, rfl, ?_⟩
      refine ite2 (fun c2 => ?_) (fun c2 => ⟨_, rfl, iteT (k2 fun z => c2 (decide_eq_true z.2.1))⟩)
      refine ⟨_, _, rfl, rfl, _, _, rfl, rfl, _, rfl, ?_⟩
      by_cases c3 : u ≤ 9999 + 1
      · rw [decide_eq_true c3]
        exact iteF ⟨rfl, rfl, of_decide_eq_true c1, of_decide_eq_true c2, c3⟩
      · rw [decide_eq_false c3]
        exact iteT (k2 fun z => c3 z.2.2)
    · rintro σ H1 ⟨rfl, rfl, ok⟩
      refine ⟨_, rfl, _, rfl, x, _, dx, _, rfl, hx, T.f_Span.cl, T.f_Span.n1, (by decide), ?_⟩
      refine ⟨_, rfl, _, rfl, x, _, dx, _, rfl, upd_same, T.f_Span.cl, T.f_Span.n2, Nat.le_of_ble_eq_true rfl, ?_⟩
      rw [upd_upd, span_put]
      exact k1 ok

theorem sc_read_span : FnScope N_read_span ["text"] (defScope s_read_span) := ⟨rfl, rfl, rfl, by decide +kernel, rfl, by decide +kernel, by decide +kernel⟩
def sp_read_span (K : PySem.W.Frag) : Sp := fun vs H Q E => ∃ (l : List Nat), vs = [.str (tx l)] ∧ l.length ≤ 5000 ∧ (∀ s, readS l = some s → ∀ v H', Same H H' → SpanAt K H' v s → Q v H') ∧ (readS l = none → TextErr K H E 0)
theorem ok_read_span {f : Addr} {fd : FuncData} (F : FnP K "read_span" s_read_span f fd) (T : Txt K mg) (C_read_day : OwnX P w K mg base "read_day" ["text"] 3 (sp_read_day K)) (C_BadText___init__ : MkE P w K mg base "BadText" ["self", "at"] 1 (sp_BadText___init__ K)) (C_Span___init__ : MakX P w K mg base "Span" ["self", "first", "until"] 1 (sp_Span___init__ K)) : FnOk P w K mg base (L2N.CX P w) 4 f fd ["text"] (sp_read_span K) := by
  refine F.ok sc_read_span (fun vs H Q E h => ?_) (fun cdv A outer s H vs Q E hr h => ?_)
  · obtain ⟨l, rfl, _⟩ := h
    rfl
  · obtain ⟨l, rfl, hl, k1, k2⟩ := h
    refine ⟨_, (pss_cons (ps_par3 (i := 1) (j := 2) (l := 3) (by rfl) sc_read_span.nd rfl rfl rfl (by decide) (by decide) (by decide) rfl rfl rfl (pa_cons (pe_slice sl_str (pv 0) po_none (po_some pe_int)) (pa_cons (pe_slice sl_str (pv 0) (po_some pe_int) (po_some pe_int)) (pa_cons (pe_slice sl_str (pv 0) (po_some pe_int) po_none) pa_nil))) (by rfl))
          (C8.pss_cut (ps_if (pt_cmpR op_ne (pv 2) pe_str (nomark _)) (pss_one (riseI K C_BadText___init__ (hr.mono (by omega)) rfl (L2N.takes_of rfl rfl rfl rfl) (pa_cons pe_int pa_nil))) pss_nil)
          (pss_cons (ps_par (i := 4) (j := 5) (by rfl) sc_read_span.nd rfl rfl (by decide) rfl rfl (pa_cons (pe_ownX C_read_day (hr.mono (by omega)) (L2N.takes_of rfl rfl rfl rfl) (pa_cons (pv 1) pa_nil)) (pa_cons (pe_ownX C_read_day (hr.mono (by omega)) (L2N.takes_of rfl rfl rfl rfl) (pa_cons (pv 3) pa_nil)) pa_nil)) (by rfl))
          (C8.pss_cut (ps_if (pt_cmpR op_lt (pv 5) (pv 4) (nomark _)) (pss_one (riseI K C_BadText___init__ (hr.mono (by omega)) rfl (L2N.takes_of rfl rfl rfl rfl) (pa_cons pe_int pa_nil))) pss_nil)
          (pss_one (ps_ret (pe_mkX K C_Span___init__ (hr.mono (by omega)) (L2N.takes_of rfl rfl rfl rfl) (pa_cons (pv 4) (pa_cons (pe_op op_add (pv 5) pe_int) pa_nil))))))))), ?_⟩
    have sz : (tx l).length ≤ sizeLine := sz_of (by rw [tx_len]; omega)
    have e1 : cutS (tx l) none (some 4) = tx (l.take 4) := cutS_to l 4
    have e2 : cutS (tx l) (some 4) (some 5) = tx ((l.drop 4).take 1) := cutS_mid l 4 5
    have e3 : cutS (tx l) (some 5) none = tx (l.drop 5) := cutS_from l 5
    refine ⟨_, rfl, _, rfl, _, rfl, sz, _, rfl, _, rfl, _, rfl, _, rfl, sz, _, rfl, _, rfl, _, rfl, sz, _, _, _, rfl, ?_⟩
    rw [e1, e2, e3]
    refine ⟨fun σ H1 => σ = [some (.str (tx l)), some (.str (tx (l.take 4))), some (.str (tx ((l.drop 4).take 1))), some (.str (tx (l.drop 5))), none, none] ∧ H1 = H ∧ (l.drop 4).take 1 = [45], ?_, ?_⟩
    · refine ⟨_, rfl, rfl, _, rfl, ?_⟩
      by_cases c : (l.drop 4).take 1 = [45]
      · exact iteNS (congrArg V.str (dash_tx.mpr c)) ⟨rfl, rfl, c⟩
      · refine iteN (fun z => c (dash_tx.mp (V.str.inj z))) ?_
        exact ⟨(by show 1 ≤ 1000; decide), rise_text (by decide) (by decide) (k2 (readS_no fun z => c z.2.1))⟩
    rintro σ H1 ⟨rfl, rfl, c1⟩
    refine ⟨_, rfl, _, rfl, by rw [List.length_take]; omega, .or (fun c2 H2 s2 => ?_) (fun c2 => k2 (readS_no fun z => c2 ⟨by rw [List.length_take]; omega, z.2.2.1⟩))⟩
    refine ⟨_, rfl, _, rfl, by rw [List.length_drop]; omega, .or (fun c3 H3 s3 => ?_) (fun c3 => (k2 (readS_no fun z => c3 ⟨by rw [List.length_drop]; omega, z.2.2.2.1⟩)).up s2)⟩
    have len9 : l.length = 9 := by
      have := c3.1
      rw [List.length_drop] at this
      omega
    have s13 := s2.trans s3
    refine ⟨_, _, rfl, ?_⟩
    refine ⟨fun σ H4 => σ = [some (.str (tx l)), some (.str (tx (l.take 4))), some (.str (tx ((l.drop 4).take 1))), some (.str (tx (l.drop 5))), some (.int ((PySem.NumText.digitsVal (l.take 4) : Nat) : Int)), some (.int ((PySem.NumText.digitsVal (l.drop 5) : Nat) : Int))] ∧ H4 = H3 ∧ PySem.NumText.digitsVal (l.take 4) ≤ PySem.NumText.digitsVal (l.drop 5), ?_, ?_⟩
    · refine ⟨_, rfl, _, rfl, _, _, rfl, rfl, _, rfl, ?_⟩
      by_cases c : ((PySem.NumText.digitsVal (l.drop 5) : Nat) : Int) < ((PySem.NumText.digitsVal (l.take 4) : Nat) : Int)
      · refine iteD c ?_
        exact ⟨(by show 1 ≤ 1000; decide), rise_text (by decide) (by decide) ((k2 (readS_no fun z => by have := z.2.2.2.2; omega)).up s13)⟩
      · exact iteDF c ⟨rfl, rfl, by omega⟩
    rintro σ H4 ⟨rfl, rfl, c4⟩
    have rs := readS_yes ⟨len9, c1, c2.2, c3.2, c4⟩
    have ok := readS_ok rs
    refine ⟨_, rfl, _, rfl, _, _, rfl, rfl, fun x dx nx ndx ne => mk_span nx ndx (fun _ H' s' hx => ?_) (fun no => absurd ok no)⟩
    exact ⟨rfl, k1 _ rs _ H' (s13.trans s') hx⟩

theorem sc_lkin : FnScope N_lkin ["_law_e"] (defScope s_lkin) := ⟨rfl, rfl, rfl, by decide +kernel, rfl, by decide +kernel, by decide +kernel⟩
def sp_lkin (K : PySem.W.Frag) : SpE := fun a c d vs H Q _ => ∃ (D : Str) (look : Bool), D ∈ kinNames ∧ ErrQ K D look ∧ vs = [.ref a] ∧ c = .ref (He.ga K D) ∧ DictAt d H ∧ ∀ H', Same H H' → Q (.str D) H'
theorem ok_lkin {f : Addr} {fd : FuncData} (F : FnP K "_law_kin" s_lkin f fd) (T : Txt K mg) : FnE P w K mg base 1 f fd ["_law_e"] (sp_lkin K) := by
  refine okE F sc_lkin (dvs := []) (kws := []) (fun a c d vs H Q E h => ?_) (fun cdv A outer s H vs Q E p c d hot hz hr h => ?_)
  · obtain ⟨D, look, _, _, rfl, _⟩ := h
    rfl
  · obtain ⟨D, look, hD, err, rfl, rfl, hd, k⟩ := h
    have EX := err.exc
    have hf : ∃ vs, p.2.data = .fields vs := by
      obtain ⟨_, v1, e1, _⟩ := hot
      exact ⟨v1, e1⟩
    refine ⟨_, (pss_cons (ps_set (i := 1) sc_lkin.nd rfl (Or.inl rfl) (pe_lst (pa_cons (pe_callB (isPD K (List.mem_singleton.mpr rfl) EX hz hf) (by rfl) T.n_isinstance (by decide +kernel) (pa_cons (pv 0) (pa_cons (pe_cls T.g_BadDay) pa_nil))) (pa_cons (pe_callB (isPD K (List.mem_singleton.mpr rfl) EX hz hf) (by rfl) T.n_isinstance (by decide +kernel) (pa_cons (pv 0) (pa_cons (pe_cls T.g_BadCount) pa_nil))) (pa_cons (pe_callB (isPD K (List.mem_singleton.mpr rfl) EX hz hf) (by rfl) T.n_isinstance (by decide +kernel) (pa_cons (pv 0) (pa_cons (pe_cls T.g_BadTie) pa_nil))) (pa_cons (pe_callB (isPD K (List.mem_singleton.mpr rfl) EX hz hf) (by rfl) T.n_isinstance (by decide +kernel) (pa_cons (pv 0) (pa_cons (pe_cls T.g_CantBe) pa_nil))) pa_nil))))))
          (pss_cons (ps_set (i := 1) sc_lkin.nd rfl (Or.inl rfl) (pe_op op_cat (pv 1) (pe_lst (pa_cons (pe_callB (isPD K (List.mem_singleton.mpr rfl) EX hz hf) (by rfl) T.n_isinstance (by decide +kernel) (pa_cons (pv 0) (pa_cons (pe_cls T.g_BadRow) pa_nil))) (pa_cons (pe_callB (isPD K (List.mem_singleton.mpr rfl) EX hz hf) (by rfl) T.n_isinstance (by decide +kernel) (pa_cons (pv 0) (pa_cons (pe_cls T.g_BadName) pa_nil))) (pa_cons (pe_callB (isPD K (List.mem_singleton.mpr rfl) EX hz hf) (by rfl) T.n_isinstance (by decide +kernel) (pa_cons (pv 0) (pa_cons (pe_cls T.g_Taken) pa_nil))) (pa_cons (pe_callB (isPD K (List.mem_singleton.mpr rfl) EX hz hf) (by rfl) T.n_isinstance (by decide +kernel) (pa_cons (pv 0) (pa_cons (pe_cls T.g_Full) pa_nil))) pa_nil)))))))
          (pss_cons (ps_set (i := 1) sc_lkin.nd rfl (Or.inl rfl) (pe_op op_cat (pv 1) (pe_lst (pa_cons (pe_callB (isPD K (List.mem_singleton.mpr rfl) EX hz hf) (by rfl) T.n_isinstance (by decide +kernel) (pa_cons (pv 0) (pa_cons (pe_cls T.g_Twice) pa_nil))) (pa_cons (pe_callB (isPD K (List.mem_singleton.mpr rfl) EX hz hf) (by rfl) T.n_isinstance (by decide +kernel) (pa_cons (pv 0) (pa_cons (pe_cls T.g_GivenUp) pa_nil))) (pa_cons (pe_callB (isPD K (List.mem_singleton.mpr rfl) EX hz hf) (by rfl) T.n_isinstance (by decide +kernel) (pa_cons (pv 0) (pa_cons (pe_cls T.g_Held) pa_nil))) (pa_cons (pe_callB (isPD K (List.mem_singleton.mpr rfl) EX hz hf) (by rfl) T.n_isinstance (by decide +kernel) (pa_cons (pv 0) (pa_cons (pe_cls T.g_Idle) pa_nil))) pa_nil)))))))
          (pss_cons (ps_set (i := 1) sc_lkin.nd rfl (Or.inl rfl) (pe_op op_cat (pv 1) (pe_lst (pa_cons (pe_callB (isPD K (List.mem_singleton.mpr rfl) EX hz hf) (by rfl) T.n_isinstance (by decide +kernel) (pa_cons (pv 0) (pa_cons (pe_cls T.g_Against) pa_nil))) (pa_cons (pe_callB (isPD K (List.mem_singleton.mpr rfl) EX hz hf) (by rfl) T.n_isinstance (by decide +kernel) (pa_cons (pv 0) (pa_cons (pe_cls T.g_BadText) pa_nil))) (pa_cons (pe_callB (isPD K (List.mem_singleton.mpr rfl) EX hz hf) (by rfl) T.n_isinstance (by decide +kernel) (pa_cons (pv 0) (pa_cons (pe_cls T.g_NoLife) pa_nil))) pa_nil))))))
          (pss_cons (ps_set (i := 1) sc_lkin.nd rfl (Or.inl rfl) (pe_op op_cat (pv 1) (pe_lst (pa_cons (pe_callB (isPD K (List.mem_singleton.mpr rfl) EX hz hf) (by rfl) T.n_isinstance (by decide +kernel) (pa_cons (pv 0) (pa_cons (pe_cls T.g_NoHolding) pa_nil))) (pa_cons (pe_callB (isPD K (List.mem_singleton.mpr rfl) EX hz hf) (by rfl) T.n_isinstance (by decide +kernel) (pa_cons (pv 0) (pa_cons (pe_cls T.g_NoPresentment) pa_nil))) (pa_cons (pe_callB (isPD K (List.mem_singleton.mpr rfl) EX hz hf) (by rfl) T.n_isinstance (by decide +kernel) (pa_cons (pv 0) (pa_cons (pe_cls T.g_NoPlace) pa_nil))) pa_nil))))))
          (C8.pss_cut (ps_set (i := 1) sc_lkin.nd rfl (Or.inl rfl) (pe_op op_cat (pv 1) (pe_lst (pa_cons (pe_callB (isPD K (List.mem_singleton.mpr rfl) EX hz hf) (by rfl) T.n_isinstance (by decide +kernel) (pa_cons (pv 0) (pa_cons (pe_cls T.g_Nothing) pa_nil))) (pa_cons (pe_and (pe_not (pe_callB (isPD K (List.mem_singleton.mpr rfl) EX hz hf) (by rfl) T.n_isinstance (by decide +kernel) (pa_cons (pv 0) (pa_cons (pe_bltn (v := .ty "ValueError") (by rfl) T.n_ValueError (by decide +kernel) rfl) pa_nil)))) (pe_one (pe_not (pe_callB (isPD K (List.mem_singleton.mpr rfl) EX hz hf) (by rfl) T.n_isinstance (by decide +kernel) (pa_cons (pv 0) (pa_cons (pe_bltn (v := .ty "LookupError") (by rfl) T.n_LookupError (by decide +kernel) rfl) pa_nil)))))) pa_nil)))))
          (pss_cons (ps_set (i := 2) sc_lkin.nd rfl (Or.inl rfl) (pe_lst (pa_cons pe_str (pa_cons pe_str (pa_cons pe_str (pa_cons pe_str (pa_cons pe_str (pa_cons pe_str (pa_cons pe_str (pa_cons pe_str (pa_cons pe_str (pa_cons pe_str pa_nil))))))))))))
          (pss_cons (ps_set (i := 2) sc_lkin.nd rfl (Or.inl rfl) (pe_op op_cat (pv 2) (pe_lst (pa_cons pe_str (pa_cons pe_str (pa_cons pe_str (pa_cons pe_str (pa_cons pe_str (pa_cons pe_str (pa_cons pe_str (pa_cons pe_str pa_nil)))))))))))
          (pss_cons (ps_set (i := 2) sc_lkin.nd rfl (Or.inl rfl) (pe_op op_cat (pv 2) (pe_lst (pa_cons pe_str (pa_cons pe_str pa_nil)))))
          (pss_one (ps_ret (pe_join pe_str (by exact (pe_lcX (own := [("_law_word", 3), ("_law_kin_here", 4)]) (hotH hot) sc_lkin.nd (pi_zipX K (hotH hot).hot (by rfl) T.n_zip (pa_cons (pv 2) (pa_cons (pv 1) pa_nil))) (blkOk_by (own := [("_law_word", 3), ("_law_kin_here", 4)]) (N := N_lkin) (sc := defScope s_lkin) (by decide +kernel)) (fun _ _ _ _ _ hb => by exact (pg_tupX (n := 2) K hb (pgs_cons (pg_name (i := 3) sc_lkin.nd rfl (Or.inl rfl)) (pgs_cons (pg_name (i := 4) sc_lkin.nd rfl (Or.inl rfl)) pgs_nil)))) (fun _ _ _ _ _ => by exact (pts_one (pt_val (pv 4)))) (fun _ _ _ _ _ => by exact (pv 3)))))))))))))))), ?_⟩
    refine ⟨_, rfl, hd, _, _, _, rfl, is_ref, err.kin "BadDay" (by decide), _, rfl, hd, _, _, _, rfl, is_ref, err.kin "BadCount" (by decide), _, rfl, hd, _, _, _, rfl, is_ref, err.kin "BadTie" (by decide), _, rfl, hd, _, _, _, rfl, is_ref, err.kin "CantBe" (by decide), (by show 4 ≤ sizeLine; decide), fun q0 hq0 => ?_⟩
    have u0 := same_new (o := .lst [V.bl (decide (("BadDay" : Str) = D)), V.bl (decide (("BadCount" : Str) = D)), V.bl (decide (("BadTie" : Str) = D)), V.bl (decide (("CantBe" : Str) = D))]) hq0
    have s0 := u0
    refine ⟨_, rfl, _, rfl, (hd.mono s0), _, _, _, rfl, is_ref, err.kin "BadRow" (by decide), _, rfl, (hd.mono s0), _, _, _, rfl, is_ref, err.kin "BadName" (by decide), _, rfl, (hd.mono s0), _, _, _, rfl, is_ref, err.kin "Taken" (by decide), _, rfl, (hd.mono s0), _, _, _, rfl, is_ref, err.kin "Full" (by decide), (by show 4 ≤ sizeLine; decide), fun q1 hq1 => ?_⟩
    have u1 := same_new (o := .lst [V.bl (decide (("BadRow" : Str) = D)), V.bl (decide (("BadName" : Str) = D)), V.bl (decide (("Taken" : Str) = D)), V.bl (decide (("Full" : Str) = D))]) hq1
    refine ⟨q0, q1, _, _, rfl, rfl, u1 _ _ upd_same, upd_same, (by show 8 ≤ sizeLine; decide), fun q2 hq2 => ?_⟩
    have u2 := same_new (o := .lst [V.bl (decide (("BadDay" : Str) = D)), V.bl (decide (("BadCount" : Str) = D)), V.bl (decide (("BadTie" : Str) = D)), V.bl (decide (("CantBe" : Str) = D)), V.bl (decide (("BadRow" : Str) = D)), V.bl (decide (("BadName" : Str) = D)), V.bl (decide (("Taken" : Str) = D)), V.bl (decide (("Full" : Str) = D))]) hq2
    have s2 := (s0.trans u1).trans u2
    refine ⟨_, rfl, _, rfl, (hd.mono s2), _, _, _, rfl, is_ref, err.kin "Twice" (by decide), _, rfl, (hd.mono s2), _, _, _, rfl, is_ref, err.kin "GivenUp" (by decide), _, rfl, (hd.mono s2), _, _, _, rfl, is_ref, err.kin "Held" (by decide), _, rfl, (hd.mono s2), _, _, _, rfl, is_ref, err.kin "Idle" (by decide), (by show 4 ≤ sizeLine; decide), fun q3 hq3 => ?_⟩
    have u3 := same_new (o := .lst [V.bl (decide (("Twice" : Str) = D)), V.bl (decide (("GivenUp" : Str) = D)), V.bl (decide (("Held" : Str) = D)), V.bl (decide (("Idle" : Str) = D))]) hq3
    refine ⟨q2, q3, _, _, rfl, rfl, u3 _ _ upd_same, upd_same, (by show 12 ≤ sizeLine; decide), fun q4 hq4 => ?_⟩
    have u4 := same_new (o := .lst [V.bl (decide (("BadDay" : Str) = D)), V.bl (decide (("BadCount" : Str) = D)), V.bl (decide (("BadTie" : Str) = D)), V.bl (decide (("CantBe" : Str) = D)), V.bl (decide (("BadRow" : Str) = D)), V.bl (decide (("BadName" : Str) = D)), V.bl (decide (("Taken" : Str) = D)), V.bl (decide (("Full" : Str) = D)), V.bl (decide (("Twice" : Str) = D)), V.bl (decide (("GivenUp" : Str) = D)), V.bl (decide (("Held" : Str) = D)), V.bl (decide (("Idle" : Str) = D))]) hq4
    have s4 := (s2.trans u3).trans u4
    refine ⟨_, rfl, _, rfl, (hd.mono s4), _, _, _, rfl, is_ref, err.kin "Against" (by decide), _, rfl, (hd.mono s4), _, _, _, rfl, is_ref, err.kin "BadText" (by decide), _, rfl, (hd.mono s4), _, _, _, rfl, is_ref, err.kin "NoLife" (by decide), (by show 3 ≤ sizeLine; decide), fun q5 hq5 => ?_⟩
    have u5 := same_new (o := .lst [V.bl (decide (("Against" : Str) = D)), V.bl (decide (("BadText" : Str) = D)), V.bl (decide (("NoLife" : Str) = D))]) hq5
    refine ⟨q4, q5, _, _, rfl, rfl, u5 _ _ upd_same, upd_same, (by show 15 ≤ sizeLine; decide), fun q6 hq6 => ?_⟩
    have u6 := same_new (o := .lst [V.bl (decide (("BadDay" : Str) = D)), V.bl (decide (("BadCount" : Str) = D)), V.bl (decide (("BadTie" : Str) = D)), V.bl (decide (("CantBe" : Str) = D)), V.bl (decide (("BadRow" : Str) = D)), V.bl (decide (("BadName" : Str) = D)), V.bl (decide (("Taken" : Str) = D)), V.bl (decide (("Full" : Str) = D)), V.bl (decide (("Twice" : Str) = D)), V.bl (decide (("GivenUp" : Str) = D)), V.bl (decide (("Held" : Str) = D)), V.bl (decide (("Idle" : Str) = D)), V.bl (decide (("Against" : Str) = D)), V.bl (decide (("BadText" : Str) = D)), V.bl (decide (("NoLife" : Str) = D))]) hq6
    have s6 := (s4.trans u5).trans u6
    refine ⟨_, rfl, _, rfl, (hd.mono s6), _, _, _, rfl, is_ref, err.kin "NoHolding" (by decide), _, rfl, (hd.mono s6), _, _, _, rfl, is_ref, err.kin "NoPresentment" (by decide), _, rfl, (hd.mono s6), _, _, _, rfl, is_ref, err.kin "NoPlace" (by decide), (by show 3 ≤ sizeLine; decide), fun q7 hq7 => ?_⟩
    have u7 := same_new (o := .lst [V.bl (decide (("NoHolding" : Str) = D)), V.bl (decide (("NoPresentment" : Str) = D)), V.bl (decide (("NoPlace" : Str) = D))]) hq7
    refine ⟨q6, q7, _, _, rfl, rfl, u7 _ _ upd_same, upd_same, (by show 18 ≤ sizeLine; decide), fun q8 hq8 => ?_⟩
    have u8 := same_new (o := .lst [V.bl (decide (("BadDay" : Str) = D)), V.bl (decide (("BadCount" : Str) = D)), V.bl (decide (("BadTie" : Str) = D)), V.bl (decide (("CantBe" : Str) = D)), V.bl (decide (("BadRow" : Str) = D)), V.bl (decide (("BadName" : Str) = D)), V.bl (decide (("Taken" : Str) = D)), V.bl (decide (("Full" : Str) = D)), V.bl (decide (("Twice" : Str) = D)), V.bl (decide (("GivenUp" : Str) = D)), V.bl (decide (("Held" : Str) = D)), V.bl (decide (("Idle" : Str) = D)), V.bl (decide (("Against" : Str) = D)), V.bl (decide (("BadText" : Str) = D)), V.bl (decide (("NoLife" : Str) = D)), V.bl (decide (("NoHolding" : Str) = D)), V.bl (decide (("NoPresentment" : Str) = D)), V.bl (decide (("NoPlace" : Str) = D))]) hq8
    have s8 := (s6.trans u7).trans u8
    refine ⟨fun σ H' => ∃ q : Addr, σ = [some (.ref p.1), some (.ref q), none, none, none] ∧ Same H H' ∧ H' q = some (.lst ((kinF D).map V.bl)), ?_, ?_⟩
    · refine ⟨_, rfl, _, rfl, (hd.mono s8), _, _, _, rfl, is_ref, err.kin "Nothing" (by decide), ?_⟩
      cases look with
      | true =>
        refine ⟨_, rfl, (hd.mono s8), _, _, _, rfl, is_ty, err.ve, _, rfl, _, rfl, iteT ?_⟩
        refine ⟨_, rfl, (hd.mono s8), _, _, _, rfl, is_ty, err.le, _, rfl, (by show 2 ≤ sizeLine; decide), fun qa ha => ?_⟩
        have ua := same_new (o := .lst [V.bl (decide (("Nothing" : Str) = D)), .bl false]) ha
        refine ⟨q8, qa, _, _, rfl, rfl, ua _ _ upd_same, upd_same, (by show 20 ≤ sizeLine; decide), fun qb hb' => ?_⟩
        exact ⟨qb, rfl, (s8.trans ua).trans (same_new hb'), upd_same⟩
      | false =>
        refine ⟨_, rfl, (hd.mono s8), _, _, _, rfl, is_ty, err.ve, _, rfl, _, rfl, iteF ?_⟩
        refine ⟨(by show 2 ≤ sizeLine; decide), fun qa ha => ?_⟩
        have ua := same_new (o := .lst [V.bl (decide (("Nothing" : Str) = D)), .bl false]) ha
        refine ⟨q8, qa, _, _, rfl, rfl, ua _ _ upd_same, upd_same, (by show 20 ≤ sizeLine; decide), fun qb hb' => ?_⟩
        exact ⟨qb, rfl, (s8.trans ua).trans (same_new hb'), upd_same⟩
    rintro σ H9 ⟨q9, rfl, s9, h9⟩
    refine ⟨(by show 10 ≤ sizeLine; decide), fun wa hwa => ?_⟩
    have va := same_new (o := .lst [V.str "BadDay", .str "BadCount", .str "BadTie", .str "CantBe", .str "BadRow", .str "BadName", .str "Taken", .str "Full", .str "Twice", .str "GivenUp"]) hwa
    refine ⟨_, rfl, (by show 8 ≤ sizeLine; decide), fun wb hwb => ?_⟩
    have vb := same_new (o := .lst [V.str "Held", .str "Idle", .str "Against", .str "BadText", .str "NoLife", .str "NoHolding", .str "NoPresentment", .str "NoPlace"]) hwb
    refine ⟨wa, wb, _, _, rfl, rfl, vb _ _ upd_same, upd_same, (by show 18 ≤ sizeLine; decide), fun wc hwc => ?_⟩
    have vc := same_new (o := .lst [V.str "BadDay", .str "BadCount", .str "BadTie", .str "CantBe", .str "BadRow", .str "BadName", .str "Taken", .str "Full", .str "Twice", .str "GivenUp", .str "Held", .str "Idle", .str "Against", .str "BadText", .str "NoLife", .str "NoHolding", .str "NoPresentment", .str "NoPlace"]) hwc
    refine ⟨_, rfl, (by show 2 ≤ sizeLine; decide), fun wd hwd => ?_⟩
    have vd := same_new (o := .lst [V.str "Nothing", .str "odd"]) hwd
    refine ⟨wc, wd, _, _, rfl, rfl, vd _ _ upd_same, upd_same, (by show 20 ≤ sizeLine; decide), fun we hwe => ?_⟩
    have ve := same_new (o := .lst (kinW.map V.str)) hwe
    have v9 := (((va.trans vb).trans vc).trans vd).trans ve
    have s10 := s9.trans v9
    have h10 := v9 _ _ h9
    refine ⟨⟨_, rfl⟩, _, rfl, _, rfl, we, q9, _, _, rfl, SqL.of upd_same, SqL.of h10, fun E hE => ?_⟩
    have nE : H E = none := s10.free hE
    have ne1 : we ≠ E := ne_of_none upd_same hE
    have ne2 : q9 ≠ E := ne_of_none h10 hE
    refine lc_it (walk_zipX (K := K) (a := we) (b := q9) (n := 20) (xs := kinW.map V.str) (ys := (kinF D).map V.bl) rfl) (fun i H' => Same H H' ∧ H' we = some (.lst (kinW.map V.str)) ∧ H' q9 = some (.lst ((kinF D).map V.bl)) ∧ H' E = some (.lst ((((kinW.zip (kinF D)).take i).filter fun q => q.2).map fun q => V.str q.1)))
      ⟨s10.trans (same_new hE), by rw [upd_ne ne1]; exact upd_same, by rw [upd_ne ne2]; exact h10, upd_same⟩ (fun i H' _ ⟨_, a1, a2, _⟩ => ⟨SqL.of a1, SqL.of a2⟩) ?_ ?_
    · rintro i v H3 H4 hi ⟨s3, b1, b2, hq3⟩ ⟨T1, x1, x2, rfl, hT, rfl, g1, g2⟩
      obtain ⟨wd1, gw, rfl⟩ : ∃ z, kinW[i]? = some z ∧ x1 = V.str z := by
        rw [List.getElem?_map] at g1
        cases e : kinW[i]? with
        | none => rw [e] at g1; cases g1
        | some z => rw [e] at g1; exact ⟨z, rfl, (Option.some.inj g1).symm⟩
      obtain ⟨bb, gb, rfl⟩ : ∃ z, (kinF D)[i]? = some z ∧ x2 = V.bl z := by
        rw [List.getElem?_map] at g2
        cases e : (kinF D)[i]? with
        | none => rw [e] at g2; cases g2
        | some z => rw [e] at g2; exact ⟨z, rfl, (Option.some.inj g2).symm⟩
      have gz : (kinW.zip (kinF D))[i]? = some (wd1, bb) := by rw [List.getElem?_zip_eq_some]; exact ⟨gw, gb⟩
      have u4 := same_new (o := .tup [V.str wd1, .bl bb]) hT
      have hq4 := u4 _ _ hq3
      have fl := List.length_filter_le (fun q : Str × Bool => q.2) ((kinW.zip (kinF D)).take i)
      rw [List.length_take] at fl
      refine ⟨T1, _, rfl, SqT.of upd_same, rfl, _, _, rfl, _, _, rfl, rfl, rfl, ?_⟩
      refine ⟨_, rfl, _, rfl, ?_⟩
      cases bb with
      | true =>
        refine iteT ⟨_, rfl, _, hq4, sz_lt (by rw [List.length_map]; omega), same_mut (s3.trans u4) nE, by rw [upd_ne ne1]; exact u4 _ _ b1, by rw [upd_ne ne2]; exact u4 _ _ b2, ?_⟩
        rw [upd_same, List.take_succ, gz, List.filter_append, List.map_append]
        rfl
      | false =>
        refine iteF ⟨s3.trans u4, u4 _ _ b1, u4 _ _ b2, ?_⟩
        rw [hq4, List.take_succ, gz, List.filter_append, List.map_append]
        simp
    · rintro H3 ⟨s3, b1, b2, hq3⟩
      have e20 : (kinW.zip (kinF D)).take 20 = kinW.zip (kinF D) := List.take_of_length_le (by rw [List.length_zip]; exact Nat.min_le_left _ _)
      have hq5 : H3 E = some (.lst ([D].map V.str)) := by
        rw [hq3, e20, ← kin_end hD, List.map_map]
        rfl
      obtain ⟨j1, j2⟩ := kin_join hD
      have z0 : (Str.ofString "").length = 0 := by decide +kernel
      refine ⟨_, E, [D], rfl, rfl, .inl (SqL.of hq5), by simp; omega, ?_⟩
      rw [j1]
      exact k H3 s3

theorem sc_lmix : FnScope N_lmix ["_law_seed"] (defScope s_lmix) := ⟨rfl, rfl, rfl, by decide +kernel, rfl, by decide +kernel, by decide +kernel⟩
def sp_lmix : Sp := fun vs H Q _ => ∃ n : Int, vs = [.int n] ∧ ∀ r : Int, 0 ≤ r → r < 2147483563 → Q (.int r) H
theorem ok_lmix {f : Addr} {fd : FuncData} (F : FnP K "_law_mix" s_lmix f fd) (T : Txt K mg) : FnOk P w K mg base CX0 1 f fd ["_law_seed"] (sp_lmix) := by
  refine F.ok sc_lmix (fun vs H Q E h => ?_) (fun cdv A outer s H vs Q E hr h => ?_)
  · obtain ⟨n, rfl, _⟩ := h
    rfl
  · obtain ⟨n, rfl, k⟩ := h
    refine ⟨_, PSs.nox (pss_cons (ps_set (i := 1) sc_lmix.nd rfl (Or.inl rfl) (pe_op op_mod (pe_op op_add (pe_op op_mul (pv 0) pe_int) pe_int) pe_int))
          (pss_cons (ps_set (i := 2) sc_lmix.nd rfl (Or.inl rfl) (pe_op op_mod (pe_op op_add (pe_op op_add (pe_op op_mul (pv 1) (pv 1)) (pe_op op_mul pe_int (pv 1))) (pv 0)) pe_int))
          (pss_one (ps_ret (pe_op op_mod (pe_op op_add (pe_op op_add (pe_op op_mul (pv 2) (pv 2)) (pe_op op_mul pe_int (pv 2))) (pv 1)) pe_int))))), ?_⟩
    refine ⟨_, rfl, _, _, rfl, rfl, mulR (by decide) (by decide), _, _, rfl, rfl, _, _, rfl, rfl, (by decide : (0 : Int) < 2147483647), ?_⟩
    have a1 := Int.emod_nonneg (n * 48271 + 11) (by decide : (2147483647 : Int) ≠ 0)
    have a2 := Int.emod_lt_of_pos (n * 48271 + 11) (by decide : (0 : Int) < 2147483647)
    generalize (n * 48271 + 11) % 2147483647 = a at *
    refine ⟨_, rfl, _, rfl, _, _, rfl, rfl, mulL (by omega) (by omega), _, rfl, _, _, rfl, rfl, mulR (by omega) (by omega), _, _, rfl, rfl, _, rfl, _, _, rfl, rfl, _, _, rfl, rfl, (by decide : (0 : Int) < 2147483399), ?_⟩
    have b1 := Int.emod_nonneg (a * a + 40692 * a + n) (by decide : (2147483399 : Int) ≠ 0)
    have b2 := Int.emod_lt_of_pos (a * a + 40692 * a + n) (by decide : (0 : Int) < 2147483399)
    generalize (a * a + 40692 * a + n) % 2147483399 = b at *
    refine ⟨_, rfl, _, rfl, _, _, rfl, rfl, mulL (by omega) (by omega), _, rfl, _, _, rfl, rfl, mulR (by omega) (by omega), _, _, rfl, rfl, _, rfl, _, _, rfl, rfl, _, _, rfl, rfl, (by decide : (0 : Int) < 2147483563), ?_⟩
    exact k _ (Int.emod_nonneg _ (by decide)) (Int.emod_lt_of_pos _ (by decide))

theorem sc_lraw : FnScope N_lraw ["_law_script", "_law_k"] (defScope s_lraw) := ⟨rfl, rfl, rfl, by decide +kernel, rfl, by decide +kernel, by decide +kernel⟩
def sp_lraw (K : PySem.W.Frag) : Sp := fun vs H Q _ => ∃ (a : Addr) (ns : List Int) (n : Int), vs = [.ref a, .int n] ∧ SqL K H a (ns.map V.int) ∧ ns.length ≤ 63 ∧ ∀ r : Int, Q (.int r) H
theorem ok_lraw {f : Addr} {fd : FuncData} (F : FnP K "_law_raw" s_lraw f fd) (T : Txt K mg) (C_lmix : Own P w K mg base "_law_mix" ["_law_seed"] 1 (sp_lmix)) : FnOk P w K mg base CX0 2 f fd ["_law_script", "_law_k"] (sp_lraw K) := by
  refine F.ok sc_lraw (fun vs H Q E h => ?_) (fun cdv A outer s H vs Q E hr h => ?_)
  · obtain ⟨a, ns, n, rfl, _⟩ := h
    rfl
  · obtain ⟨a, ns, n, rfl, hS, hlen, k⟩ := h
    refine ⟨_, PSs.nox (pss_cons (ps_set (i := 2) sc_lraw.nd rfl (Or.inl rfl) (pe_op op_add (pe_op op_mul pe_int (pv 1)) pe_int))
          (C8.pss_cut (ps_if (pt_cmpR op_gt (pe_callB (lenK K) (by rfl) T.n_len (by decide +kernel) (pa_cons (pv 0) pa_nil)) pe_int (nomark _)) (pss_one (ps_set (i := 2) sc_lraw.nd rfl (Or.inl rfl) (pe_op op_add (pe_ix (ixl K) (pv 0) (pe_op op_mod (pv 1) (pe_callB (lenK K) (by rfl) T.n_len (by decide +kernel) (pa_cons (pv 0) pa_nil))) (fun _ _ => rfl)) (pe_op op_mul pe_int (pe_op op_fdivW (pv 1) (pe_callB (lenK K) (by rfl) T.n_len (by decide +kernel) (pa_cons (pv 0) pa_nil))))))) pss_nil)
          (C8.pss_cut (ps_if (PW.pt (pw_and (pt_cmpR op_lt (pv 1) (pe_callB (lenK K) (by rfl) T.n_len (by decide +kernel) (pa_cons (pv 0) pa_nil)) (nomark _)) (pw_and1 (pt_cmpR op_ge (pv 2) (pe_op op_pow pe_int pe_int) (nomark _))))) (pss_one (ps_ret (pe_op op_sub (pv 2) (pe_op op_pow pe_int pe_int)))) pss_nil)
          (pss_cons (ps_set (i := 3) sc_lraw.nd rfl (Or.inl rfl) pe_int)
          (C8.pss_cut (ps_for PassesOwn.never rfl (pi_range1 (by rfl) T.n_range (pa_cons pe_int pa_nil)) (pg_name (i := 4) sc_lraw.nd rfl (Or.inl rfl))
            (pss_one (ps_set (i := 3) sc_lraw.nd rfl (Or.inl rfl) (pe_op op_add (pe_op op_mul (pv 3) pe_int) (pe_own C_lmix (hr.mono (by omega)) (pa_cons (pe_op op_add (pe_op op_add (pv 2) (pe_op op_mul pe_int (pv 1))) (pe_op op_mul pe_int (pv 4))) pa_nil))))))
          (pss_one (ps_ret (pv 3)))))))), ?_⟩
    have hlm : (ns.map V.int).length = ns.length := List.length_map ..
    refine ⟨_, rfl, _, _, rfl, rfl, mulL (by decide) (by decide), _, _, rfl, rfl, ?_⟩
    refine ⟨fun σ H' => H' = H ∧ ∃ c : Int, σ = [some (.ref a), some (.int n), some (.int c), none, none], ?_, ?_⟩
    · refine ⟨_, rfl, _, _, rfl, .inl hS, _, _, rfl, rfl, _, rfl, ?_⟩
      refine ite2 (fun c1 => ?_) (fun _ => ⟨rfl, _, rfl⟩)
      have hpos : (0 : Int) < ((ns.map V.int).length : Int) := of_decide_eq_true c1
      have hm1 := Int.emod_nonneg n (by omega : ((ns.map V.int).length : Int) ≠ 0)
      have hm2 := Int.emod_lt_of_pos n hpos
      obtain ⟨v, hv⟩ : ∃ v, ns[(n % ((ns.map V.int).length : Int)).toNat]? = some v := ⟨_, List.getElem?_eq_getElem (by omega)⟩
      refine ⟨_, rfl, _, rfl, _, rfl, _, _, rfl, .inl hS, _, _, rfl, rfl, hpos, _, _, _, _, rfl, rfl, hS, at_of (j := (n % ((ns.map V.int).length : Int)).toNat) (by omega) (by rw [List.getElem?_map, hv]; rfl), ?_⟩
      refine ⟨_, rfl, _, rfl, _, _, rfl, .inl hS, _, _, rfl, rfl, wide_div hpos (b := 10) (by omega) (by decide) (by decide), _, _, rfl, rfl, mulL (by decide) (by decide), _, _, rfl, rfl, ?_⟩
      exact ⟨rfl, _, rfl⟩
    · rintro σ H' ⟨rfl, c, rfl⟩
      refine ⟨fun σ H2 => H2 = H' ∧ σ = [some (.ref a), some (.int n), some (.int c), none, none], ?_, ?_⟩
      · refine ⟨_, rfl, _, rfl, _, _, rfl, .inl hS, _, _, rfl, rfl, _, rfl, ?_⟩
        refine ite2 (fun _ => ?_) (fun _ => iteF ⟨rfl, rfl⟩)
        refine ⟨_, rfl, _, _, rfl, rfl, ⟨by decide, by decide, by decide⟩, _, _, rfl, rfl, _, rfl, ?_⟩
        refine ite2 (fun _ => ?_) (fun _ => ⟨rfl, rfl⟩)
        refine ⟨_, rfl, _, _, rfl, rfl, ⟨by decide, by decide, by decide⟩, _, _, rfl, rfl, k _⟩
      · rintro σ H2 ⟨rfl, rfl⟩
        refine ⟨fun σ H3 => H3 = H2 ∧ ∃ (r : Int) (v : Option V), σ = [some (.ref a), some (.int n), some (.int c), some (.int r), v], ?_, ?_⟩
        · refine ⟨40, rfl, by decide, by decide, for_range (lo := 0) (n := 40) (fun i σ H3 => H3 = H2 ∧ ∃ (r : Int) (v : Option V), σ = [some (.ref a), some (.int n), some (.int c), some (.int r), v]) ⟨rfl, 0, none, rfl⟩ ?_ ?_⟩
          · rintro i σ H3 hi ⟨rfl, r, v, rfl⟩
            refine ⟨_, rfl, _, _, rfl, rfl, mulR (by decide) (by decide), _, rfl, _, rfl, _, _, rfl, rfl, mulL (by decide) (by decide), _, _, rfl, rfl, _, rfl, _, _, rfl, rfl, mulL (by decide) (by decide), _, _, rfl, rfl, _, rfl, fun m _ _ => ?_⟩
            exact ⟨_, _, rfl, rfl, rfl, _, _, rfl⟩
          · rintro σ H3 ⟨rfl, r, v, rfl⟩
            exact ⟨rfl, r, v, rfl⟩
        · rintro σ H3 ⟨rfl, r, v, rfl⟩
          exact ⟨_, rfl, k r⟩

theorem sc_ldigits : FnScope N_ldigits ["_law_script", "_law_k", "_law_sizes"] (defScope s_ldigits) := ⟨rfl, rfl, rfl, by decide +kernel, rfl, by decide +kernel, by decide +kernel⟩
/-- the sizes and the digits drawn by them -/
def DigOk : List Int → List Int → Prop
  | [], [] => True
  | s :: ss, d :: ds => 0 ≤ d ∧ d < s ∧ DigOk ss ds
  | _, _ => False
theorem DigOk.length : ∀ {ss ds : List Int}, DigOk ss ds → ds.length = ss.length
  | [], [], _ => rfl
  | _ :: ss, _ :: ds, h => by
    have := DigOk.length h.2.2
    simp [this]
theorem DigOk.snoc : ∀ {ss ds : List Int} {s d : Int}, DigOk ss ds → 0 ≤ d → d < s → DigOk (ss ++ [s]) (ds ++ [d])
  | [], [], _, _, _, h1, h2 => ⟨h1, h2, trivial⟩
  | _ :: ss, _ :: ds, _, _, h, h1, h2 => ⟨h.1, h.2.1, DigOk.snoc h.2.2 h1 h2⟩
theorem DigOk.inv {s : Int} {ss ds : List Int} (h : DigOk (s :: ss) ds) : ∃ d r, ds = d :: r ∧ 0 ≤ d ∧ d < s ∧ DigOk ss r := by
  cases ds with
  | nil => exact h.elim
  | cons d r => exact ⟨d, r, rfl, h.1, h.2.1, h.2.2⟩
theorem DigOk.inv0 {ds : List Int} (h : DigOk [] ds) : ds = [] := by
  cases ds with
  | nil => rfl
  | cons d r => exact h.elim
theorem DigOk.rep : ∀ {n : Nat} {s : Int} {ds : List Int}, DigOk (List.replicate n s) ds → ds.length = n ∧ ∀ x ∈ ds, 0 ≤ x ∧ x < s
  | 0, s, ds, h => by
    rw [DigOk.inv0 h]
    exact ⟨rfl, fun x hx => by cases hx⟩
  | n + 1, s, ds, h => by
    obtain ⟨d, r, rfl, h1, h2, h3⟩ := DigOk.inv h
    obtain ⟨h4, h5⟩ := DigOk.rep h3
    refine ⟨by simp [h4], fun x hx => ?_⟩
    cases hx with
    | head => exact ⟨h1, h2⟩
    | tail _ hx => exact h5 x hx
def sp_ldigits (K : PySem.W.Frag) : Sp := fun vs H Q _ => ∃ (a b : Addr) (ns ss : List Int) (n : Int), vs = [.ref a, .int n, .ref b] ∧ SqL K H a (ns.map V.int) ∧ ns.length ≤ 63 ∧ SqL K H b (ss.map V.int) ∧ ss.length ≤ 1000 ∧ (∀ s ∈ ss, 0 < s ∧ s ≤ 10 ^ 29) ∧
  ∀ (p : Addr) (ds : List Int) (H' : Hp), H p = none → Same H H' → H' p = some (.lst (ds.map V.int)) → DigOk ss ds → Q (.ref p) H'
theorem ok_ldigits {f : Addr} {fd : FuncData} (F : FnP K "_law_digits" s_ldigits f fd) (T : Txt K mg) (C_lraw : Own P w K mg base "_law_raw" ["_law_script", "_law_k"] 2 (sp_lraw K)) : FnOk P w K mg base CX0 3 f fd ["_law_script", "_law_k", "_law_sizes"] (sp_ldigits K) := by
  refine F.ok sc_ldigits (fun vs H Q E h => ?_) (fun cdv A outer s H vs Q E hr h => ?_)
  · obtain ⟨a, b, ns, ss, n, rfl, _⟩ := h
    rfl
  · obtain ⟨a, b, ns, ss, n, rfl, hS, hlen, hB, hbl, hpos, k⟩ := h
    refine ⟨_, PSs.nox (pss_cons (ps_set (i := 3) sc_ldigits.nd rfl (Or.inl rfl) (pe_own C_lraw (hr.mono (by omega)) (pa_cons (pv 0) (pa_cons (pv 1) pa_nil))))
          (pss_cons (ps_set (i := 4) sc_ldigits.nd rfl (Or.inl rfl) (pe_lst pa_nil))
          (C8.pss_cut (ps_for PassesOwn.never rfl (pilK K (pv 2)) (pg_name (i := 5) sc_ldigits.nd rfl (Or.inl rfl))
            (pss_cons (ps_expr (pe_bm PySem.F.plainAttrs_list PySem.F.slot_list_append PySem.F.type_list_append mt_append (pv 4) (pa_cons (pe_op op_mod (pv 3) (pv 5)) pa_nil)))
              (pss_one (ps_set (i := 3) sc_ldigits.nd rfl (Or.inl rfl) (pe_op op_fdivW (pv 3) (pv 5))))))
          (pss_one (ps_ret (pv 4)))))), ?_⟩
    refine ⟨_, rfl, _, rfl, a, ns, n, rfl, hS, hlen, fun r => ?_⟩
    refine ⟨Nat.zero_le _, fun p hp => ?_⟩
    refine ⟨fun σ H' => ∃ (ds : List Int), σ[4]? = some (some (.ref p)) ∧ Same H H' ∧ H' p = some (.lst (ds.map V.int)) ∧ DigOk ss ds, ?_, ?_⟩
    · refine ⟨_, rfl, b, rfl, ⟨_, (same_new hp).seq hB⟩, for_list (K := K) (a := b) (xs := ss.map V.int) (fun i σ H' => ∃ (r : Int) (ds : List Int) (v : Option V), σ = [some (.ref a), some (.int n), some (.ref b), some (.int r), some (.ref p), v] ∧ Same H H' ∧ H' p = some (.lst (ds.map V.int)) ∧ DigOk (ss.take i) ds)
        ⟨r, [], none, rfl, same_new hp, upd_same, trivial⟩ (fun i σ H' _ ⟨_, _, _, _, s1, _⟩ => s1.seq hB) ?_ ?_⟩
      · rintro i y σ H' hi ⟨r, ds, v, rfl, s1, hq, hd⟩
        obtain ⟨z, hz, rfl⟩ := get_ints hi
        have hzz := hpos z (List.mem_of_getElem? hz)
        have hdl := hd.length
        rw [List.length_take] at hdl
        refine ⟨_, rfl, .inl ⟨rfl, _, SqL.of hq⟩, _, rfl, _, rfl, _, _, rfl, rfl, hzz.1, p, _, _, rfl, rfl, hq, sz_lt (by rw [List.length_map]; omega), ?_⟩
        refine ⟨_, rfl, _, rfl, _, _, rfl, rfl, wide_div hzz.1 (b := 100) (by omega) (by decide) (by decide), ?_⟩
        refine ⟨_, ds ++ [r % z], _, rfl, same_mut s1 hp, ?_, ?_⟩
        · rw [upd_same, List.map_append]
          rfl
        · rw [List.take_succ, hz]
          exact hd.snoc (Int.emod_nonneg _ (by omega)) (Int.emod_lt_of_pos _ hzz.1)
      · rintro σ H' ⟨r, ds, v, rfl, s1, hq, hd⟩
        rw [List.length_map, List.take_length] at hd
        exact ⟨ds, rfl, s1, hq, hd⟩
    · rintro σ H' ⟨ds, e4, s1, hq, hd⟩
      exact ⟨_, e4, k p ds H' hp s1 hq hd⟩

theorem sc_lnum : FnScope N_lnum ["_law_told"] (defScope s_lnum) := ⟨rfl, rfl, rfl, by decide +kernel, rfl, by decide +kernel, by decide +kernel⟩
def sp_lnum (K : PySem.W.Frag) : Sp := fun vs H Q _ => ∃ x : Int, vs = [.int x] ∧ Q (.bl true) H
theorem ok_lnum {f : Addr} {fd : FuncData} (F : FnP K "_law_num" s_lnum f fd) (T : Txt K mg) : FnOk P w K mg base CX0 1 f fd ["_law_told"] (sp_lnum K) := by
  refine F.ok sc_lnum (fun vs H Q E h => ?_) (fun cdv A outer s H vs Q E hr h => ?_)
  · obtain ⟨x, rfl, _⟩ := h
    rfl
  · obtain ⟨x, rfl, k⟩ := h
    refine ⟨_, PSs.nox (pss_one (ps_ret (pe_and (pe_callB (isiK K) (by rfl) T.n_isinstance (by decide +kernel) (pa_cons (pv 0) (pa_cons (pe_bltn (v := .ty "int") (by rfl) T.n_int (by decide +kernel) rfl) pa_nil))) (pe_one (pe_not (pe_callB (isiK K) (by rfl) T.n_isinstance (by decide +kernel) (pa_cons (pv 0) (pa_cons (pe_bltn (v := .ty "bool") (by rfl) T.n_bool (by decide +kernel) rfl) pa_nil)))))))), ?_⟩
    refine ⟨_, rfl, _, _, _, _, _, rfl, .ty _, .base (.int x), kit_ty (r := true) (by decide +kernel), _, rfl, iteT ?_⟩
    exact ⟨_, rfl, _, _, _, _, _, rfl, .ty _, .base (.int x), kit_ty (r := false) (by decide +kernel), _, rfl, k⟩

theorem sc_Span___eq__ : FnScope N_Span___eq__ ["self", "other"] (defScope s_Span___eq__) := ⟨rfl, rfl, rfl, by decide +kernel, rfl, by decide +kernel, by decide +kernel⟩
def sp_Span___eq__ (K : PySem.W.Frag) : Sp := fun vs H Q _ => ∃ (v y : V) (s : Int × Int), vs = [v, y] ∧ SpanAt K H v s ∧ ((∃ r, SpanAt K H y r ∧ Q (.bl (decide (s = r))) H) ∨ ∃ d, Dp K H y d ∧ Q (.bl false) H)
theorem eq_span {K : PySem.W.Frag} (F : SpanF K) {H : Hp} {v y : V} {s r : Int × Int} {Q : VK} (hv : SpanAt K H v s) (hy : SpanAt K H y r) (q : Q (.bl (decide (s = r))) H) : rEqO K (He.ga K "Span") (sp_Span___eq__ K) v y H Q := by
  obtain ⟨a, dx, rfl, h⟩ := id hv
  exact ⟨a, dx, _, _, rfl, h, hy.ty F, SpanF.nfs, _, y, s, rfl, hv, .inl ⟨r, hy, _, rfl, q⟩⟩
theorem eq_data {K : PySem.W.Frag} (F : SpanF K) {H : Hp} {v y : V} {s : Int × Int} {d : PyData} {Q : VK} (hv : SpanAt K H v s) (hy : Dp K H y d) (q : Q (.bl false) H) : rEqO K (He.ga K "Span") (sp_Span___eq__ K) v y H Q := by
  obtain ⟨a, dx, rfl, h⟩ := id hv
  exact ⟨a, dx, _, _, rfl, h, tyX_of hy, F.nf d, _, y, s, rfl, hv, .inr ⟨d, hy, _, rfl, q⟩⟩
theorem ok_Span___eq__ {f : Addr} {fd : FuncData} (F : FunD K "__eq__" "Span.__eq__" (defArgs s_Span___eq__) (defBody s_Span___eq__) (defScope s_Span___eq__) [] [] f fd) (T : Txt K mg) : FnOk P w K mg base (L2N.CX P w) 1 f fd ["self", "other"] (sp_Span___eq__ K) := by
  refine F.ok sc_Span___eq__ (fun vs H Q E h => ?_) (fun cdv A outer s H vs Q E hr h => ?_)
  · obtain ⟨v, y, s, rfl, _⟩ := h
    rfl
  · obtain ⟨v, y, s, rfl, hv, k⟩ := h
    refine ⟨_, (pss_one (ps_ret (pe_and (pe_callB (isiK K) (by rfl) T.n_isinstance (by decide +kernel) (pa_cons (pv 1) (pa_cons (pe_cls T.g_Span) pa_nil))) (pe_and (pe_cmpR op_eq (fldK K (pv 0) rfl) (fldK K (pv 1) rfl) (nomark _)) (pe_one (pe_cmpR op_eq (fldK K (pv 0) rfl) (fldK K (pv 1) rfl) (nomark _))))))), ?_⟩
    rcases k with ⟨r, hy, k⟩ | ⟨d, hy, k⟩
    · refine ⟨_, rfl, _, _, _, _, _, rfl, .own _, hy.ty T.f_Span, T.f_Span.ks, _, rfl, iteT ?_⟩
      refine t_first T.f_Span hv (t_var rfl) (t_first T.f_Span hy (t_var rfl) ⟨rfl, _, rfl, ?_⟩)
      by_cases c1 : s.1 = r.1
      · refine iteD (by rw [c1]) ?_
        refine t_until T.f_Span hv (t_var rfl) (t_until T.f_Span hy (t_var rfl) ⟨rfl, ?_⟩)
        have e : decide (s = r) = decide (V.int s.2 = V.int r.2) := by
          by_cases c2 : s.2 = r.2
          · rw [decide_eq_true (show s = r from Prod.ext c1 c2), decide_eq_true (by rw [c2])]
          · rw [decide_eq_false (fun z => c2 (by rw [z])), decide_eq_false (fun z => c2 (by injection z))]
        rw [e] at k
        exact k
      · refine iteDF (fun z => c1 (by injection z)) ?_
        rw [decide_eq_false (fun z => c1 (by rw [z]))] at k
        exact k
    · refine ⟨_, rfl, _, _, _, _, _, rfl, .own _, tyX_of hy, T.f_Span.kd _ (tyN_mem d), _, rfl, iteF k⟩

theorem sc_lspan : FnScope N_lspan ["_law_told", "_law_due_here"] (defScope s_lspan) := ⟨rfl, rfl, rfl, by decide +kernel, rfl, by decide +kernel, by decide +kernel⟩
def sp_lspan (K : PySem.W.Frag) : Sp := fun vs H Q _ => ∃ (v d : V) (o : Option (Int × Int)), vs = [v, d] ∧ SpanOpt K H v o ∧ PairOpt H d o ∧ (∀ s, o = some s → SpanOk s) ∧ ∀ H', Same H H' → Q (.bl true) H'
theorem ok_lspan {f : Addr} {fd : FuncData} (F : FnP K "_law_span" s_lspan f fd) (T : Txt K mg) (C_lnum : Own P w K mg base "_law_num" ["_law_told"] 1 (sp_lnum K)) (C_Span___init__ : MakX P w K mg base "Span" ["self", "first", "until"] 1 (sp_Span___init__ K)) (C_Span___eq__ : MetX P w K mg base "Span" "__eq__" ["self", "other"] 1 (sp_Span___eq__ K)) : FnOk P w K mg base CX0 3 f fd ["_law_told", "_law_due_here"] (sp_lspan K) := by
  refine F.ok sc_lspan (fun vs H Q E h => ?_) (fun cdv A outer s H vs Q E hr h => ?_)
  · obtain ⟨v, d, o, rfl, _⟩ := h
    rfl
  · obtain ⟨v, d, o, rfl, hv, hd, ok, k⟩ := h
    refine ⟨_, PSs.nox (C8.pss_cut (ps_if (PW.pt (pw_or (pt_cmpR op_isN (pv 1) pe_non (nomark _)) (pw_or1 (pt_cmpR op_isN (pv 0) pe_non (nomark _))))) (pss_one (ps_ret (pe_and (pe_cmpR op_isN (pv 1) pe_non (nomark _)) (pe_one (pe_cmpR op_isN (pv 0) pe_non (nomark _)))))) pss_nil)
          (C8.pss_cut (ps_if (PW.pt (pw_or (pt_not (pt_val (pe_callB (isiK K) (by rfl) T.n_isinstance (by decide +kernel) (pa_cons (pv 0) (pa_cons (pe_cls T.g_Span) pa_nil))))) (pw_or (pt_not (pt_val (pe_own C_lnum (hr.mono (by omega)) (pa_cons (fldK K (pv 0) rfl) pa_nil)))) (pw_or1 (pt_not (pt_val (pe_own C_lnum (hr.mono (by omega)) (pa_cons (fldK K (pv 0) rfl) pa_nil)))))))) (pss_one (ps_ret pe_bl)) pss_nil)
          (pss_one (ps_ret (pe_and (pe_cmpR (eqDK K hr.units) (pe_tup (pa_cons (fldK K (pv 0) rfl) (pa_cons (fldK K (pv 0) rfl) pa_nil))) (pv 1) (nomark _)) (pe_one (pe_cmpR (eqO K C_Span___eq__ (hr.mono (by omega))) (pv 0) (pe_mkN K C_Span___init__ (hr.mono (by omega)) (pa_cons (pe_ix (ixt K) (pv 1) pe_int (fun _ _ => rfl)) (pa_cons (pe_ix (ixt K) (pv 1) pe_int (fun _ _ => rfl)) pa_nil))) (nomark _)))))))), ?_⟩
    cases o with
    | none =>
      cases (show v = .non from hv)
      cases (show d = .non from hd)
      refine ⟨fun _ _ => False, ?_, fun _ _ z => z.elim⟩
      refine ⟨_, rfl, rfl, _, rfl, iteT ?_⟩
      exact ⟨_, rfl, rfl, _, rfl, iteT ⟨_, rfl, rfl, k H (Same.refl H)⟩⟩
    | some s =>
      have ok := ok s rfl
      replace hv : SpanAt K H v s := hv
      obtain ⟨p, rfl, hp⟩ := hd
      refine ⟨fun σ H1 => σ = [some v, some (.ref p)] ∧ H1 = H, ?_, ?_⟩
      · refine ⟨_, rfl, rfl, _, rfl, iteDF (by intro z; cases z) ?_⟩
        refine ⟨_, rfl, rfl, _, rfl, iteDF ?_ ⟨rfl, rfl⟩⟩
        obtain ⟨a, dx, rfl, _⟩ := hv
        intro z
        cases z
      rintro σ H1 ⟨rfl, rfl⟩
      refine ⟨fun σ H2 => σ = [some v, some (.ref p)] ∧ H2 = H1, ?_, ?_⟩
      · refine ⟨_, rfl, _, _, _, _, _, rfl, .own _, hv.ty T.f_Span, T.f_Span.ks, _, rfl, iteF ?_⟩
        refine t_first T.f_Span hv (t_var rfl) ⟨_, rfl, _, rfl, iteF ?_⟩
        exact t_until T.f_Span hv (t_var rfl) ⟨_, rfl, _, rfl, iteF ⟨rfl, rfl⟩⟩
      rintro σ H2 ⟨rfl, rfl⟩
      refine t_first T.f_Span hv (t_var rfl) (t_until T.f_Span hv (t_var rfl) ⟨(by show 2 ≤ sizeLine; decide), fun q hq => ?_⟩)
      have u1 := same_new (o := .tup [V.int s.1, .int s.2]) hq
      have sh : SeqAt.shaped (.tuple [.int s.1, .int s.2]) = true := rfl
      refine ⟨_, rfl, .tuple [.int s.1, .int s.2], .tuple [.int s.1, .int s.2], .tup (SqT.of upd_same) (.cons (.int _) (.cons (.int _) .nil)), .tup (SqT.of (u1 _ _ hp)) (.cons (.int _) (.cons (.int _) .nil)), sh, sh, _, rfl, ?_⟩
      rw [eqv_self sh]
      refine iteT ?_
      refine ⟨_, rfl, _, rfl, p, _, _, _, rfl, rfl, SqT.of (u1 _ _ hp), rfl, _, rfl, p, _, _, _, rfl, rfl, SqT.of (u1 _ _ hp), rfl, ?_⟩
      refine fun x dx nx ndx ne => mk_span nx ndx (fun _ H3 s3 hx => ⟨rfl, ?_⟩) (fun no => absurd ok no)
      refine eq_span T.f_Span (hv.mono (u1.trans s3)) hx ?_
      rw [decide_eq_true (show s = (s.1, s.2) from rfl)]
      exact k H3 (u1.trans s3)

theorem sc_lread : FnScope N_lread ["_law_text"] (defScope s_lread) := ⟨rfl, rfl, rfl, by decide +kernel, rfl, by decide +kernel, by decide +kernel⟩
def sp_lread (K : PySem.W.Frag) : Sp := fun vs H Q _ => ∃ (l : List Nat), vs = [.str (tx l)] ∧ l.length ≤ 5000 ∧
  ∀ p v w H', Same H H' → H' p = some (.tup [v, w]) → SpanOpt K H' v (readS l) → ((readS l = none ∧ ∃ q, w = .ref q ∧ H' q = some (.tup [.str "BadText", .int 0])) ∨ (readS l ≠ none ∧ w = .non)) → Q (.ref p) H'
theorem ok_lread {f : Addr} {fd : FuncData} (F : FnP K "_law_read" s_lread f fd) (T : Txt K mg) (C_read_span : OwnX P w K mg base "read_span" ["text"] 4 (sp_read_span K)) (C_lkin : OwnE P w K mg base "_law_kin" ["_law_e"] 1 (sp_lkin K)) : FnOk P w K mg base CX0 5 f fd ["_law_text"] (sp_lread K) := by
  refine F.ok sc_lread (fun vs H Q E h => ?_) (fun cdv A outer s H vs Q E hr h => ?_)
  · obtain ⟨l, rfl, _⟩ := h
    rfl
  · obtain ⟨l, rfl, hl, k⟩ := h
    refine ⟨_, PSs.nox (pss_cons (ps_set (i := 1) sc_lread.nd rfl (Or.inl rfl) pe_non)
          (pss_cons (ps_set (i := 2) sc_lread.nd rfl (Or.inl rfl) pe_non)
          (C8.pss_cut (L2N.ps_try_as (i := 3) rfl rfl sc_lread.nd rfl rfl ⟨rfl, by decide, .inl T.g_BadText⟩ takesN (fun W pn xe tk po => (pss_one (ps_set (i := 1) sc_lread.nd rfl (Or.inl rfl) (pe_ownX C_read_span (hr.mono (by omega)) tk (pa_cons (pv 0) pa_nil))))) (fun a oe cls d pn hz hf => (pss_one (ps_set (i := 2) sc_lread.nd rfl (Or.inl rfl) (pe_tup (pa_cons (pe_callE C_lkin (roomS (hr.mono (by omega))) hz hf (pa_cons (pv 3) pa_nil)) (pa_cons (pe_xf T.i_BadText.xf T.i_BadText.fld hz.zc hf (pv 3)) pa_nil)))))))
          (pss_one (ps_ret (pe_tup (pa_cons (pv 1) (pa_cons (pv 2) pa_nil)))))))), ?_⟩
    refine ⟨fun σ H1 => (∃ v w v3, σ = [some (.str (tx l)), some v, some w, v3] ∧ SpanOpt K H1 v (readS l) ∧ ((readS l = none ∧ ∃ q, w = .ref q ∧ H1 q = some (.tup [.str "BadText", .int 0])) ∨ (readS l ≠ none ∧ w = .non))) ∧ Same H H1, ?_, ?_⟩
    · refine ⟨_, rfl, l, rfl, hl, fun s hs v H1 s1 hv => ?_, fun hn d H1 s1 nd hd => ?_⟩
      · refine ⟨⟨_, _, _, rfl, ?_, .inr ⟨by rw [hs]; simp, rfl⟩⟩, s1⟩
        rw [hs]
        exact hv
      · refine ⟨true, T.i_BadText.me, fun _ a ha => ?_, fun z => by cases z⟩
        refine ⟨_, rfl, "BadText", false, by decide, T.i_BadText.q, rfl, rfl, fun dd e => ⟨_, by cases e; exact hd⟩, fun H2 s2 => ?_⟩
        refine ⟨_, rfl, rfl, rfl, d, _, _, rfl, s2 _ _ hd, rfl, (by show 2 ≤ sizeLine; decide), fun q nq => ?_⟩
        refine ⟨⟨_, _, _, rfl, ?_, .inl ⟨hn, q, rfl, upd_same⟩⟩, (s1.trans s2).trans (same_new nq)⟩
        rw [hn]
        rfl
    rintro σ H1 ⟨⟨v, w, v3, rfl, hv, hw⟩, s1⟩
    refine ⟨_, rfl, _, rfl, (by show 2 ≤ sizeLine; decide), fun p np => ?_⟩
    have u := same_new (o := .tup [v, w]) np
    refine k p v w _ (s1.trans u) upd_same (SpanOpt.mono u hv) ?_
    rcases hw with ⟨h1, q, h2, h3⟩ | h
    · exact .inl ⟨h1, q, h2, u _ _ h3⟩
    · exact .inr h

theorem sc_ldue : FnScope N_ldue ["_law_text"] (defScope s_ldue) := ⟨rfl, rfl, rfl, by decide +kernel, rfl, by decide +kernel, by decide +kernel⟩
def sp_ldue (K : PySem.W.Frag) : Sp := fun vs H Q _ => ∃ (l : List Nat), vs = [.str (tx l)] ∧ l.length ≤ 5000 ∧ ∀ v H', Same H H' → PairOpt H' v (readS l) → Q v H'
theorem ok_ldue {f : Addr} {fd : FuncData} (F : FnP K "_law_due" s_ldue f fd) (T : Txt K mg) : FnOk P w K mg base CX0 1 f fd ["_law_text"] (sp_ldue K) := by
  refine F.ok sc_ldue (fun vs H Q E h => ?_) (fun cdv A outer s H vs Q E hr h => ?_)
  · obtain ⟨l, rfl, _⟩ := h
    rfl
  · obtain ⟨l, rfl, hl, k⟩ := h
    refine ⟨_, PSs.nox (C8.pss_cut (ps_if (PW.pt (pw_or (pt_cmpR op_ne (pe_callB call_len_str (by rfl) T.n_len (by decide +kernel) (pa_cons (pv 0) pa_nil)) pe_int (nomark _)) (pw_or (pt_cmpR op_ne (pe_ix ix_str (pv 0) pe_int (fun _ _ => rfl)) pe_str (nomark _)) (pw_or1 (pt_not (pt_val (pe_callB (allK K rfl) (by rfl) T.n_all (by decide +kernel) (pa_cons (by exact (pe_lc (own := [("_law_sign", 1)]) rfl sc_ldue.nd (pi_str (pe_op op_add_str (pe_slice sl_str (pv 0) po_none (po_some pe_int)) (pe_slice sl_str (pv 0) (po_some pe_int) po_none))) (blkOk_by (own := [("_law_sign", 1)]) (N := N_ldue) (sc := defScope s_ldue) (by decide +kernel)) (fun _ _ _ _ _ => by exact (pg_name (i := 1) sc_ldue.nd rfl (Or.inl rfl))) (fun _ _ _ _ _ => by exact pts_nil) (fun _ _ _ _ _ => by exact (pe_cmpR op_in_sign (pv 1) pe_str (by rfl))))) pa_nil)))))))) (pss_one (ps_ret pe_non)) pss_nil)
          (pss_cons (ps_set (i := 2) sc_ldue.nd rfl (Or.inl rfl) (pe_tup (pa_cons (pe_callTy call_int_str (by rfl) T.n_int (by decide +kernel) (pa_cons (pe_slice sl_str (pv 0) po_none (po_some pe_int)) pa_nil)) (pa_cons (pe_op op_add (pe_callTy call_int_str (by rfl) T.n_int (by decide +kernel) (pa_cons (pe_slice sl_str (pv 0) (po_some pe_int) po_none) pa_nil)) pe_int) pa_nil))))
          (pss_one (ps_ret (pe_ifExp (pt_cmpR op_lt (pe_ix (ixt K) (pv 2) pe_int (fun _ _ => rfl)) (pe_ix (ixt K) (pv 2) pe_int (fun _ _ => rfl)) (nomark _)) (pv 2) pe_non))))), ?_⟩
    have sz : (tx l).length ≤ sizeLine := sz_of (by rw [tx_len]; omega)
    have e1 : cutS (tx l) none (some 4) = tx (l.take 4) := cutS_to l 4
    have e3 : cutS (tx l) (some 5) none = tx (l.drop 5) := cutS_from l 5
    refine ⟨fun σ H1 => σ = [some (.str (tx l)), none, none] ∧ Same H H1 ∧ l.length = 9 ∧ (l.drop 4).take 1 = [45] ∧ figB (l.take 4) = true ∧ figB (l.drop 5) = true, ?_, ?_⟩
    · have no : readS l = none → ∀ H1, Same H H1 → Q .non H1 := fun z H1 s1 => k _ H1 s1 (by rw [z]; rfl)
      refine ⟨_, rfl, _, rfl, sz, rfl, _, rfl, ?_⟩
      by_cases c : l.length = 9
      · refine iteNS (by rw [tx_len, c]; rfl) ?_
        obtain ⟨x, hx⟩ : ∃ x, l[4]? = some x := ⟨_, List.getElem?_eq_getElem (by omega)⟩
        have dx := drop_one hx
        have hx2 : (tx l).cps.toList[4]? = some x := by
          rw [tx_list]
          exact hx
        have hx3 : atI (tx l).cps.toList 4 = some x := by
          unfold atI
          rw [show ixN (tx l).cps.toList.length 4 = some 4 by
            rw [tx_list, c]
            rfl]
          exact hx2
        refine ⟨_, rfl, tx l, 4, x, rfl, rfl, sz, hx3, rfl, _, rfl, ?_⟩
        by_cases c2 : x = 45
        · subst c2
          refine iteNS (congrArg V.str (dash_tx.mpr rfl)) ?_
          refine ⟨_, rfl, _, rfl, _, rfl, sz, _, rfl, _, rfl, _, rfl, sz, _, _, rfl, rfl, ?_, ?_⟩
          · rw [e1, e3, tx_len, tx_len, sizeLine_eq, List.length_take, List.length_drop]
            omega
          rw [e1, e3, tx_app]
          refine ⟨_, rfl, fun D nD => ?_⟩
          refine ls_bools (K := K) (D := D) (l := l.take 4 ++ l.drop 5) (fun c => decide (isFig c)) nD (by rw [List.length_append, List.length_take, List.length_drop]; omega) ?_ ?_
          · rintro c H2 C C2 hc s2 kC
            refine ⟨rfl, ?_⟩
            refine ⟨_, rfl, c, _, rfl, rfl, ?_⟩
            rw [fig_mem]
            exact kC _ (Same.refl _)
          · intro H2 s2 hD
            refine ⟨D, _, rfl, SqL.of hD, ?_⟩
            rw [List.all_map]
            cases f : figB (l.take 4 ++ l.drop 5) with
            | true =>
              have g := f
              rw [figB_app, Bool.and_eq_true] at f
              exact ⟨_, congrArg V.bl g, iteF ⟨rfl, s2, c, dx, f.1, f.2⟩⟩
            | false =>
              have no2 : ¬ (figB (l.take 4) = true ∧ figB (l.drop 5) = true) := fun z => by
                rw [figB_app, z.1, z.2] at f
                cases f
              exact ⟨_, congrArg V.bl f, iteT (no (readS_no fun z => no2 ⟨z.2.2.1, z.2.2.2.1⟩) H2 s2)⟩
        · refine iteN (fun z => c2 ?_) (no (readS_no fun z => ?_) H (Same.refl H))
          · have q : tx [x] = ("-" : Str) := V.str.inj z
            have := dash_tx.mp q
            simpa using this
          · rw [dx] at z
            exact c2 (by simpa using z.2.1)
      · refine iteN (fun z => ?_) (no (readS_no fun z => c z.1) H (Same.refl H))
        injection z with z
        rw [tx_len] at z
        omega
    rintro σ H1 ⟨rfl, s1, c1, c2, c3, c4⟩
    have ne3 : l.take 4 ≠ [] := fun z => by
      have := congrArg List.length z
      rw [List.length_take, c1] at this
      cases this
    have ne4 : l.drop 5 ≠ [] := fun z => by
      have := congrArg List.length z
      rw [List.length_drop, c1] at this
      cases this
    refine ⟨_, rfl, _, rfl, _, rfl, sz, ?_⟩
    rw [e1]
    refine ⟨tx (l.take 4), _, rfl, int_of c3 ne3 (by rw [List.length_take]; omega), by rw [tx_len, List.length_take]; omega, ?_⟩
    refine ⟨_, rfl, _, rfl, _, rfl, sz, ?_⟩
    rw [e3]
    refine ⟨tx (l.drop 5), _, rfl, int_of c4 ne4 (by rw [List.length_drop]; omega), by rw [tx_len, List.length_drop]; omega, _, _, rfl, rfl, (by show 2 ≤ sizeLine; decide), fun p np => ?_⟩
    have u := same_new (o := .tup [V.int ((PySem.NumText.digitsVal (l.take 4) : Nat) : Int), V.int (((PySem.NumText.digitsVal (l.drop 5) : Nat) : Int) + 1)]) np
    refine ⟨_, rfl, p, _, _, _, rfl, rfl, SqT.of upd_same, at_of (j := 0) rfl rfl, _, rfl, p, _, _, _, rfl, rfl, SqT.of upd_same, at_of (j := 1) rfl rfl, _, _, rfl, rfl, _, rfl, ?_⟩
    by_cases c : ((PySem.NumText.digitsVal (l.take 4) : Nat) : Int) < ((PySem.NumText.digitsVal (l.drop 5) : Nat) : Int) + 1
    · refine iteD c ⟨_, rfl, k _ _ (s1.trans u) ?_⟩
      rw [readS_yes ⟨c1, c2, c3, c4, by omega⟩]
      exact ⟨p, rfl, upd_same⟩
    · refine iteDF c (k _ _ (s1.trans u) ?_)
      rw [readS_no fun z => c (by have := z.2.2.2.2; omega)]
      rfl

theorem sc_Span___str__ : FnScope N_Span___str__ ["self"] (defScope s_Span___str__) := ⟨rfl, rfl, rfl, by decide +kernel, rfl, by decide +kernel, by decide +kernel⟩
def sp_Span___str__ (K : PySem.W.Frag) : Sp := fun vs H Q _ => ∃ (v : V) (s : Int × Int), vs = [v] ∧ SpanAt K H v s ∧ SpanOk s ∧ Q (.str (spanT s)) H
theorem ok_Span___str__ {f : Addr} {fd : FuncData} (F : FunD K "__str__" "Span.__str__" (defArgs s_Span___str__) (defBody s_Span___str__) (defScope s_Span___str__) [] [] f fd) (T : Txt K mg) : FnOk P w K mg base (L2N.CX P w) 1 f fd ["self"] (sp_Span___str__ K) := by
  refine F.ok sc_Span___str__ (fun vs H Q E h => ?_) (fun cdv A outer s H vs Q E hr h => ?_)
  · obtain ⟨v, s, rfl, _⟩ := h
    rfl
  · obtain ⟨v, s, rfl, hv, ok, k⟩ := h
    refine ⟨_, (pss_one (ps_ret (pe_joined (.cons (pe_f4 (fldK K (pv 0) rfl) (pe_joined1 pe_str)) (.cons pe_str (.cons (pe_f4 (pe_op op_sub (fldK K (pv 0) rfl) pe_int) (pe_joined1 pe_str)) .nil)))))), ?_⟩
    obtain ⟨o1, o2, o3⟩ := ok
    refine t_first T.f_Span hv (t_var rfl) ⟨_, rfl, o1, by omega, _, rfl, ?_, ?_⟩
    · rw [se_app]
      exact zTxt_len o1 (by omega)
    · refine ⟨_, rfl, ?_, ?_⟩
      · rw [se_app]
        rw [str_len_app, zTxt_len4 o1 (by omega), sizeLine_eq]
        decide
      · refine t_until T.f_Span hv (t_var rfl) ⟨_, _, rfl, rfl, _, rfl, by omega, by omega, _, rfl, ?_, ?_⟩
        · rw [se_app]
          show (spanT s).length ≤ _
          rw [spanT_len9 ⟨o1, o2, o3⟩, sizeLine_eq]
          decide
        · rw [se_app]
          exact k

theorem sc_law : FnScope N_law ["_law_script"] (defScope s_law) := ⟨rfl, rfl, rfl, by decide +kernel, rfl, by decide +kernel, by decide +kernel⟩
def sp_law (K : PySem.W.Frag) : Sp := fun vs H Q _ => ∃ (a : Addr) (ns : List Int), vs = [.ref a] ∧ SqL K H a (ns.map V.int) ∧ ns.length ≤ 63 ∧ ∀ H', Q (.bl true) H'
def wordD : PyData := .tuple [.str "BadText", .int 0]
theorem dp_word {K : PySem.W.Frag} {H : Hp} {q : Addr} (h : H q = some (.tup [.str "BadText", .int 0])) : Dp K H (.ref q) wordD := .tup (SqT.of h) (.cons (.str _) (.cons (.int _) .nil))
theorem sh_word : SeqAt.shaped wordD = true := by decide +kernel
theorem ok_law {f : Addr} {fd : FuncData} (F : FnP K "law" s_law f fd) (T : Txt K mg) (C_ldigits : Own P w K mg base "_law_digits" ["_law_script", "_law_k", "_law_sizes"] 3 (sp_ldigits K)) (C_lspan : Own P w K mg base "_law_span" ["_law_told", "_law_due_here"] 3 (sp_lspan K)) (C_lread : Own P w K mg base "_law_read" ["_law_text"] 5 (sp_lread K)) (C_ldue : Own P w K mg base "_law_due" ["_law_text"] 1 (sp_ldue K)) (C_Span___init__ : MakX P w K mg base "Span" ["self", "first", "until"] 1 (sp_Span___init__ K)) (C_Span___str__ : MetX P w K mg base "Span" "__str__" ["self"] 1 (sp_Span___str__ K)) : FnOk P w K mg base CX0 6 f fd ["_law_script"] (sp_law K) := by
  refine F.ok sc_law (fun vs H Q E h => ?_) (fun cdv A outer s H vs Q E hr h => ?_)
  · obtain ⟨a, ns, rfl, _⟩ := h
    rfl
  · obtain ⟨a, ns, rfl, hS, hlen, k⟩ := h
    refine ⟨_, PSs.nox (pss_cons (ps_set (i := 0) sc_law.nd rfl (Or.inl rfl) (pe_slice (slK K) (pv 0) po_none (po_some pe_int)))
          (C8.pss_cut (ps_for PassesOwn.never rfl (pi_range1 (by rfl) T.n_range (pa_cons pe_int pa_nil)) (pg_name (i := 1) sc_law.nd rfl (Or.inl rfl))
            (pss_cons (ps_asg (pe_own C_ldigits (hr.mono (by omega)) (pa_cons (pv 0) (pa_cons (pv 1) (pa_cons (pe_lst (pa_cons pe_int (pa_cons pe_int (pa_cons pe_int (pa_cons pe_int (pa_cons pe_int (pa_cons pe_int pa_nil))))))) pa_nil)))) (pguK (n := 6) K rfl (pgs_cons (pg_name (i := 2) sc_law.nd rfl (Or.inl rfl)) (pgs_cons (pg_name (i := 3) sc_law.nd rfl (Or.inl rfl)) (pgs_cons (pg_name (i := 4) sc_law.nd rfl (Or.inl rfl)) (pgs_cons (pg_name (i := 5) sc_law.nd rfl (Or.inl rfl)) (pgs_cons (pg_name (i := 6) sc_law.nd rfl (Or.inl rfl)) (pgs_cons (pg_name (i := 7) sc_law.nd rfl (Or.inl rfl)) pgs_nil))))))))
              (C8.pss_cut (ps_set (i := 8) sc_law.nd rfl (Or.inl rfl) (pe_callTy (strO K C_Span___str__ (hr.mono (by omega))) (by rfl) T.n_str (by decide +kernel) (pa_cons (pe_mkN K C_Span___init__ (hr.mono (by omega)) (pa_cons (pv 2) (pa_cons (pe_callB (call_min2 rfl) (by rfl) T.n_min (by decide +kernel) (pa_cons pe_int (pa_cons (pe_op op_add (pe_op op_add (pv 2) pe_int) (pe_op op_mod (pv 3) (pe_ix (ixl K) (pe_lst (pa_cons pe_int (pa_cons pe_int pa_nil))) (pe_op op_mod (pv 4) pe_int) (fun _ _ => rfl)))) pa_nil))) pa_nil))) pa_nil)))
              (C8.pss_cut (ps_set (i := 6) sc_law.nd rfl (Or.inl rfl) (pe_ix ix_str pe_str (pv 6) (fun _ _ => rfl)))
              (C8.pss_cut (ps_if (pt_cmpR op_eq (pv 4) pe_int (nomark _)) (pss_one (ps_set (i := 8) sc_law.nd rfl (Or.inl rfl) (pe_op op_add_str (pe_op op_add_str (pe_slice sl_str (pv 8) po_none (po_some (pv 5))) (pv 6)) (pe_slice sl_str (pv 8) (po_some (pv 5)) po_none)))) (pss_one (ps_if (pt_cmpR op_eq (pv 4) pe_int (nomark _)) (pss_one (ps_set (i := 8) sc_law.nd rfl (Or.inl rfl) (pe_op op_add_str (pe_slice sl_str (pv 8) po_none (po_some (pv 5))) (pe_slice sl_str (pv 8) (po_some (pe_op op_add (pv 5) pe_int)) po_none)))) (pss_one (ps_if (pt_cmpR op_eq (pv 4) pe_int (nomark _)) (pss_one (ps_set (i := 8) sc_law.nd rfl (Or.inl rfl) (pe_op op_add_str (pe_op op_add_str (pe_slice sl_str (pv 8) po_none (po_some (pv 5))) (pv 6)) (pe_slice sl_str (pv 8) (po_some (pe_op op_add (pv 5) pe_int)) po_none)))) (pss_one (ps_if (pt_cmpR op_eq (pv 4) pe_int (nomark _)) (pss_one (ps_set (i := 8) sc_law.nd rfl (Or.inl rfl) (pe_op op_add_str (pe_op op_add_str (pe_slice sl_str (pv 8) (po_some pe_int) po_none) pe_str) (pe_slice sl_str (pv 8) po_none (po_some pe_int))))) (pss_one (ps_if (pt_cmpR op_eq (pv 4) pe_int (nomark _)) (pss_one (ps_set (i := 8) sc_law.nd rfl (Or.inl rfl) (pe_slice sl_str (pv 8) po_none (po_some (pv 7))))) (pss_one (ps_if (pt_cmpR op_eq (pv 4) pe_int (nomark _)) (pss_one (ps_set (i := 8) sc_law.nd rfl (Or.inl rfl) (pe_ix (ixl K) (pe_lst (pa_cons (pe_op op_add_str pe_str (pv 8)) (pa_cons (pe_op op_add_str (pv 8) pe_str) (pa_cons (pe_op op_add_str (pv 8) pe_str) (pa_cons (pe_op op_add_str pe_str (pv 8)) (pa_cons (pe_op op_add_str (pe_op op_add_str (pe_slice sl_str (pv 8) po_none (po_some pe_int)) pe_str) (pe_slice sl_str (pv 8) (po_some pe_int) po_none)) pa_nil)))))) (pe_op op_mod (pv 5) pe_int) (fun _ _ => rfl)))) pss_nil)))))))))))
              (C8.pss_cut (ps_asg (pe_own C_lread (hr.mono (by omega)) (pa_cons (pv 8) pa_nil)) (pgtK (n := 2) K rfl (pgs_cons (pg_name (i := 9) sc_law.nd rfl (Or.inl rfl)) (pgs_cons (pg_name (i := 10) sc_law.nd rfl (Or.inl rfl)) pgs_nil))))
              (pss_cons (ps_set (i := 11) sc_law.nd rfl (Or.inl rfl) (pe_own C_ldue (hr.mono (by omega)) (pa_cons (pv 8) pa_nil)))
              (C8.pss_cut (ps_if (PW.pt (pw_or (PW.pt (pw_and (pt_cmpR op_isN (pv 11) pe_non (nomark _)) (pw_and1 (pt_cmpR (neDK K hr.units) (pv 10) (pe_tup (pa_cons pe_str (pa_cons pe_int pa_nil))) (nomark _))))) (pw_or1 (pt_not (pt_val (pe_own C_lspan (hr.mono (by omega)) (pa_cons (pv 9) (pa_cons (pv 11) pa_nil)))))))) (pss_one (ps_ret pe_bl)) pss_nil)
              (pss_one (ps_if (PW.pt (pw_and (pt_cmpR op_notN (pv 11) pe_non (nomark _)) (pw_and1 (pt_cmpR op_ne (pe_callTy (strO K C_Span___str__ (hr.mono (by omega))) (by rfl) T.n_str (by decide +kernel) (pa_cons (pv 9) pa_nil)) (pv 8) (nomark _))))) (pss_one (ps_ret pe_bl)) pss_nil))))))))))
          (pss_one (ps_ret (pe_cmpR (eqDK K hr.units) (pe_own C_lread (hr.mono (by omega)) (pa_cons pe_str pa_nil)) (pe_tup (pa_cons pe_non (pa_cons (pe_tup (pa_cons pe_str (pa_cons pe_int pa_nil))) pa_nil))) (nomark _)))))), ?_⟩
    obtain ⟨ns1, cut1, len1⟩ := cut_ints ns none (some 63)
    refine ⟨_, rfl, _, rfl, a, _, rfl, hS, fun b hb => ?_⟩
    rw [cut1]
    have hS0 : SqL K (upd H b (.lst (ns1.map V.int))) b (ns1.map V.int) := SqL.of upd_same
    generalize upd H b (.lst (ns1.map V.int)) = H0 at *
    refine ⟨fun _ _ => True, ?_, fun σ H1 _ => ?_⟩
    · refine ⟨12, rfl, by decide, by decide, for_range (lo := 0) (n := 12) (fun i σ H2 => (∃ v1 v2 v3 v4 v5 v6 v7 v8 v9 v10 v11 : Option V, σ = [some (.ref b), v1, v2, v3, v4, v5, v6, v7, v8, v9, v10, v11]) ∧ Same H0 H2)
        ⟨⟨_, _, _, _, _, _, _, _, _, _, _, rfl⟩, Same.refl _⟩ ?_ (fun _ _ _ => trivial)⟩
      rintro i σ H1 hi ⟨⟨v1, v2, v3, v4, v5, v6, v7, v8, v9, v10, v11, rfl⟩, s1⟩
      refine ⟨_, rfl, _, rfl, (by show 6 ≤ sizeLine; decide), fun p2 hp2 => ?_⟩
      have u2 := same_new (o := .lst [V.int 10000, .int 10000, .int 9, .int 10, .int 15, .int 9]) hp2
      refine ⟨b, p2, ns1, [10000, 10000, 9, 10, 15, 9], _, rfl, (s1.trans u2).seq hS0, by omega, SqL.of upd_same, (by show 6 ≤ 1000; decide), ?_, fun q3 es H3 nq3 s3 hq3 dig => ?_⟩
      · intro s hs
        simp only [List.mem_cons, List.not_mem_nil, or_false] at hs
        rcases hs with rfl | rfl | rfl | rfl | rfl | rfl <;> decide
      obtain ⟨first, _, rfl, a0, b0, dig⟩ := dig.inv
      obtain ⟨wide, _, rfl, a1, b1, dig⟩ := dig.inv
      obtain ⟨wy, _, rfl, a2, b2, dig⟩ := dig.inv
      obtain ⟨at1, _, rfl, a3, b3, dig⟩ := dig.inv
      obtain ⟨sg, _, rfl, a4, b4, dig⟩ := dig.inv
      obtain ⟨cu, _, rfl, a5, b5, dig⟩ := dig.inv
      have e := dig.inv0
      subst e
      obtain ⟨m, rfl⟩ := Int.eq_ofNat_of_zero_le a3
      refine ⟨q3, _, rfl, SqL.of hq3, rfl, _, _, rfl, _, _, rfl, _, _, rfl, _, _, rfl, _, _, rfl, _, _, rfl, rfl, ?_⟩
      have t3 := (s1.trans u2).trans s3
      clear s3 nq3 hq3 u2 hp2 s1
      refine ⟨fun σ H4 => (∃ l : List Nat, σ = [some (.ref b), some (.int (0 + (i : Int))), some (.int first), some (.int wide), some (.int wy), some (.int (m : Int)), some (.int sg), some (.int cu), some (.str (tx l)), v9, v10, v11] ∧ l.length = 9) ∧ Same H0 H4, ?_, ?_⟩
      · refine ⟨_, rfl, _, rfl, _, _, rfl, rfl, _, rfl, (by show 2 ≤ sizeLine; decide), fun p4 hp4 => ?_⟩
        have t4 := t3.trans (same_new (o := .lst ([10000, 7].map V.int)) hp4)
        have w0 := Int.emod_nonneg wy (by decide : (2 : Int) ≠ 0)
        have w1 := Int.emod_lt_of_pos wy (by decide : (0 : Int) < 2)
        obtain ⟨md, emd, mpos⟩ : ∃ z, atI ([10000, 7].map V.int) (wy % 2) = some (V.int z) ∧ 0 < z := by
          have k2 : wy % 2 = 0 ∨ wy % 2 = 1 := by omega
          rcases k2 with q | q <;> rw [q]
          · exact ⟨10000, rfl, by decide⟩
          · exact ⟨7, rfl, by decide⟩
        refine ⟨_, rfl, _, _, rfl, rfl, (by decide : (0 : Int) < 2), p4, _, _, _, rfl, rfl, SqL.of upd_same, emd, _, _, rfl, rfl, mpos, _, _, rfl, rfl, _, _, rfl, ?_⟩
        have e0 := Int.emod_nonneg wide (Int.ne_of_gt mpos)
        have ok : SpanOk (first, if first + 1 + wide % md < 10000 then first + 1 + wide % md else 10000) := by
          have q0 : first + 1 + wide % md > first := by omega
          generalize first + 1 + wide % md = t at *
          unfold SpanOk
          dsimp only
          refine ⟨a0, ?_, ?_⟩ <;> split <;> omega
        refine fun x dx nx ndx ne => mk_span nx ndx (fun _ H5 s5 hx => ⟨rfl, ?_⟩) (fun no => absurd ok no)
        have hx' := hx
        obtain ⟨x', dx', ex, hx2⟩ := hx
        cases ex
        refine ⟨x, dx', _, rfl, hx2, _, _, rfl, hx', ok, _, rfl, ?_⟩
        refine ⟨⟨(spanT (first, if first + 1 + wide % md < 10000 then first + 1 + wide % md else 10000)).cps.toList, ?_, ?_⟩, t4.trans s5⟩
        · rw [tx_eq]
          rfl
        · rw [Array.length_toList]
          exact spanT_len9 ok
      rintro σ H4 ⟨⟨l, rfl, l9⟩, s4⟩
      clear t3
      refine ⟨fun σ H5 => (∃ c : Nat, σ = [some (.ref b), some (.int (0 + (i : Int))), some (.int first), some (.int wide), some (.int wy), some (.int (m : Int)), some (.str ⟨#[c]⟩), some (.int cu), some (.str (tx l)), v9, v10, v11]) ∧ Same H0 H5, ?_, ?_⟩
      · obtain ⟨c, hc⟩ := at_some ("0123456789- x~\n" : Str).cps.toList (i := sg) a4 (by rw [show ("0123456789- x~\n" : Str).cps.toList.length = 15 by decide +kernel]; exact b4)
        exact ⟨_, rfl, _, _, c, rfl, rfl, (by decide +kernel), hc, ⟨c, rfl⟩, s4⟩
      rintro σ H5 ⟨⟨c, rfl⟩, s5⟩
      clear s4
      have tl := tx_len l
      have sz : (tx l).length ≤ sizeLine := sz_of (by omega)
      have c1 : cutS (tx l) none (some (m : Int)) = tx (l.take m) := cutS_to l m
      have c2 : cutS (tx l) (some (m : Int)) none = tx (l.drop m) := cutS_from l m
      have c3 : cutS (tx l) (some ((m : Int) + 1)) none = tx (l.drop (m + 1)) := by
        rw [show (m : Int) + 1 = ((m + 1 : Nat) : Int) by omega]
        exact cutS_from l (m + 1)
      have c4 : cutS (tx l) none (some 4) = tx (l.take 4) := cutS_to l 4
      have c5 : cutS (tx l) (some 5) none = tx (l.drop 5) := cutS_from l 5
      have z1 : ∀ {a b : List Nat}, a.length + b.length ≤ 100 → (tx a).length + (tx b).length ≤ sizeLine := fun {a b} h => by
        rw [tx_len, tx_len, sizeLine_eq]
        omega
      have lt : ∀ k, (l.take k).length ≤ 9 := fun k => by rw [List.length_take]; omega
      have ld : ∀ k, (l.drop k).length ≤ 9 := fun k => by rw [List.length_drop]; omega
      refine ⟨fun σ H6 => (∃ l : List Nat, σ = [some (.ref b), some (.int (0 + (i : Int))), some (.int first), some (.int wide), some (.int wy), some (.int (m : Int)), some (.str ⟨#[c]⟩), some (.int cu), some (.str (tx l)), v9, v10, v11] ∧ l.length ≤ 40) ∧ Same H0 H6, ?_, ?_⟩
      · refine ⟨_, rfl, rfl, _, rfl, ?_⟩
        refine ite2 (fun _ => ?_) (fun _ => ?_)
        · refine ⟨_, rfl, _, rfl, _, rfl, _, rfl, sz, ?_⟩
          rw [c1]
          refine ⟨_, rfl, _, _, rfl, rfl, z1 (b := [c]) (by have := lt m; simp only [List.length_singleton]; omega), ?_⟩
          refine ⟨_, rfl, _, rfl, _, rfl, _, rfl, sz, ?_⟩
          rw [c2, show (tx (l.take m) ++ ⟨#[c]⟩ : Str) = tx (l.take m ++ [c]) from tx_app _ [c]]
          refine ⟨_, _, rfl, rfl, z1 (by have := lt m; have := ld m; rw [List.length_append]; simp only [List.length_singleton]; omega), ?_⟩
          rw [tx_app]
          exact ⟨⟨_, rfl, by have := lt m; have := ld m; rw [List.length_append, List.length_append]; simp only [List.length_singleton]; omega⟩, s5⟩
        refine ⟨_, rfl, rfl, _, rfl, ?_⟩
        refine ite2 (fun _ => ?_) (fun _ => ?_)
        · refine ⟨_, rfl, _, rfl, _, rfl, _, rfl, sz, ?_⟩
          rw [c1]
          refine ⟨_, rfl, _, rfl, _, _, rfl, rfl, _, rfl, _, rfl, sz, ?_⟩
          rw [c3]
          refine ⟨_, _, rfl, rfl, z1 (by have := lt m; have := ld (m + 1); omega), ?_⟩
          rw [tx_app]
          exact ⟨⟨_, rfl, by have := lt m; have := ld (m + 1); rw [List.length_append]; omega⟩, s5⟩
        refine ⟨_, rfl, rfl, _, rfl, ?_⟩
        refine ite2 (fun _ => ?_) (fun _ => ?_)
        · refine ⟨_, rfl, _, rfl, _, rfl, _, rfl, sz, ?_⟩
          rw [c1]
          refine ⟨_, rfl, _, _, rfl, rfl, z1 (b := [c]) (by have := lt m; simp only [List.length_singleton]; omega), ?_⟩
          refine ⟨_, rfl, _, rfl, _, _, rfl, rfl, _, rfl, _, rfl, sz, ?_⟩
          rw [c3, show (tx (l.take m) ++ ⟨#[c]⟩ : Str) = tx (l.take m ++ [c]) from tx_app _ [c]]
          refine ⟨_, _, rfl, rfl, z1 (by have := lt m; have := ld (m + 1); rw [List.length_append]; simp only [List.length_singleton]; omega), ?_⟩
          rw [tx_app]
          exact ⟨⟨_, rfl, by have := lt m; have := ld (m + 1); rw [List.length_append, List.length_append]; simp only [List.length_singleton]; omega⟩, s5⟩
        refine ⟨_, rfl, rfl, _, rfl, ?_⟩
        refine ite2 (fun _ => ?_) (fun _ => ?_)
        · refine ⟨_, rfl, _, rfl, _, rfl, sz, ?_⟩
          rw [c5]
          refine ⟨_, _, rfl, rfl, z1 (b := [45]) (by have := ld 5; simp only [List.length_singleton]; omega), ?_⟩
          refine ⟨_, rfl, _, rfl, _, rfl, sz, ?_⟩
          rw [c4, show (tx (l.drop 5) ++ ("-" : Str) : Str) = tx (l.drop 5 ++ [45]) from tx_app _ [45]]
          refine ⟨_, _, rfl, rfl, z1 (by have := lt 4; have := ld 5; rw [List.length_append]; simp only [List.length_singleton]; omega), ?_⟩
          rw [tx_app]
          exact ⟨⟨_, rfl, by have := lt 4; have := ld 5; rw [List.length_append, List.length_append]; simp only [List.length_singleton]; omega⟩, s5⟩
        refine ⟨_, rfl, rfl, _, rfl, ?_⟩
        refine ite2 (fun _ => ?_) (fun _ => ?_)
        · obtain ⟨z, rfl⟩ := Int.eq_ofNat_of_zero_le a5
          refine ⟨_, rfl, _, rfl, _, rfl, _, rfl, sz, ?_⟩
          rw [show cutS (tx l) none (some (z : Int)) = tx (l.take z) from cutS_to l z]
          exact ⟨⟨_, rfl, by have := lt z; omega⟩, s5⟩
        refine ⟨_, rfl, rfl, _, rfl, ?_⟩
        refine ite2 (fun _ => ?_) (fun _ => ⟨⟨l, rfl, by omega⟩, s5⟩)
        refine ⟨_, rfl, _, _, rfl, rfl, z1 (a := [32]) (b := l) (by simp only [List.length_singleton]; omega), ?_⟩
        refine ⟨_, rfl, _, _, rfl, rfl, z1 (a := l) (b := [32]) (by simp only [List.length_singleton]; omega), ?_⟩
        refine ⟨_, rfl, _, _, rfl, rfl, z1 (a := l) (b := [45]) (by simp only [List.length_singleton]; omega), ?_⟩
        refine ⟨_, rfl, _, _, rfl, rfl, z1 (a := [45]) (b := l) (by simp only [List.length_singleton]; omega), ?_⟩
        refine ⟨_, rfl, _, rfl, _, rfl, sz, ?_⟩
        rw [c4]
        refine ⟨_, _, rfl, rfl, z1 (b := [45, 45]) (by have := lt 4; simp only [List.length_cons, List.length_nil]; omega), ?_⟩
        refine ⟨_, rfl, _, rfl, _, rfl, sz, ?_⟩
        rw [c5, show ((" " : Str) ++ tx l : Str) = tx ([32] ++ l) from tx_app [32] l, show (tx l ++ (" " : Str) : Str) = tx (l ++ [32]) from tx_app l [32], show (tx l ++ ("-" : Str) : Str) = tx (l ++ [45]) from tx_app l [45], show (("-" : Str) ++ tx l : Str) = tx ([45] ++ l) from tx_app [45] l, show (tx (l.take 4) ++ ("--" : Str) : Str) = tx (l.take 4 ++ [45, 45]) from tx_app _ [45, 45]]
        refine ⟨_, _, rfl, rfl, z1 (by have := lt 4; have := ld 5; rw [List.length_append]; simp only [List.length_cons, List.length_nil]; omega), ?_⟩
        rw [tx_app]
        refine ⟨(by show 5 ≤ sizeLine; decide), fun p6 m6 => ?_⟩
        obtain ⟨y, hy, ey⟩ : ∃ y : List Nat, y.length ≤ 40 ∧ atI [V.str (tx ([32] ++ l)), V.str (tx (l ++ [32])), V.str (tx (l ++ [45])), V.str (tx ([45] ++ l)), V.str (tx (l.take 4 ++ [45, 45] ++ l.drop 5))] ((m : Int) % 5) = some (V.str (tx y)) := by
          have k5 : (m : Int) % 5 = 0 ∨ (m : Int) % 5 = 1 ∨ (m : Int) % 5 = 2 ∨ (m : Int) % 5 = 3 ∨ (m : Int) % 5 = 4 := by omega
          have := lt 4
          have := ld 5
          rcases k5 with q | q | q | q | q <;> rw [q] <;> refine ⟨_, ?_, rfl⟩ <;> simp only [List.length_append, List.length_cons, List.length_nil] <;> omega
        exact ⟨_, rfl, _, _, rfl, rfl, (by decide : (0 : Int) < 5), p6, _, _, _, rfl, rfl, SqL.of upd_same, ey, ⟨y, rfl, hy⟩, s5.trans (same_new m6)⟩
      clear c1 c2 c3 c4 c5 lt ld sz tl l9
      clear l
      rintro σ H6 ⟨⟨l, rfl, l40⟩, s6⟩
      clear s5
      refine ⟨fun σ H7 => (∃ v w : V, σ = [some (.ref b), some (.int (0 + (i : Int))), some (.int first), some (.int wide), some (.int wy), some (.int (m : Int)), some (.str ⟨#[c]⟩), some (.int cu), some (.str (tx l)), some v, some w, v11] ∧ SpanOpt K H7 v (readS l) ∧ ((readS l = none ∧ ∃ q, w = .ref q ∧ H7 q = some (.tup [.str "BadText", .int 0])) ∨ (readS l ≠ none ∧ w = .non))) ∧ Same H0 H7, ?_, ?_⟩
      · refine ⟨_, rfl, l, rfl, by omega, fun p v w H7 s7 hp hv hw => ?_⟩
        exact ⟨p, _, rfl, SqT.of hp, rfl, _, _, rfl, _, _, rfl, rfl, ⟨v, w, rfl, hv, hw⟩, s6.trans s7⟩
      rintro σ H7 ⟨⟨v, w, rfl, hv, hw⟩, s7⟩
      refine ⟨_, rfl, l, rfl, by omega, fun du H8 s8 hd => ?_⟩
      have hv8 := SpanOpt.mono s8 hv
      have s08 := s7.trans s8
      refine ⟨fun σ H9 => σ = [some (.ref b), some (.int (0 + (i : Int))), some (.int first), some (.int wide), some (.int wy), some (.int (m : Int)), some (.str ⟨#[c]⟩), some (.int cu), some (.str (tx l)), some v, some w, some du] ∧ Same H8 H9, ?_, ?_⟩
      · refine ⟨_, rfl, rfl, _, rfl, ?_⟩
        rcases hw with ⟨h1, q, rfl, hq⟩ | ⟨h1, rfl⟩
        · have ed : du = .non := by
            rw [h1] at hd
            exact hd
          subst ed
          refine iteT ?_
          refine ⟨_, rfl, (by show 2 ≤ sizeLine; decide), fun p9 m9 => ?_⟩
          have u9 := same_new (o := .tup [V.str "BadText", .int 0]) m9
          refine ⟨_, _, dp_word (u9 _ _ (s8 _ _ hq)), dp_word upd_same, sh_word, sh_word, _, rfl, ?_⟩
          rw [eqv_self sh_word]
          refine iteF ?_
          exact ⟨_, rfl, _, rfl, v, .non, readS l, rfl, SpanOpt.mono u9 hv8, PairOpt.mono u9 hd, fun s e => readS_ok e, fun H' s' => ⟨_, rfl, iteF ⟨rfl, u9.trans s'⟩⟩⟩
        · have ed : ∃ p, du = .ref p := by
            cases hr : readS l with
            | none => exact absurd hr h1
            | some s =>
              rw [hr] at hd
              obtain ⟨p, e, _⟩ := hd
              exact ⟨p, e⟩
          obtain ⟨pd, rfl⟩ := ed
          refine iteDF (fun z => by cases z) ?_
          exact ⟨_, rfl, _, rfl, v, .ref pd, readS l, rfl, hv8, hd, fun s e => readS_ok e, fun H' s' => ⟨_, rfl, iteF ⟨rfl, s'⟩⟩⟩
      rintro σ H9 ⟨rfl, s9⟩
      have done : ∀ {H' : Hp}, Same H9 H' → (∃ v1 v2 v3 v4 v5 v6 v7 v8 v9 v10 v11 : Option V, [some (.ref b), some (.int (0 + (i : Int))), some (.int first), some (.int wide), some (.int wy), some (.int (m : Int)), some (.str ⟨#[c]⟩), some (.int cu), some (.str (tx l)), some v, some w, some du] = [some (.ref b), v1, v2, v3, v4, v5, v6, v7, v8, v9, v10, v11]) ∧ Same H0 H' := fun s' => ⟨⟨_, _, _, _, _, _, _, _, _, _, _, rfl⟩, (s08.trans s9).trans s'⟩
      refine ⟨_, rfl, rfl, _, rfl, ?_⟩
      cases hr : readS l with
      | none =>
        have ed : du = .non := by
          rw [hr] at hd
          exact hd
        subst ed
        exact iteNS rfl (done (Same.refl _))
      | some s =>
        rw [hr] at hd hv8
        obtain ⟨pd, rfl, _⟩ := hd
        have hv9 : SpanAt K H9 v s := SpanAt.mono s9 hv8
        refine iteN (fun z => by cases z) ?_
        have hv' := hv9
        obtain ⟨x, dx, rfl, hx⟩ := hv9
        refine ⟨_, rfl, x, dx, _, rfl, hx, _, _, rfl, hv', readS_ok hr, _, rfl, _, rfl, rfl, _, rfl, ?_⟩
        exact iteNS (congrArg V.str (readS_text hr)) (done (Same.refl _))
    · refine ⟨[], rfl, by decide, fun p v w H2 s2 hp hv hw => ?_⟩
      have r0 : readS [] = none := rfl
      rw [r0] at hv
      cases (show v = .non from hv)
      rcases hw with ⟨_, q, rfl, hq⟩ | ⟨h, _⟩
      · refine ⟨(by show 2 ≤ sizeLine; decide), fun q1 n1 => ⟨(by show 2 ≤ sizeLine; decide), fun q2 n2 => ?_⟩⟩
        have u1 := same_new (o := .tup [V.str "BadText", .int 0]) n1
        have u2 := same_new (o := .tup [V.non, .ref q1]) n2
        have d1 : Dp K _ (.ref p) (.tuple [.none, wordD]) := .tup (SqT.of ((u1.trans u2) _ _ hp)) (.cons .non (.cons (dp_word ((u1.trans u2) _ _ hq)) .nil))
        have d2 : Dp K _ (.ref q2) (.tuple [.none, wordD]) := .tup (SqT.of upd_same) (.cons .non (.cons (dp_word (u2 _ _ upd_same)) .nil))
        have sh : SeqAt.shaped (.tuple [.none, wordD]) = true := by decide +kernel
        refine ⟨_, _, d1, d2, sh, sh, ?_⟩
        rw [eqv_self sh]
        exact k _
      · exact absurd rfl h

end
end K04

namespace K04
open PySem PySem.Spec PyProof.Rows L2 LH
theorem facts {P : Program} {w : World} {K : PySem.W.Frag} {h : Heap} {mg : Str → Option Value} {f : Addr} (X : K.In h) (G : h.Ns mainGlobals mg) (hfa : mg ("law" : Str) = some (.ref f)) (c : He.SaysD fa fn K) (cm : exF K = true) (ct : LH.tabsO tabs K = LH.tabsV tabs w) (cs : LH.supsO sups K = LH.supsV sups) (pf : P.main.file = "/claim/cut.py") (pt : (P.main.scope.names.lookup ("super" : Str)).isSome = false) :
    ∃ fd : FuncData, (∀ (s : Shared) (v : Value), BindsTo s fd ⟨[v], []⟩ [("_law_script", v)]) ∧ ∀ base : Heap, K.In base → base.Ns mainGlobals mg → FnOk P w K mg base CX0 6 f fd ["_law_script"] (sp_law K) := by
  obtain ⟨fd_are_figures, F_are_figures⟩ := c.def_ 0 (d := d_are_figures) rfl
  obtain ⟨fd_read_day, F_read_day⟩ := c.def_ 1 (d := d_read_day) rfl
  obtain ⟨fd_read_span, F_read_span⟩ := c.def_ 2 (d := d_read_span) rfl
  obtain ⟨fd_lkin, F_lkin⟩ := c.def_ 3 (d := d_lkin) rfl
  obtain ⟨fd_lmix, F_lmix⟩ := c.def_ 4 (d := d_lmix) rfl
  obtain ⟨fd_lraw, F_lraw⟩ := c.def_ 5 (d := d_lraw) rfl
  obtain ⟨fd_ldigits, F_ldigits⟩ := c.def_ 6 (d := d_ldigits) rfl
  obtain ⟨fd_lnum, F_lnum⟩ := c.def_ 7 (d := d_lnum) rfl
  obtain ⟨fd_lspan, F_lspan⟩ := c.def_ 8 (d := d_lspan) rfl
  obtain ⟨fd_lread, F_lread⟩ := c.def_ 9 (d := d_lread) rfl
  obtain ⟨fd_ldue, F_ldue⟩ := c.def_ 10 (d := d_ldue) rfl
  obtain ⟨fd_law, F_law⟩ := c.def_ 11 (d := d_law) rfl
  obtain ⟨fd_Span___init__, F_Span___init__⟩ := c.def_ 12 (d := d_Span___init__) rfl
  obtain ⟨fd_Span___eq__, F_Span___eq__⟩ := c.def_ 13 (d := d_Span___eq__) rfl
  obtain ⟨fd_Span___str__, F_Span___str__⟩ := c.def_ 14 (d := d_Span___str__) rfl
  have T : Txt K mg := ⟨He.free_ok X G (c.fact 15 (f := .free "LookupError") rfl), He.free_ok X G (c.fact 16 (f := .free "ValueError") rfl), He.free_ok X G (c.fact 17 (f := .free "all") rfl), He.free_ok X G (c.fact 18 (f := .free "bool") rfl), He.free_ok X G (c.fact 19 (f := .free "int") rfl), He.free_ok X G (c.fact 20 (f := .free "isinstance") rfl), He.free_ok X G (c.fact 21 (f := .free "len") rfl), He.free_ok X G (c.fact 22 (f := .free "min") rfl), He.free_ok X G (c.fact 23 (f := .free "range") rfl), He.free_ok X G (c.fact 24 (f := .free "str") rfl), He.free_ok X G (c.fact 25 (f := .free "super") rfl), He.free_ok X G (c.fact 26 (f := .free "zip") rfl), He.str_ok X G (c.fact 27 (f := .str "FIGURES" "0123456789") rfl), He.int_ok X G (c.fact 28 (f := .int "LAST_DAY" (9999)) rfl), He.glo_ok X G (c.fact 29 (f := .glo "Against") rfl), He.glo_ok X G (c.fact 30 (f := .glo "BadCount") rfl), He.glo_ok X G (c.fact 31 (f := .glo "BadDay") rfl), He.glo_ok X G (c.fact 32 (f := .glo "BadName") rfl), He.glo_ok X G (c.fact 33 (f := .glo "BadRow") rfl), He.glo_ok X G (c.fact 34 (f := .glo "BadText") rfl), He.glo_ok X G (c.fact 35 (f := .glo "BadTie") rfl), He.glo_ok X G (c.fact 36 (f := .glo "CantBe") rfl), He.glo_ok X G (c.fact 37 (f := .glo "Full") rfl), He.glo_ok X G (c.fact 38 (f := .glo "GivenUp") rfl), He.glo_ok X G (c.fact 39 (f := .glo "Held") rfl), He.glo_ok X G (c.fact 40 (f := .glo "Idle") rfl), He.glo_ok X G (c.fact 41 (f := .glo "NoHolding") rfl), He.glo_ok X G (c.fact 42 (f := .glo "NoLife") rfl), He.glo_ok X G (c.fact 43 (f := .glo "NoPlace") rfl), He.glo_ok X G (c.fact 44 (f := .glo "NoPresentment") rfl), He.glo_ok X G (c.fact 45 (f := .glo "Nothing") rfl), He.glo_ok X G (c.fact 46 (f := .glo "Span") rfl), He.glo_ok X G (c.fact 47 (f := .glo "Taken") rfl), He.glo_ok X G (c.fact 48 (f := .glo "Twice") rfl), errB_ok (List.all_eq_true.mp cm (errB K "BadDay" false) (by simp)), spanB_ok (List.all_eq_true.mp cm (spanB K) (by simp)), errIB_ok (List.all_eq_true.mp cm (errIB K "BadText" "at" false) (by simp))⟩
  have e := hfa.symm.trans (He.glo_ok X G (c.fact 11 (f := .glo "law") rfl))
  cases e
  have b := FunD.bindsA (ps := ["_law_script"]) F_law fun _ _ _ _ _ _ us hl => match us, hl with | [_], _ => rfl
  refine ⟨fd_law, fun s v => b s [v] rfl, fun base _ _ => ?_⟩
  obtain ⟨fd_BadText___init__, F_BadText___init__, kV_BadText___init__, doc_BadText___init__, pm_BadText___init__, an_BadText___init__, cda_BadText___init__, ct_BadText___init__, cc_BadText___init__, ef_BadText___init__⟩ := LH.supB_ok (params := defArgs s_BadText___init__) (body := defBody s_BadText___init__) (scope := defScope s_BadText___init__) (LH.sups_at cs (s := ("BadText", some ("__init__", "BadText.__init__", defArgs s_BadText___init__, .stmts (defBody s_BadText___init__), defScope s_BadText___init__))) (by simp [sups])) (List.all_eq_true.mp cm (supB K "BadText" "BadText.__init__" "/claim/cut.py") (by simp)) pf
  have B_BadText___init__ : Binds K fd_BadText___init__ ["self", "at"] [] := Binds.all fun us hl => by subst ef_BadText___init__; exact match us, hl with | [_, _], _ => rfl
  have C_BadText___init__ : MkE P w K mg base "BadText" ["self", "at"] 1 (sp_BadText___init__ K) := ⟨He.ma K (He.ga K "BadText") "__init__", fd_BadText___init__, T.i_BadText.sup.ox, T.i_BadText.ini, T.i_BadText.ity, ok_BadText___init__ F_BadText___init__ T pt, T.g_BadText, B_BadText___init__⟩
  have B_are_figures : Binds K fd_are_figures ["text"] [] := F_are_figures.bindsN fun _ _ _ _ _ _ us hl => match us, hl with | [_], _ => rfl
  have g_are_figures := He.glo_ok X G (c.fact 0 (f := .glo "are_figures") rfl)
  have C_are_figures : Own P w K mg base "are_figures" ["text"] 1 (sp_are_figures K) := ⟨_, fd_are_figures, ok_are_figures F_are_figures T , g_are_figures, F_are_figures.kp, B_are_figures⟩
  have B_read_day : Binds K fd_read_day ["text"] [] := F_read_day.bindsN fun _ _ _ _ _ _ us hl => match us, hl with | [_], _ => rfl
  have g_read_day := He.glo_ok X G (c.fact 1 (f := .glo "read_day") rfl)
  have C_read_day : OwnX P w K mg base "read_day" ["text"] 3 (sp_read_day K) := ⟨_, fd_read_day, ok_read_day F_read_day T C_are_figures C_BadText___init__, g_read_day, F_read_day.kp, B_read_day⟩
  have B_Span___init__ : Binds K fd_Span___init__ ["self", "first", "until"] [] := F_Span___init__.bindsN fun _ _ _ _ _ _ us hl => match us, hl with | [_, _, _], _ => rfl
  have C_Span___init__ : MakX P w K mg base "Span" ["self", "first", "until"] 1 (sp_Span___init__ K) := ⟨_, fd_Span___init__, He.mkr_ok (c.fact 12 (f := .mkr "Span") rfl), ok_Span___init__ F_Span___init__ T , He.glo_ok X G (c.fact 46 (f := .glo "Span") rfl), B_Span___init__⟩
  have B_read_span : Binds K fd_read_span ["text"] [] := F_read_span.bindsN fun _ _ _ _ _ _ us hl => match us, hl with | [_], _ => rfl
  have g_read_span := He.glo_ok X G (c.fact 2 (f := .glo "read_span") rfl)
  have C_read_span : OwnX P w K mg base "read_span" ["text"] 4 (sp_read_span K) := ⟨_, fd_read_span, ok_read_span F_read_span T C_read_day C_BadText___init__ C_Span___init__, g_read_span, F_read_span.kp, B_read_span⟩
  have B_lkin : Binds K fd_lkin ["_law_e"] [] := F_lkin.bindsN fun _ _ _ _ _ _ us hl => match us, hl with | [_], _ => rfl
  have g_lkin := He.glo_ok X G (c.fact 3 (f := .glo "_law_kin") rfl)
  have C_lkin : OwnE P w K mg base "_law_kin" ["_law_e"] 1 (sp_lkin K) := ⟨_, fd_lkin, ok_lkin F_lkin T , g_lkin, F_lkin.kp, B_lkin⟩
  have B_lmix : Binds K fd_lmix ["_law_seed"] [] := F_lmix.bindsN fun _ _ _ _ _ _ us hl => match us, hl with | [_], _ => rfl
  have g_lmix := He.glo_ok X G (c.fact 4 (f := .glo "_law_mix") rfl)
  have C_lmix : Own P w K mg base "_law_mix" ["_law_seed"] 1 (sp_lmix) := ⟨_, fd_lmix, ok_lmix F_lmix T , g_lmix, F_lmix.kp, B_lmix⟩
  have B_lraw : Binds K fd_lraw ["_law_script", "_law_k"] [] := F_lraw.bindsN fun _ _ _ _ _ _ us hl => match us, hl with | [_, _], _ => rfl
  have g_lraw := He.glo_ok X G (c.fact 5 (f := .glo "_law_raw") rfl)
  have C_lraw : Own P w K mg base "_law_raw" ["_law_script", "_law_k"] 2 (sp_lraw K) := ⟨_, fd_lraw, ok_lraw F_lraw T C_lmix, g_lraw, F_lraw.kp, B_lraw⟩
  have B_ldigits : Binds K fd_ldigits ["_law_script", "_law_k", "_law_sizes"] [] := F_ldigits.bindsN fun _ _ _ _ _ _ us hl => match us, hl with | [_, _, _], _ => rfl
  have g_ldigits := He.glo_ok X G (c.fact 6 (f := .glo "_law_digits") rfl)
  have C_ldigits : Own P w K mg base "_law_digits" ["_law_script", "_law_k", "_law_sizes"] 3 (sp_ldigits K) := ⟨_, fd_ldigits, ok_ldigits F_ldigits T C_lraw, g_ldigits, F_ldigits.kp, B_ldigits⟩
  have B_lnum : Binds K fd_lnum ["_law_told"] [] := F_lnum.bindsN fun _ _ _ _ _ _ us hl => match us, hl with | [_], _ => rfl
  have g_lnum := He.glo_ok X G (c.fact 7 (f := .glo "_law_num") rfl)
  have C_lnum : Own P w K mg base "_law_num" ["_law_told"] 1 (sp_lnum K) := ⟨_, fd_lnum, ok_lnum F_lnum T , g_lnum, F_lnum.kp, B_lnum⟩
  have B_Span___eq__ : Binds K fd_Span___eq__ ["self", "other"] [] := F_Span___eq__.bindsN fun _ _ _ _ _ _ us hl => match us, hl with | [_, _], _ => rfl
  have C_Span___eq__ : MetX P w K mg base "Span" "__eq__" ["self", "other"] 1 (sp_Span___eq__ K) := ⟨_, fd_Span___eq__, T.f_Span.cl, He.meth_ok (c.fact 13 (f := .meth "Span" "__eq__") rfl), ok_Span___eq__ F_Span___eq__ T , B_Span___eq__⟩
  have B_lspan : Binds K fd_lspan ["_law_told", "_law_due_here"] [] := F_lspan.bindsN fun _ _ _ _ _ _ us hl => match us, hl with | [_, _], _ => rfl
  have g_lspan := He.glo_ok X G (c.fact 8 (f := .glo "_law_span") rfl)
  have C_lspan : Own P w K mg base "_law_span" ["_law_told", "_law_due_here"] 3 (sp_lspan K) := ⟨_, fd_lspan, ok_lspan F_lspan T C_lnum C_Span___init__ C_Span___eq__, g_lspan, F_lspan.kp, B_lspan⟩
  have B_lread : Binds K fd_lread ["_law_text"] [] := F_lread.bindsN fun _ _ _ _ _ _ us hl => match us, hl with | [_], _ => rfl
  have g_lread := He.glo_ok X G (c.fact 9 (f := .glo "_law_read") rfl)
  have C_lread : Own P w K mg base "_law_read" ["_law_text"] 5 (sp_lread K) := ⟨_, fd_lread, ok_lread F_lread T C_read_span C_lkin, g_lread, F_lread.kp, B_lread⟩
  have B_ldue : Binds K fd_ldue ["_law_text"] [] := F_ldue.bindsN fun _ _ _ _ _ _ us hl => match us, hl with | [_], _ => rfl
  have g_ldue := He.glo_ok X G (c.fact 10 (f := .glo "_law_due") rfl)
  have C_ldue : Own P w K mg base "_law_due" ["_law_text"] 1 (sp_ldue K) := ⟨_, fd_ldue, ok_ldue F_ldue T , g_ldue, F_ldue.kp, B_ldue⟩
  have B_Span___str__ : Binds K fd_Span___str__ ["self"] [] := F_Span___str__.bindsN fun _ _ _ _ _ _ us hl => match us, hl with | [_], _ => rfl
  have C_Span___str__ : MetX P w K mg base "Span" "__str__" ["self"] 1 (sp_Span___str__ K) := ⟨_, fd_Span___str__, T.f_Span.cl, He.meth_ok (c.fact 14 (f := .meth "Span" "__str__") rfl), ok_Span___str__ F_Span___str__ T , B_Span___str__⟩
  exact ok_law F_law T C_ldigits C_lspan C_lread C_ldue C_Span___init__ C_Span___str__
end K04
open PySem PySem.W PySem.Calls PyProof.Rows
set_option maxRecDepth 100000 in
set_option maxHeartbeats 0 in
theorem PySem.Challenge.cw_lifehold_k04_spans_written_and_read_holds : PySem.Challenge.rw_lifehold_k04_spans_written_and_read.Holds := by
  w_on; o_law
  refine HandSHeadRun.head_any (r := OpenLaw.row PySem.Challenge.rw_lifehold_k04_spans_written_and_read) (q := view (OpenLaw.row PySem.Challenge.rw_lifehold_k04_spans_written_and_read).prog [39]) (H := K04.hk) (ob := K04.ob) (M := 14000) (loose := K04.loose) (d := HandSHeadRun.topDef (OpenLaw.row PySem.Challenge.rw_lifehold_k04_spans_written_and_read).prog 39) (kwd := []) K04.ob_eq
    (by kernel_rfl) (fun s => by kernel_rfl) K04.run (by kernel_rfl) (by kernel_rfl) (by kernel_rfl) (by rfl) (by first | assumption | decide +kernel) (by decide +kernel) ⟨rfl, rfl, rfl, rfl, rfl, by decide +kernel⟩ ?hw ?hc
  case hw => w_witness2
  case hc =>
    refine L2.walk_ofE (l := PySem.Challenge.rw_lifehold_k04_spans_written_and_read) (n := 63) (k := 6) (x := "_law_script") (CX := L2.CX0) rfl (by decide) (by kernel_rfl) ⟨rfl, by decide, by decide⟩ ?F (fun _ _ _ _ z => z)
    intro w mg fa h Y G hmg0
    obtain ⟨K, KX, c⟩ := Y
    have hmg : mg ("law" : PySem.Str) = some (.ref fa) := by
      have e : (HandSHeadRun.topDef (OpenLaw.row PySem.Challenge.rw_lifehold_k04_spans_written_and_read).prog 39).name = ("law" : PySem.Str) := by kernel_rfl
      rw [← e]
      exact hmg0
    obtain ⟨fd, hb, hF⟩ := K04.facts (P := (PySem.Challenge.rw_lifehold_k04_spans_written_and_read).prog) (w := w) KX G hmg c.1.1.1 c.1.1.2 c.2 c.1.2 (by kernel_rfl) (by kernel_rfl)
    exact ⟨K, fd, (K04.sp_law K), KX, hb, fun H a ns hl _ hS => ⟨a, ns, rfl, hS, hl, fun _ => rfl⟩, hF⟩

#print axioms PySem.Challenge.cw_lifehold_k04_spans_written_and_read_holds
